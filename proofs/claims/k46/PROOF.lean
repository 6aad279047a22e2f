import PyProof.Rows.All
import Wide.All
import OpenK.AllK
import Wide.FinOn
import Lean
import PyProof.EqAt
import PyProof.EqKinds
import PyProof.TupleCall
import PySem.Challenge.RW_ferry_k46_two_hundred_in_flight
set_option Elab.async false
set_option linter.all false
set_option maxRecDepth 100000
namespace L2
open PySem PySem.Spec PyProof.Rows
noncomputable abbrev Key:=Sum Int Str
noncomputable def keyIs:Key→Value→Bool
 | .inl k,v=>Value.isInt k v
 | .inr x,v=>Value.isStrOf x v
noncomputable def keyH (w:World):Key→Int
 | .inl k=>hashInt k
 | .inr x=>hashStr w x
theorem qAV:∀ {k:Key} {v:Value},keyIs k v=true→(∃ i t,k=Sum.inl i∧v=Value.int i t)∨(∃ x t,k=Sum.inr x∧v=Value.str x t)
 | .inl i,v,h=>by
  obtain ⟨t,e⟩:=Value.isInt_shape (k:=i) (v:=v) h
  exact .inl ⟨i,t,rfl,e⟩
 | .inr x,v,h=>by
  obtain ⟨t,e⟩:=Value.isStrOf_shape (x:=x) (v:=v) h
  exact .inr ⟨x,t,rfl,e⟩
theorem qI8 (i:Int) (t:Tok):keyIs (.inl i) (.int i t)=true:=by simp [keyIs,Value.isInt]
theorem qI7 (x:Str) (t:Tok):keyIs (.inr x) (.str x t)=true:=by simp [keyIs,Value.isStrOf]
theorem qOi (a b:Int):decide ((Sum.inl a:Key)=Sum.inl b)=(a == b):=by
 by_cases e:a=b
 ·subst e;simp
 ·have h:¬ (Sum.inl a:Key)=Sum.inl b:=fun q=>e (Sum.inl.inj q)
  rw [decide_eq_false h]
  exact (beq_eq_false_iff_ne.mpr e).symm
theorem qOe (a b:Str):decide ((Sum.inr a:Key)=Sum.inr b)=decide (a=b):=by
 by_cases e:a=b
 ·subst e;simp
 ·have h:¬ (Sum.inr a:Key)=Sum.inr b:=fun q=>e (Sum.inr.inj q)
  rw [decide_eq_false h,decide_eq_false e]
theorem qOh (a:Int) (b:Str):decide ((Sum.inl a:Key)=Sum.inr b)=false:=decide_eq_false (fun q=>nomatch q)
theorem qOf (a:Str) (b:Int):decide ((Sum.inr a:Key)=Sum.inl b)=false:=decide_eq_false (fun q=>nomatch q)
noncomputable def qBV (prog:Program) (w:World):PySem.KeyKind prog w Key where
 is:=keyIs
 hash:=keyH w
 inj:=fun v a b ha hb=>by
  rcases qAV ha with ⟨i,t,rfl,rfl⟩ | ⟨x,t,rfl,rfl⟩
  ·rcases qAV hb with ⟨j,u,rfl,e⟩ | ⟨y,u,rfl,e⟩
   ·injection e with e1 _;rw [e1]
   ·exact nomatch e
  ·rcases qAV hb with ⟨j,u,rfl,e⟩ | ⟨y,u,rfl,e⟩
   ·exact nomatch e
   ·injection e with e1 _;rw [e1]
 byValue:=fun k v h=>by
  rcases qAV h with ⟨i,t,rfl,rfl⟩ | ⟨x,t,rfl,rfl⟩ <;> rfl
 pyHash:=fun hv h=>by
  rcases qAV hv with ⟨i,t,rfl,rfl⟩ | ⟨x,t,rfl,rfl⟩
  ·exact wpAny_pyHash_int h
  ·exact wpAny_pyHash_str h
 eqBool:=fun hu hv h=>by
  rcases qAV hu with ⟨i,t,rfl,rfl⟩ | ⟨x,t,rfl,rfl⟩
  ·rcases qAV hv with ⟨j,u,rfl,rfl⟩ | ⟨y,u,rfl,rfl⟩
   ·rw [qOi] at h;exact wpAny_eqBool_int h
   ·rw [qOh] at h;exact SeqAt.EqAt.int_str i t y u _ _ _ _ h
  ·rcases qAV hv with ⟨j,u,rfl,rfl⟩ | ⟨y,u,rfl,rfl⟩
   ·rw [qOf] at h;exact SeqAt.EqAt.str_int x t j u _ _ _ _ h
   ·rw [qOe] at h;exact wpAny_eqBool_str h
 «strs»:=fun k x t v h=>by
  rcases qAV h with ⟨i,u,rfl,e⟩ | ⟨y,u,rfl,e⟩
  ·exact nomatch e
  ·injection e with e1 _
   subst e1
   cases v <;> rfl
theorem qGP (prog:Program) (w:World) (i:Int) (t:Tok):(qBV prog w).is (.inl i) (.int i t)=true:=qI8 i t
theorem qGO (prog:Program) (w:World) (x:Str) (t:Tok):(qBV prog w).is (.inr x) (.str x t)=true:=qI7 x t
end L2
namespace L2
open PySem PySem.Spec PyProof.Rows
inductive V where
 | non | bl (b:Bool) | int (i:Int) | str (x:Str) | byt (b:Array UInt8) | flt (b:UInt64) | ref (a:Addr) | ty (n:String)
 deriving DecidableEq
noncomputable def RelV:V→Value→Prop
 | .non,u=>u=Value.none
 | .bl b,u=>u=Value.bool b
 | .int i,u=>∃ t,u=Value.int i t
 | .str x,u=>∃ t,u=Value.str x t
 | .byt b,u=>∃ t,u=Value.bytes b t
 | .flt b,u=>∃ t,u=Value.float b t
 | .ref a,u=>u=Value.ref a
 | .ty n,u=>u=Value.type n
noncomputable abbrev Vals:List V→List Value→Prop:=Paired RelV
theorem Vals.length {xs:List V} {us:List Value} (r:Vals xs us):xs.length=us.length:=Paired.length r
theorem Vals.get:∀ {xs:List V} {us:List Value} {i:Nat} {x:V},Vals xs us→xs[i]?=some x→∃ u,us[i]?=some u∧RelV x u
 | _,_,_,_,.nil,e=>by simp at e
 | _,_,0,_,.cons r _,e=>by simp at e;subst e;exact ⟨_,rfl,r⟩
 | _,_,i+1,x,.cons _ t,e=>by
  obtain ⟨u,h1,h2⟩:=Vals.get (i:=i) (x:=x) t (by simpa using e)
  exact ⟨u,by simpa using h1,h2⟩
theorem Vals.set {x:V} {u:Value} (r:RelV x u):∀ {xs:List V} {us:List Value} (i:Nat),Vals xs us→Vals (xs.set i x) (us.set i u)
 | _,_,_,.nil=>.nil
 | _,_,0,.cons _ t=>.cons r t
 | _,_,i+1,.cons q t=>.cons q (Vals.set r i t)
theorem Vals.append:∀ {xs ys:List V} {us ws:List Value},Vals xs us→Vals ys ws→Vals (xs++ys) (us++ws)
 | _,_,_,_,.nil,s=>s
 | _,_,_,_,.cons r t,s=>.cons r (Vals.append t s)
theorem Vals.take:∀ {xs:List V} {us:List Value} (n:Nat),Vals xs us→Vals (xs.take n) (us.take n)
 | _,_,0,_=>.nil
 | _,_,_+1,.nil=>.nil
 | _,_,n+1,.cons r t=>.cons r (Vals.take n t)
theorem Vals.drop:∀ {xs:List V} {us:List Value} (n:Nat),Vals xs us→Vals (xs.drop n) (us.drop n)
 | _,_,0,r=>r
 | _,_,_+1,.nil=>.nil
 | _,_,n+1,.cons _ t=>Vals.drop n t
theorem Vals.none_of:∀ {xs:List V} {us:List Value} {i:Nat},Vals xs us→xs[i]?=none→us[i]?=none:=fun {xs us i} r e=>by
 have h1:=r.length
 have h2:xs.length≤i:=List.getElem?_eq_none_iff.mp e
 exact List.getElem?_eq_none_iff.mpr (by omega)
noncomputable def RelO:Option V→Option Value→Prop
 | some v,some u=>RelV v u
 | none,none=>True
 | _,_=>False
noncomputable def KV {κ:Type}:List (κ × V)→List (κ × Value)→Prop:=Paired fun (p:κ × V) (q:κ × Value)=>p.1=q.1∧RelV p.2 q.2
noncomputable def kV:Key→V
 | .inl i=>.int i
 | .inr x=>.str x
inductive HO where
 | lst (xs:List V)
 | tup (xs:List V)
 | dK (kvs:List (Key × V)) | dT (kvs:List (List Key × V))
 | set (S:Int→Bool) (n:Nat)
 | ins (C dx:Addr) (fs:List (Str × V))
 | own (x:Addr)
 | xd (fs:List (Str × V))
 | met (f x:Addr)
 | rng (lo hi:Int)
 | frz (o:Obj) (u:HO)
 | tbl (ps:Array Value)
 | ext (φ:Heap→Prop)
noncomputable abbrev Hp:=Addr→Option HO
noncomputable def upd (H:Hp) (a:Addr) (o:HO):Hp:=fun b=>if b=a then some o else H b
theorem qAB {H:Hp} {a:Addr} {o:HO}:upd H a o a=some o:=by unfold upd;rw [if_pos rfl]
theorem qAC {H:Hp} {a b:Addr} {o:HO} (h:b≠a):upd H a o b=H b:=by unfold upd;rw [if_neg h]
theorem upd_upd {H:Hp} {a:Addr} {o u:HO}:upd (upd H a o) a u=upd H a u:=by
 funext b;unfold upd;split <;> rfl
theorem ne_of_none {H:Hp} {a b:Addr} {o:HO} (h:H a=some o) (h':H b=none):a≠b:=by
 intro e;subst e;rw [h] at h';cases h'
section
variable (P:Program) (w:World)
noncomputable def ObjOk (H:Hp) (h:Heap) (a:Addr):HO→Prop
  | .lst xs=>xs.length≤sizeLine∧∃ (its:List Value) (n:Nat),Vals xs its∧h.get? a=some { cls:=.type "list",data:=.seq its.toArray n }
  | .tup xs=>xs.length≤sizeLine∧∃ its:List Value,Vals xs its∧IsTup h a its.toArray
  | .dK kvs=>kvs.length≤sizeLine∧(a == sysModules)=false∧∃ vs,KV kvs vs∧h.DictOf (qBV P w) a vs
  | .dT kvs=>kvs.length≤sizeLine∧(a == sysModules)=false∧∃ xs:List (List Key × Addr × Value),
      Paired (fun (p:List Key × V) (q:List Key × Addr × Value)=>p.1=q.1∧H q.2.1=some (.tup (p.1.map kV))∧RelV p.2 q.2.2) kvs xs ∧
      ∃ o es ep,h.get? a=some o∧o.ExactDict∧o.data=.dict es ep∧es.toList=xs.map (entryOfKey (tupleKind (qBV P w)))∧(xs.map (·.1)).Nodup
  | .set S n=>h.SetOf (intKind P w) a S n
  | .ins C dx fs=>H dx=some (.own a)∧fs.length≤1000∧dx≠a∧h.get? a=some (PySem.W.instObj C dx) ∧
      ∃ mA,h.Ns1 dx mA∧(∀ f,RelO (fs.lookup f) (mA f))∧PySem.Within mA (fs.map (·.1))
  | .own _=>∃ o,h.get? a=some o
  | .xd fs=>∃ mA,h.Ns1 a mA∧∀ f,RelO (fs.lookup f) (mA f)
  | .rng lo hi=>∃ t u v,h.get? a=some { cls:=.type "range",data:=.fields #[.int lo t,.int hi u,.int 1 v] }
  | .frz o u=>h.get? a=some o∧ObjOk H h a u
  | .tbl ps=>h.get? a=some { cls:=.none,data:=.fields ps }
  | .met f x=>h.get? a=some (PySem.W.methodObj (.ref f) (.ref x))
  | .ext φ=>φ h∧(∃ o,h.get? a=some o)∧∀ h1 h2:Heap,φ h1→(∀ o,h1.get? a=some o→h2.get? a=some o)→φ h2
noncomputable def HOk (H:Hp) (h:Heap):Prop:=∀ a o,H a=some o→ObjOk P w H h a o
end
section
variable {P:Program} {w:World} {H H':Hp} {h h':Heap} {a:Addr} {o:HO}
theorem ObjOk.lt (x:ObjOk P w H h a o):a<h.objs.size:=by
 cases o with
 | lst xs=>obtain ⟨_,_,_,_,e⟩:=x;exact Heap.lt_size e
 | tup xs=>obtain ⟨_,_,_,p⟩:=x;exact p.lt
 | dK kvs=>obtain ⟨_,_,_,_,o,_,_,e,_⟩:=x;exact Heap.lt_size e
 | dT kvs=>obtain ⟨_,_,_,_,o,_,_,e,_⟩:=x;exact Heap.lt_size e
 | set S n=>obtain ⟨o,_,_,_,e,_⟩:=x;exact Heap.lt_size e
 | ins C dx fs=>obtain ⟨_,_,_,e,_⟩:=x;exact Heap.lt_size e
 | own y=>obtain ⟨_,e⟩:=x;exact Heap.lt_size e
 | xd fs=>obtain ⟨_,⟨_,_,_,e,_⟩,_⟩:=x;exact Heap.lt_size e
 | rng lo hi=>obtain ⟨_,_,_,e⟩:=x;exact Heap.lt_size e
 | frz ob u=>obtain ⟨e,_⟩:=x;exact Heap.lt_size e
 | tbl ps=>exact Heap.lt_size (show h.get? a=some _ from x)
 | met f y=>exact Heap.lt_size (show h.get? a=some _ from x)
 | ext φ=>obtain ⟨_,⟨_,e⟩,_⟩:=x;exact Heap.lt_size e
theorem Paired.mapP {α β:Type} {F G:α→β→Prop}:∀ {l₁:List α} {l₂:List β},Paired F l₁ l₂→(∀ a b,F a b→G a b)→Paired G l₁ l₂
 | _,_,.nil,_=>.nil
 | _,_,.cons r t,f=>.cons (f _ _ r) (Paired.mapP t f)
theorem ObjOk.stay (x:ObjOk P w H h a o) (k:∀ b u,(b=a∨H b=some (.own a))→h.get? b=some u→h'.get? b=some u)
    (ho:∀ b,H b=some (.own a)→H' b=some (.own a)) (ht:∀ b xs,H b=some (.tup xs)→H' b=some (.tup xs)):ObjOk P w H' h' a o:=by
  induction o with
  | lst xs=>obtain ⟨z,its,n,r,e⟩:=x;exact ⟨z,its,n,r,k _ _ (.inl rfl) e⟩
  | tup xs=>obtain ⟨z,its,r,ob,e,c⟩:=x;exact ⟨z,its,r,ob,k _ _ (.inl rfl) e,c⟩
  | dK kvs=>obtain ⟨z,y,vs,r,ob,es,ep,e,c⟩:=x;exact ⟨z,y,vs,r,ob,es,ep,k _ _ (.inl rfl) e,c⟩
  | dT kvs =>
    obtain ⟨z,y,xs,r,ob,es,ep,e,c⟩:=x
    exact ⟨z,y,xs,Paired.mapP r fun p q z=>⟨z.1,ht _ _ z.2.1,z.2.2⟩,ob,es,ep,k _ _ (.inl rfl) e,c⟩
  | set S n=>obtain ⟨ob,es,ep,t,e,c⟩:=x;exact ⟨ob,es,ep,t,k _ _ (.inl rfl) e,c⟩
  | ins C dx fs =>
    obtain ⟨d,z,ne,e,mA,⟨od,es,ep,e2,c⟩,r⟩:=x
    exact ⟨ho _ d,z,ne,k _ _ (.inl rfl) e,mA,⟨od,es,ep,k _ _ (.inr d) e2,c⟩,r⟩
  | own y=>obtain ⟨ob,e⟩:=x;exact ⟨ob,k _ _ (.inl rfl) e⟩
  | xd fs=>obtain ⟨mA,⟨od,es,ep,e,c⟩,r⟩:=x;exact ⟨mA,⟨od,es,ep,k _ _ (.inl rfl) e,c⟩,r⟩
  | rng lo hi=>obtain ⟨t,u,v,e⟩:=x;exact ⟨t,u,v,k _ _ (.inl rfl) e⟩
  | frz ob u ih=>obtain ⟨e,q⟩:=x;exact ⟨k _ _ (.inl rfl) e,ih q⟩
  | tbl ps =>
    have e:h.get? a=some { cls:=.none,data:=.fields ps }:=x
    show h'.get? a=some { cls:=.none,data:=.fields ps }
    exact k a _ (.inl rfl) e
  | met f y =>
    have e:h.get? a=some (PySem.W.methodObj (.ref f) (.ref y)):=x
    show h'.get? a=some (PySem.W.methodObj (.ref f) (.ref y))
    exact k a _ (.inl rfl) e
  | ext φ=>obtain ⟨p,⟨o,e⟩,st⟩:=x;exact ⟨st _ _ p fun o q=>k _ _ (.inl rfl) q,⟨o,k _ _ (.inl rfl) e⟩,st⟩
theorem HOk.lt (x:HOk P w H h) (e:H a=some o):a<h.objs.size:=(x a o e).lt
theorem HOk.fresh (x:HOk P w H h) (e:h.objs.size≤a):H a=none:=by
 cases q:H a with
 | none=>rfl
 | some u=>exact absurd (Nat.lt_of_lt_of_le (x.lt q) e) (Nat.lt_irrefl _)
theorem HOk.kept (x:HOk P w H h) (k:∀ b u,h.get? b=some u→h'.get? b=some u):HOk P w H h':=fun a o e =>
 (x a o e).stay (fun b u _ q=>k b u q) (fun _ q=>q) fun _ _ q=>q
theorem HOk.laid (x:HOk P w H h) (k:∀ b u,h.get? b=some u→h'.get? b=some u) (hp:h.objs.size≤a) (new:ObjOk P w (upd H a o) h' a o):HOk P w (upd H a o) h':=fun b u e=>by
 have hn:=x.fresh hp
 by_cases hb:b=a
 ·subst hb;rw [qAB] at e;cases e;exact new
 ·rw [qAC hb] at e
  exact (x b u e).stay (fun c v _ q=>k c v q) (fun c q=>by rw [qAC (ne_of_none q hn)];exact q) fun c xs q=>by rw [qAC (ne_of_none q hn)];exact q
end
noncomputable def Rd (H:Hp) (a:Addr) (u:HO):Prop:=H a=some u∨∃ o,H a=some (.frz o u)
theorem Rd.of {H:Hp} {a:Addr} {u:HO} (h:H a=some u):Rd H a u:=.inl h
theorem Rd.ok {P:Program} {w:World} {H:Hp} {h:Heap} {a:Addr} {u:HO} (r:Rd H a u) (x:HOk P w H h):ObjOk P w H h a u:=by
 rcases r with r | ⟨o,r⟩
 ·exact x a u r
 ·obtain ⟨_,q⟩:=x a _ r
  exact q
noncomputable def Mut:Option HO→Prop
 | some (.lst _)=>True
 | some (.dK _)=>True
 | some (.dT _)=>True
 | some (.set _ _)=>True
 | some (.ins _ _ _)=>True
 | some (.ext _)=>True
 | _=>False
section
variable {P:Program} {w:World} {H:Hp} {h h':Heap} {x e:Addr} {o':HO}
theorem HOk.write (ok:HOk P w H h) (mu:Mut (H x)) (he:e=x∨H e=some (.own x)) (k:∀ b u,b≠e→h.get? b=some u→h'.get? b=some u) (heo:∃ u,h'.get? e=some u)
    (new:ObjOk P w (upd H x o') h' x o'):HOk P w (upd H x o') h':=fun b u q=>by
  have nown:∀ c y,H c=some (.own y)→c≠x:=fun c y r z=>by subst z;rw [r] at mu;exact mu
  have ntup:∀ c xs,H c=some (.tup xs)→c≠x:=fun c xs r z=>by subst z;rw [r] at mu;exact mu
  by_cases hb:b=x
  · subst hb;rw [qAB] at q;cases q;exact new
  · rw [qAC hb] at q
    by_cases hbe:b=e
    · have q':H b=some (.own x):=by
        rcases he with z | z
        · exact absurd (hbe.trans z) hb
        · rw [hbe];exact z
      rw [q] at q';cases q'
      obtain ⟨v,hv⟩:=heo
      exact ⟨v,by rw [hbe];exact hv⟩
    · refine (ok b u q).stay (fun c v hc r=>k c v ?_ r) (fun c r=>by rw [qAC (nown c b r)];exact r) fun c xs r=>by rw [qAC (ntup c xs r)];exact r
      rcases hc with rfl | hc
      · exact hbe
      · rintro rfl
        rcases he with z | z
        · exact nown c b hc z
        · rw [hc] at z;cases z;exact hb rfl
end
structure Un (fs ex:List Addr) (H H':Hp) (h h':Heap):Prop where
 keep:∀ b o,h.get? b=some o→H b=none→b∉fs→b∉ex→h'.get? b=some o
 slot:∀ b o,h.get? b=some o→H b=none→b∈fs→b∉ex→∃ sl,h'.get? b=some { o with slots:=sl }
 free:∀ b o,h.get? b=some o→H b=none→b∉ex→H' b=none
 there:∀ b o,h.get? b=some o→b∉ex→∃ o',h'.get? b=some o'
 tups:∀ b xs,H b=some (.tup xs)→H' b=some (.tup xs)
 frzs:∀ b o u,H b=some (.frz o u)→H' b=some (.frz o u)
 tbls:∀ b ps,H b=some (.tbl ps)→∃ more,H' b=some (.tbl (ps++more))
section
variable {fs fs' ex ex':List Addr} {H H1 H2:Hp} {h h1 h2 h':Heap} {a x e:Addr} {o:HO}
theorem Un.any (u:Un fs ex H H1 h h1) {b:Addr} {ob:Obj} (q:h.get? b=some ob) (n:H b=none) (hx:b∉ex):∃ sl,h1.get? b=some { ob with slots:=sl }:=by
 by_cases hb:b∈fs
 ·exact u.slot b ob q n hb hx
 ·exact ⟨ob.slots,u.keep b ob q n hb hx⟩
theorem Un.trans (a:Un fs ex H H1 h h1) (b:Un fs ex H1 H2 h1 h2):Un fs ex H H2 h h2 where
 keep:=fun c ob q n hc hx=>b.keep c ob (a.keep c ob q n hc hx) (a.free c ob q n hx) hc hx
 slot:=fun c ob q n hc hx=>by
  obtain ⟨sl,e1⟩:=a.slot c ob q n hc hx
  obtain ⟨sl',e2⟩:=b.slot c _ e1 (a.free c ob q n hx) hc hx
  exact ⟨sl',e2⟩
 free:=fun c ob q n hx=>by
  obtain ⟨o',e1⟩:=a.there c ob q hx
  exact b.free c o' e1 (a.free c ob q n hx) hx
 there:=fun c ob q hx=>by
  obtain ⟨o',e1⟩:=a.there c ob q hx
  exact b.there c o' e1 hx
 tups:=fun c xs q=>b.tups c xs (a.tups c xs q)
 frzs:=fun c ob xs q=>b.frzs c ob xs (a.frzs c ob xs q)
 tbls:=fun c ps q=>by
  obtain ⟨m1,e1⟩:=a.tbls c ps q
  obtain ⟨m2,e2⟩:=b.tbls c _ e1
  exact ⟨m1++m2,by rw [e2,Array.append_assoc]⟩
theorem Un.kept (k:∀ b u,h.get? b=some u→h'.get? b=some u):Un fs ex H H h h' :=
 ⟨fun b ob q _ _ _=>k b ob q,fun b ob q _ _ _=>⟨ob.slots,k b ob q⟩,fun _ _ _ n _=>n,fun b ob q _=>⟨ob,k b ob q⟩,fun _ _ q=>q,fun _ _ _ q=>q,fun _ ps q=>⟨#[],by rw [q];simp⟩⟩
theorem Un.refl:Un fs ex H H h h:=Un.kept fun _ _ q=>q
theorem Un.laid (k:∀ b u,h.get? b=some u→h'.get? b=some u) (hp:h.objs.size≤a) (hn:H a=none):Un fs ex H (upd H a o) h h' where
 keep:=fun b u q _ _ _=>k b u q
 slot:=fun b u q _ _ _=>⟨u.slots,k b u q⟩
 free:=fun b u q n _=>by rw [qAC (Nat.ne_of_lt (Nat.lt_of_lt_of_le (Heap.lt_size q) hp))];exact n
 there:=fun b u q _=>⟨u,k b u q⟩
 tups:=fun b xs q=>by rw [qAC (ne_of_none q hn)];exact q
 frzs:=fun b u xs q=>by rw [qAC (ne_of_none q hn)];exact q
 tbls:=fun b ps q=>⟨#[],by rw [qAC (ne_of_none q hn),q];simp⟩
theorem Un.write (mu:Mut (H x)) (he:e=x∨H e=some (.own x)) (k:∀ b u,b≠e→h.get? b=some u→h'.get? b=some u) (heo:∃ u,h'.get? e=some u):Un fs ex H (upd H x o) h h':=by
 have hx:∀ b,H b=none→b≠x:=fun b n z=>by subst z;rw [n] at mu;exact mu
 have hb:∀ b,H b=none→b≠e:=fun b n z=>by
  subst z
  rcases he with r | r
  ·exact hx b n r
  ·rw [n] at r;cases r
 have hm:∀ b u,H b=some u→¬ Mut (some u)→b≠x:=fun b u q nm z=>by subst z;rw [q] at mu;exact nm mu
 refine ⟨fun b u q n _ _=>k b u (hb b n) q,fun b u q n _ _=>⟨u.slots,k b u (hb b n) q⟩,fun b u q n _=>by rw [qAC (hx b n)];exact n,fun b u q _=>?_,
  fun b xs q=>by rw [qAC (hm b _ q fun z=>z)];exact q,fun b u xs q=>by rw [qAC (hm b _ q fun z=>z)];exact q,fun b ps q=>⟨#[],by rw [qAC (hm b _ q fun z=>z),q];simp⟩⟩
 by_cases hbe:b=e
 ·subst hbe;exact heo
 ·exact ⟨u,k b u hbe q⟩
theorem Un.mono (u:Un fs ex H H1 h h1) (hs:∀ b∈fs,b∈fs') (hx:∀ b∈ex,b∈ex'):Un fs' ex' H H1 h h1 :=
 ⟨fun b ob q n hb he=>u.keep b ob q n (fun z=>hb (hs b z)) fun z=>he (hx b z),fun _ _ q n _ he=>u.any q n fun z=>he (hx _ z),fun b ob q n he=>u.free b ob q n fun z=>he (hx b z),fun b ob q he=>u.there b ob q fun z=>he (hx b z),u.tups,u.frzs,u.tbls⟩
end
noncomputable def trk (h:Heap) (H:Hp):List Addr:=(List.range h.objs.size).filter fun a=>(H a).isSome
noncomputable def hidT (h:Heap) (H:Hp):Heap:=PySem.W.hideAll h (trk h H)
theorem qJK (h:Heap) (H:Hp):(hidT h H).objs.size=h.objs.size:=PySem.W.hideAll_size _ _
theorem qKa {h:Heap} {H:Hp} {b:Addr} {o:Obj} (e:h.get? b=some o) (n:H b=none):(hidT h H).get? b=some o :=
 PySem.W.hideAll_get _ e fun hm=>by
  have q:(H b).isSome=true:=(List.mem_filter.mp hm).2
  rw [n] at q;simp at q
theorem qLz {h:Heap} {H:Hp} {b:Addr} {o:Obj} (e:(hidT h H).get? b=some o):h.get? b=some o∧H b=none:=by
 have e':h.get? b=some o:=PySem.W.of_hideAll (trk h H) e
 refine ⟨e',?_⟩
 cases q:H b with
 | none=>rfl
 | some x =>
  have hm:b∈trk h H:=List.mem_filter.mpr ⟨List.mem_range.mpr (Heap.lt_size e'),by simp [q]⟩
  have z:(hidT h H).get? b=none:=PySem.W.hideAll_none (trk h H) hm
  rw [z] at e;cases e
noncomputable def qM8 (g h:Heap) (L:Addr):List (Addr × Obj):=(List.range h.objs.size).filterMap fun a=>if a=L∨(g.get? a).isSome=true then none else (h.get? a).map fun o=>(a,o)
noncomputable def rest (g h:Heap) (L d:Addr):List (Addr × Obj):=(qM8 g h L).filter fun p=>decide (p.1≠d)
end L2
namespace L2
open PySem PySem.Spec PyProof.Rows
structure Mod (K:PySem.W.Frag) (mg:Str→Option Value) (base:Heap):Prop where
 kin:K.In base
 glob:base.Ns mainGlobals mg
 blt:∃ mb,base.Ns builtinsNs mb∧∀ x:Str,x≠"__name__"→mb x=bootBuiltins x
 nolimit:base.NoLimit
structure Cx where
 prog:Program
 w:World
 K:PySem.W.Frag
 mg:Str→Option Value
 base:Heap
 A:Around
 N:List Str
 s₀:Shared
 H₀:Hp
 env:Env
 outer:List Env
 stack:List Env
 ex:List Addr
 fn:Str→Bool
 calm:Bool
 pn:List (Addr × Obj)
 xe:Value→Shared→Prop
noncomputable def frs (l:List Env):List Addr:=l.filterMap (·.frame)
noncomputable abbrev Cx.fs (X:Cx):List Addr:=frs X.outer
noncomputable def Vis (sc:Scope) (x:Str):Prop:=sc.names.lookup x=some .local∨sc.names.lookup x=some .cell∨sc.names.lookup x=some .free
noncomputable def Loc (sc:Scope) (x:Str):Prop:=sc.names.lookup x=some .local∨sc.names.lookup x=some .cell
noncomputable def Look (env:Env) (h:Heap) (m:Str→Option Value) (x:Str) (u:Value):Prop :=
 (env.kindOf x=some .local∧m x=some u)∨((env.kindOf x=some .cell∨env.kindOf x=some .free)∧∃ c,env.cells.lookup x=some c∧h.IsCell c (some u))
structure Cx.Ok (X:Cx):Prop where
 mod:Mod X.K X.mg X.base
 kind:X.env.scope.kind=.function
 glob:X.env.globals=mainGlobals
 blt:X.env.builtins=builtinsNs
 above:X.s₀.heap.objs.size≤X.env.locals
 inj:∀ x y c,X.env.cells.lookup x=some c→X.env.cells.lookup y=some c→x=y
 has:∀ x,(X.env.kindOf x=some .cell∨X.env.kindOf x=some .free)→∃ c,X.env.cells.lookup x=some c
 cab:∀ x c,X.fn x=true→X.env.cells.lookup x=some c→X.s₀.heap.objs.size≤c
 hd:X.calm=true→X.A.handled=none
 frames:X.A.frames=some X.stack
 stk:X.stack=X.outer∨(X.stack=X.env::X.outer∧X.env.frame=some X.env.locals)
 exf:∀ b∈X.ex,b≠X.env.locals∧∀ x c,X.env.cells.lookup x=some c→c≠b
 bs:∀ b o,X.base.get? b=some o→X.s₀.heap.get? b=some o∧X.H₀ b=none
 bsz:X.base.objs.size≤X.s₀.heap.objs.size
 noex:∀ b o,X.base.get? b=some o→b∉X.ex
 exfs:∀ b∈X.ex,b∉X.fs
 funs:X.s₀.heap.FunFrames X.base X.outer
 frf:∀ b∈X.fs,X.H₀ b=none
structure Inv (X:Cx) (pins:List (Addr × Obj)) (σ:List (Option V)) (H:Hp) (s:Shared):Prop where
 ok:X.Ok
 os:s.os=X.s₀.os
 bare:AllBare s.gens
 base:Un X.fs X.ex X.H₀ H X.s₀.heap s.heap
 loc:∃ m,s.heap.Ns X.env.locals m∧∀ (i:Nat) (x:Str) (v:V),X.N[i]?=some x→σ[i]?=some (some v)→Vis X.env.scope x→∃ u,RelV v u∧Look X.env s.heap m x u
 cell:∀ x c,X.env.cells.lookup x=some c→∃ v,s.heap.IsCell c v
 free:H X.env.locals=none
 freeC:∀ x c,X.env.cells.lookup x=some c→H c=none
 pin:∀ p∈X.pn++pins,s.heap.get? p.1=some p.2∧H p.1=none∧p.1≠X.env.locals∧p.1∉X.fs∧∀ v,p.2.data≠.cell v
 hok:HOk X.prog X.w H s.heap
 len:σ.length=X.N.length
section
variable {X:Cx} {pins:List (Addr × Obj)} {σ:List (Option V)} {H H':Hp} {s:Shared} {h':Heap}
theorem Cx.Ok.nofr (ok:X.Ok) {b:Addr} {o:Obj} (e:X.base.get? b=some o):b∉X.fs:=fun hb=>by
 have:=(ok.funs.mem hb).1
 rw [e] at this;cases this
theorem Inv.bs (I:Inv X pins σ H s):∀ b o,X.base.get? b=some o→s.heap.get? b=some o∧H b=none:=fun b o e =>
 ⟨I.base.keep b o (I.ok.bs b o e).1 (I.ok.bs b o e).2 (I.ok.nofr e) (I.ok.noex b o e),I.base.free b o (I.ok.bs b o e).1 (I.ok.bs b o e).2 (I.ok.noex b o e)⟩
theorem Inv.bk (I:Inv X pins σ H s):∀ b o,X.base.get? b=some o→s.heap.get? b=some o:=fun b o e=>(I.bs b o e).1
theorem Inv.mod (I:Inv X pins σ H s):Mod X.K X.mg X.base:=I.ok.mod
theorem Inv.kIn (I:Inv X pins σ H s):X.K.In s.heap:=I.ok.mod.kin.keeps I.bk
theorem Inv.nolimit (I:Inv X pins σ H s):s.heap.NoLimit:=I.ok.mod.nolimit.keeps I.bk
theorem Inv.fr (I:Inv X pins σ H s):∃ m,Fr X.base X.env.locals s.heap m :=
 let ⟨m,hn,_⟩:=I.loc
 ⟨m,hn,I.bk,Nat.le_trans I.ok.bsz I.ok.above⟩
theorem Inv.lt (I:Inv X pins σ H s):X.env.locals<s.heap.objs.size:=let ⟨_,hn,_⟩:=I.loc;hn.lt
theorem Inv.sz (I:Inv X pins σ H s):X.s₀.heap.objs.size≤s.heap.objs.size:=Nat.le_trans I.ok.above (Nat.le_of_lt I.lt)
theorem Inv.nofs (I:Inv X pins σ H s) {a:Addr} (h:s.heap.objs.size≤a):a∉X.fs:=fun hb=>by
 obtain ⟨_,o,ho,_⟩:=I.ok.funs.mem hb
 exact absurd (Nat.lt_of_lt_of_le (Heap.lt_size ho) (Nat.le_trans I.sz h)) (Nat.lt_irrefl _)
theorem Inv.cne (I:Inv X pins σ H s):∀ x c,X.env.cells.lookup x=some c→c≠X.env.locals:=fun x c e z=>by
 obtain ⟨v,o,ho,hd⟩:=I.cell x c e
 obtain ⟨m,⟨o',es,ep,ho',hd',_⟩,_⟩:=I.loc
 rw [z,ho'] at ho;cases ho;rw [hd'] at hd;cases hd
theorem Inv.funs (I:Inv X pins σ H s):s.heap.FunFrames X.base X.outer:=by
 have all:∀ (l:List Env),(∀ b∈frs l,b∈X.fs)→X.s₀.heap.FunFrames X.base l→s.heap.FunFrames X.base l:=by
  intro l
  induction l with
  | nil=>intro _ _;trivial
  | cons env r ih =>
   intro hs hl
   obtain ⟨hk,⟨L,o,hf,hn,ho,hd⟩,hr⟩:=hl
   have hL:L∈X.fs:=hs L (by unfold frs;rw [List.filterMap_cons,hf];exact List.mem_cons_self)
   obtain ⟨sl,e⟩:=I.base.slot L o ho (I.ok.frf L hL) hL fun z=>I.ok.exfs L z hL
   exact ⟨hk,⟨L,_,hf,hn,e,hd⟩,ih (fun b hb=>hs b (by unfold frs;rw [List.filterMap_cons,hf];exact List.mem_cons_of_mem _ hb)) hr⟩
 exact all X.outer (fun _ hb=>hb) I.ok.funs
theorem Inv.stack (I:Inv X pins σ H s):s.heap.FunFrames X.base X.stack:=by
 rcases I.ok.stk with e | ⟨e,hf⟩
 ·rw [e];exact I.funs
 ·rw [e]
  obtain ⟨m,hn,_⟩:=I.loc
  refine .cons (by rw [I.ok.kind];decide) hf hn ?_ I.funs
  exact Heap.get?_none_of_le (Nat.le_trans I.ok.bsz I.ok.above)
theorem Inv.stkSub (I:Inv X pins σ H s):∀ b∈frs X.stack,b∈X.env.locals::X.fs:=fun b hb=>by
 rcases I.ok.stk with e | ⟨e,hf⟩
 ·rw [e] at hb;exact List.mem_cons_of_mem _ hb
 ·rw [e] at hb
  unfold frs at hb
  rw [List.filterMap_cons,hf] at hb
  exact hb
theorem Inv.stkFree (I:Inv X pins σ H s):∀ b∈frs X.stack,H b=none:=fun b hb=>by
 rcases List.mem_cons.mp (I.stkSub b hb) with e | hb
 ·rw [e];exact I.free
 ·obtain ⟨_,o,ho,_⟩:=I.ok.funs.mem hb
  exact I.base.free b o ho (I.ok.frf b hb) fun z=>I.ok.exfs b z hb
theorem Inv.step {g':Array GenState} {t':Nat} {d':Drawn} {ch:List Addr} (I:Inv X pins σ H s)
    (hch:∀ b∈ch,(b∈X.ex∨X.s₀.heap.objs.size≤b)∧b≠X.env.locals∧(∀ x c,X.env.cells.lookup x=some c→c≠b)∧∀ p∈X.pn++pins,p.1≠b)
    (keep:∀ b o,b≠X.env.locals→b∉X.fs→b∉ch→s.heap.get? b=some o→H b=none→h'.get? b=some o)
    (slot:∀ b o,b≠X.env.locals→b∈X.fs→b∉ch→s.heap.get? b=some o→H b=none→∃ sl,h'.get? b=some { o with slots:=sl }) (free:∀ b o,b∉ch→s.heap.get? b=some o→H b=none→H' b=none)
    (there:∀ b o,b∉ch→s.heap.get? b=some o→∃ o',h'.get? b=some o')
    (tups:∀ b xs,H b=some (.tup xs)→H' b=some (.tup xs)) (frzs:∀ b o u,H b=some (.frz o u)→H' b=some (.frz o u)) (tbls:∀ b ps,H b=some (.tbl ps)→∃ more,H' b=some (.tbl (ps++more)))
    (ns:∀ m,s.heap.Ns X.env.locals m→h'.Ns X.env.locals m) (hok:HOk X.prog X.w H' h') (hg:AllBare g') :
    Inv X pins σ H' { s with heap:=h',gens:=g',drawn:=d',toks:=t' }:=by
  have neL:∀ b o,X.s₀.heap.get? b=some o→b≠X.env.locals:=fun b o e=>Nat.ne_of_lt (Nat.lt_of_lt_of_le (Heap.lt_size e) I.ok.above)
  have neC:∀ b o,X.s₀.heap.get? b=some o→b∉X.ex→b∉ch:=fun b o e hx hb=>by
    rcases (hch b hb).1 with z | z
    · exact hx z
    · exact absurd (Nat.lt_of_lt_of_le (Heap.lt_size e) z) (Nat.lt_irrefl _)
  have cellK:∀ x c,X.env.cells.lookup x=some c→∀ v,s.heap.IsCell c v→h'.IsCell c v:=fun x c e v ⟨o,ho,hd⟩=>by
    have nch:c∉ch:=fun z=>(hch c z).2.2.1 x c e rfl
    by_cases hc:c∈X.fs
    · obtain ⟨sl,q⟩:=slot c o (I.cne x c e) hc nch ho (I.freeC x c e)
      exact ⟨_,q,hd⟩
    · exact ⟨o,keep c o (I.cne x c e) hc nch ho (I.freeC x c e),hd⟩
  refine ⟨I.ok,I.os,hg,⟨fun b o e n hb hx=>?_,fun b o e n hb hx=>?_,fun b o e n hx=>?_,fun b o e hx=>?_,fun b xs e=>tups b xs (I.base.tups b xs e),fun b o xs e=>frzs b o xs (I.base.frzs b o xs e),fun b ps e=>?_⟩,?_,fun x c e=>?_,?_,fun x c e=>?_,fun p hp=>?_,hok,I.len⟩
  · exact keep b o (neL b o e) hb (neC b o e hx) (I.base.keep b o e n hb hx) (I.base.free b o e n hx)
  · obtain ⟨sl,e1⟩:=I.base.slot b o e n hb hx
    obtain ⟨sl',e2⟩:=slot b _ (neL b o e) hb (neC b o e hx) e1 (I.base.free b o e n hx)
    exact ⟨sl',e2⟩
  · obtain ⟨o',e1⟩:=I.base.there b o e hx
    exact free b o' (neC b o e hx) e1 (I.base.free b o e n hx)
  · obtain ⟨o',e1⟩:=I.base.there b o e hx
    exact there b o' (neC b o e hx) e1
  · obtain ⟨m1,e1⟩:=I.base.tbls b ps e
    obtain ⟨m2,e2⟩:=tbls b _ e1
    exact ⟨m1++m2,by rw [e2,Array.append_assoc]⟩
  · obtain ⟨m,hn,hl⟩:=I.loc
    refine ⟨m,ns m hn,fun i x v e1 e2 e3=>?_⟩
    obtain ⟨u,r,l⟩:=hl i x v e1 e2 e3
    refine ⟨u,r,?_⟩
    rcases l with l | ⟨k,c,e,z⟩
    · exact .inl l
    · exact .inr ⟨k,c,e,cellK x c e _ z⟩
  · obtain ⟨v,z⟩:=I.cell x c e
    exact ⟨v,cellK x c e v z⟩
  · obtain ⟨m,⟨o,_,_,ho,_⟩,_⟩:=I.loc
    exact free _ o (fun z=>(hch _ z).2.1 rfl) ho I.free
  · obtain ⟨v,o,ho,hd⟩:=I.cell x c e
    exact free c o (fun z=>(hch c z).2.2.1 x c e rfl) ho (I.freeC x c e)
  · obtain ⟨e,n,ne,nf,d⟩:=I.pin p hp
    have nch:p.1∉ch:=fun z=>(hch p.1 z).2.2.2 p hp rfl
    exact ⟨keep p.1 p.2 ne nf nch e n,free p.1 p.2 nch e n,ne,nf,d⟩
theorem Inv.un {t':Nat} (I:Inv X pins σ H s) (u:Un X.fs [] H H' s.heap h') (hok:HOk X.prog X.w H' h'):Inv X pins σ H' { s with heap:=h',toks:=t' }:=by
 obtain ⟨m,⟨o,es,ep,ho,r⟩,_⟩:=id I.loc
 obtain ⟨sl,hL⟩:=u.any ho I.free (by simp)
 exact I.step (g':=s.gens) (d':=s.drawn) (ch:=[]) (fun _ z=>nomatch z) (fun b o _ hb _ e n=>u.keep b o e n hb (by simp)) (fun b o _ hb _ e n=>u.slot b o e n hb (by simp)) (fun b o _ e n=>u.free b o e n (by simp)) (fun b o _ e=>u.there b o e (by simp)) u.tups u.frzs u.tbls (fun m' hm=>by
  obtain ⟨o',es',ep',ho',r'⟩:=hm
  rw [ho] at ho';cases ho'
  exact ⟨_,es',ep',hL,r'⟩) hok I.bare
theorem Inv.call {g':Array GenState} {t':Nat} {d':Drawn} {ch:List Addr} (I:Inv X pins σ H s) (u:Un (frs X.stack) ch H H' s.heap h') (hok:HOk X.prog X.w H' h') (hg:AllBare g')
    (hch:∀ b∈ch,(b∈X.ex∨X.s₀.heap.objs.size≤b)∧b≠X.env.locals∧(∀ x c,X.env.cells.lookup x=some c→c≠b)∧∀ p∈X.pn++pins,p.1≠b) :
    Inv X pins σ H' { s with heap:=h',gens:=g',drawn:=d',toks:=t' }:=by
  obtain ⟨m,⟨o,es,ep,ho,r⟩,_⟩:=id I.loc
  obtain ⟨sl,hL⟩:=u.any ho I.free fun z=>(hch _ z).2.1 rfl
  exact I.step (ch:=ch) hch (fun b o hL hb hc e n=>u.keep b o e n (fun z=>(List.mem_cons.mp (I.stkSub b z)).elim hL hb) hc) (fun b o _ _ hc e n=>u.any e n hc) (fun b o hc e n=>u.free b o e n hc) (fun b o hc e=>u.there b o e hc) u.tups u.frzs u.tbls (fun m' hm=>by
    obtain ⟨o',es',ep',ho',r'⟩:=hm
    rw [ho] at ho';cases ho'
    exact ⟨_,es',ep',hL,r'⟩) hok hg
theorem Inv.turned {t':Nat} {it:Addr} (I:Inv X pins σ H s) (k:∀ b o,b≠it→s.heap.get? b=some o→h'.get? b=some o) (hn:H it=none) (hL:it≠X.env.locals)
    (h1:it∈X.ex∨X.s₀.heap.objs.size≤it) (h2:∀ x c,X.env.cells.lookup x=some c→c≠it) (h3:∀ p∈X.pn++pins,p.1≠it):Inv X pins σ H { s with heap:=h',toks:=t' }:=by
  have nit:∀ b u,H b=some u→b≠it:=fun b u e z=>by rw [z,hn] at e;cases e
  refine I.step (g':=s.gens) (d':=s.drawn) (ch:=[it]) (fun b hb=>?_) (fun b o _ _ hc e _=>k b o (fun z=>hc (by simp [z])) e) (fun b o _ _ hc e _=>⟨o.slots,k b o (fun z=>hc (by simp [z])) e⟩) (fun _ _ _ _ n=>n)
    (fun b o hc e=>⟨o,k b o (fun z=>hc (by simp [z])) e⟩) (fun _ _ e=>e) (fun _ _ _ e=>e) (fun b ps e=>⟨#[],by rw [e];simp⟩) (fun m hm=>?_) (fun b u e=>?_) I.bare
  · have e:b=it:=by simpa using hb
    subst e
    exact ⟨h1,hL,h2,h3⟩
  · obtain ⟨o,es,ep,ho,r⟩:=hm
    exact ⟨o,es,ep,k _ o (Ne.symm hL) ho,r⟩
  · refine (I.hok b u e).stay (fun c v hc q=>k c v ?_ q) (fun _ q=>q) fun _ _ q=>q
    rcases hc with z | z
    · rw [z];exact nit b u e
    · exact nit c _ z
theorem Inv.tok (I:Inv X pins σ H s) (t:Nat):Inv X pins σ H { s with toks:=t }:=I.un (h':=s.heap) (t':=t) Un.refl I.hok
theorem Inv.kept {t':Nat} (I:Inv X pins σ H s) (k:∀ b u,s.heap.get? b=some u→h'.get? b=some u):Inv X pins σ H { s with heap:=h',toks:=t' }:=I.un (Un.kept k) (I.hok.kept k)
theorem Inv.laid {a:Addr} {o:HO} {t':Nat} (I:Inv X pins σ H s) (k:∀ b u,s.heap.get? b=some u→h'.get? b=some u) (hp:s.heap.objs.size≤a) (new:ObjOk X.prog X.w (upd H a o) h' a o) :
    Inv X pins σ (upd H a o) { s with heap:=h',toks:=t' }:=I.un (Un.laid k hp (I.hok.fresh hp)) (I.hok.laid k hp new)
theorem Inv.write {x e:Addr} {o:HO} {t':Nat} (I:Inv X pins σ H s) (mu:Mut (H x)) (he:e=x∨H e=some (.own x)) (k:∀ b u,b≠e→s.heap.get? b=some u→h'.get? b=some u) (heo:∃ u,h'.get? e=some u)
    (new:ObjOk X.prog X.w (upd H x o) h' x o):Inv X pins σ (upd H x o) { s with heap:=h',toks:=t' }:=I.un (Un.write mu he k heo) (I.hok.write mu he k heo new)
theorem Inv.pins_of {pins':List (Addr × Obj)} (I:Inv X pins σ H s) (h:∀ p∈pins',s.heap.get? p.1=some p.2∧H p.1=none∧p.1≠X.env.locals∧p.1∉X.fs∧∀ v,p.2.data≠.cell v):Inv X pins' σ H s :=
 ⟨I.ok,I.os,I.bare,I.base,I.loc,I.cell,I.free,I.freeC,fun p hp=>(List.mem_append.mp hp).elim (fun z=>I.pin p (List.mem_append_left _ z)) (h p),I.hok,I.len⟩
theorem qHE {N:List Str} (hN:N.Nodup) {i j:Nat} {x:Str} (a:N[i]?=some x) (b:N[j]?=some x):i=j:=by
 obtain ⟨h1,e1⟩:=List.getElem?_eq_some_iff.mp a
 obtain ⟨h2,e2⟩:=List.getElem?_eq_some_iff.mp b
 exact (List.getElem_inj hN).mp (e1.trans e2.symm)
theorem qIO {M:Model} {A:Around} {E:Value→Shared→Prop} {i:Nat} {x:Str} {v:V} {u:Value} {Q:Unit→Shared→Prop} (I:Inv X pins σ H s) (hN:X.N.Nodup) (hi:X.N[i]?=some x) (hx:Loc X.env.scope x) (r:RelV v u)
    (h:∀ s',Inv X pins (σ.set i (some v)) H s'→(∃ a,Heap.SameBut a s.heap s'.heap∧(a=X.env.locals∨X.env.cells.lookup x=some a))→Q () s') (hf:X.fn x=true∨X.env.scope.names.lookup x=some .local:=by first | exact .inl rfl | exact .inr rfl | assumption):wpAny M A (storeName X.env x u) Q E s:=by
  obtain ⟨m,hn,hl⟩:=id I.loc
  have hcls:(X.env.scope.kind == .class || (X.env.scope.kind == .module&&X.env.locals != X.env.globals))=false:=by rw [I.ok.kind];rfl
  have hiσ:i<σ.length:=by rw [I.len];exact (List.getElem?_eq_some_iff.mp hi).1
  have cne:=I.cne
  have tracked:∀ {a:Addr} {h':Heap},(∃ o,s.heap.get? a=some o∧H a=none)→Heap.SameBut a s.heap h'→HOk X.prog X.w H h':=fun {a h'} ha hs b ob e=>by
    obtain ⟨_,_,hfree⟩:=ha
    refine (I.hok b ob e).stay (fun c w' hc q=>(hs.2 c ?_).trans q) (fun _ q=>q) fun _ _ q=>q
    rintro rfl
    rcases hc with rfl | hc
    · rw [hfree] at e;cases e
    · rw [hfree] at hc;cases hc
  rcases hx with hk | hk
  · refine wpAny_storeName_local hk hn (fun h' hn' hs=>?_) hcls
    obtain ⟨oL,_,_,hoL,_⟩:=id hn
    refine h _ ⟨I.ok,I.os,I.bare,⟨fun b o e n hb hx=>?_,fun b o e n hb hx=>?_,I.base.free,fun b o e hx=>?_,I.base.tups,I.base.frzs,I.base.tbls⟩,⟨_,hn',fun j y v' e1 e2 e3=>?_⟩,fun y c e=>?_,I.free,I.freeC,fun p hp=>?_,tracked ⟨oL,hoL,I.free⟩ hs,by simpa using I.len⟩ ⟨_,hs,.inl rfl⟩
    · exact (hs.2 b (Nat.ne_of_lt (Nat.lt_of_lt_of_le (Heap.lt_size e) I.ok.above))).trans (I.base.keep b o e n hb hx)
    · obtain ⟨sl,e1⟩:=I.base.slot b o e n hb hx
      exact ⟨sl,(hs.2 b (Nat.ne_of_lt (Nat.lt_of_lt_of_le (Heap.lt_size e) I.ok.above))).trans e1⟩
    · obtain ⟨o',e1⟩:=I.base.there b o e hx
      exact ⟨o',(hs.2 b (Nat.ne_of_lt (Nat.lt_of_lt_of_le (Heap.lt_size e) I.ok.above))).trans e1⟩
    · by_cases hj:j=i
      · subst hj
        rw [hi] at e1;cases e1
        rw [List.getElem?_set_self hiσ] at e2
        cases e2
        exact ⟨u,r,.inl ⟨hk,by simp⟩⟩
      · rw [List.getElem?_set_ne (Ne.symm hj)] at e2
        obtain ⟨u',r',q⟩:=hl j y v' e1 e2 e3
        refine ⟨u',r',?_⟩
        rcases q with ⟨k,e⟩ | ⟨k,c,e,z⟩
        · refine .inl ⟨k,?_⟩
          have:y≠x:=fun e=>hj (qHE hN e1 (e ▸ hi))
          simp [this,e]
        · exact .inr ⟨k,c,e,z.sameBut hs (cne y c e)⟩
    · obtain ⟨w',z⟩:=I.cell y c e
      exact ⟨w',z.sameBut hs (cne y c e)⟩
    · obtain ⟨e,n,ne,nf,d⟩:=I.pin p hp
      exact ⟨(hs.2 p.1 ne).trans e,n,ne,nf,d⟩
  · have hfn:X.fn x=true:=by
      rcases hf with z | z
      · exact z
      · rw [z] at hk;cases hk
    obtain ⟨c,hc⟩:=I.ok.has x (.inl hk)
    obtain ⟨w',z⟩:=I.cell x c hc
    refine wpAny_storeName_cell I.ok.kind hk hc z (fun h' hc' hs=>?_)
    obtain ⟨oc,hoc,hocd⟩:=id z
    refine h { s with heap:=h' } ⟨I.ok,I.os,I.bare,⟨fun b o e n hb hx=>?_,fun b o e n hb hx=>?_,I.base.free,fun b o e hx=>?_,I.base.tups,I.base.frzs,I.base.tbls⟩,⟨m,hn.sameBut hs (Ne.symm (cne x c hc)),fun j y v' e1 e2 e3=>?_⟩,fun y c' e=>?_,I.free,I.freeC,fun p hp=>?_,tracked ⟨oc,hoc,I.freeC x c hc⟩ hs,by simpa using I.len⟩ ⟨c,hs,.inr hc⟩
    · exact (hs.2 b (Nat.ne_of_lt (Nat.lt_of_lt_of_le (Heap.lt_size e) (I.ok.cab x c hfn hc)))).trans (I.base.keep b o e n hb hx)
    · obtain ⟨sl,e1⟩:=I.base.slot b o e n hb hx
      exact ⟨sl,(hs.2 b (Nat.ne_of_lt (Nat.lt_of_lt_of_le (Heap.lt_size e) (I.ok.cab x c hfn hc)))).trans e1⟩
    · obtain ⟨o',e1⟩:=I.base.there b o e hx
      exact ⟨o',(hs.2 b (Nat.ne_of_lt (Nat.lt_of_lt_of_le (Heap.lt_size e) (I.ok.cab x c hfn hc)))).trans e1⟩
    · by_cases hj:j=i
      · subst hj
        rw [hi] at e1;cases e1
        rw [List.getElem?_set_self hiσ] at e2
        cases e2
        exact ⟨u,r,.inr ⟨.inl hk,c,hc,hc'⟩⟩
      · rw [List.getElem?_set_ne (Ne.symm hj)] at e2
        obtain ⟨u',r',q⟩:=hl j y v' e1 e2 e3
        refine ⟨u',r',?_⟩
        rcases q with q | ⟨k,c',e,z'⟩
        · exact .inl q
        · refine .inr ⟨k,c',e,z'.sameBut hs ?_⟩
          rintro rfl
          exact hj (qHE hN e1 (I.ok.inj _ _ _ e hc ▸ hi))
    · by_cases hcc:c'=c
      · subst hcc;exact ⟨_,hc'⟩
      · obtain ⟨w2,z2⟩:=I.cell y c' e
        exact ⟨w2,z2.sameBut hs hcc⟩
    · obtain ⟨e,n,ne,nf,d⟩:=I.pin p hp
      refine ⟨(hs.2 p.1 ?_).trans e,n,ne,nf,d⟩
      intro q
      rw [q,hoc] at e
      have q':oc=p.2:=Option.some.inj e
      exact d w' (by rw [← q'];exact hocd)
theorem store_ok {M:Model} {A:Around} {E:Value→Shared→Prop} {i:Nat} {x:Str} {v:V} {u:Value} {Q:Unit→Shared→Prop} (I:Inv X pins σ H s) (hN:X.N.Nodup) (hi:X.N[i]?=some x) (hx:Loc X.env.scope x) (r:RelV v u)
    (h:∀ s',Inv X pins (σ.set i (some v)) H s'→Q () s') (hf:X.fn x=true∨X.env.scope.names.lookup x=some .local:=by first | exact .inl rfl | exact .inr rfl | assumption):wpAny M A (storeName X.env x u) Q E s :=
  qIO I hN hi hx r (fun s' I' _=>h s' I') hf
theorem Inv.call' {s':Shared} {ch:List Addr} (I:Inv X pins σ H s) (ho:s'.os=s.os) (u:Un (frs X.stack) ch H H' s.heap s'.heap) (hok:HOk X.prog X.w H' s'.heap) (hg:AllBare s'.gens)
    (hch:∀ b∈ch,(b∈X.ex∨X.s₀.heap.objs.size≤b)∧b≠X.env.locals∧(∀ x c,X.env.cells.lookup x=some c→c≠b)∧∀ p∈X.pn++pins,p.1≠b):Inv X pins σ H' s':=by
  obtain ⟨h',g',d',t',o'⟩:=s'
  have e:o'=s.os:=ho
  subst e
  exact I.call (g':=g') (t':=t') (d':=d') u hok hg hch
end
noncomputable abbrev XK:=Value→Option Addr→Hp→Prop
noncomputable abbrev St:=List (Option V)
noncomputable abbrev VK:=V→Hp→Prop
noncomputable abbrev TE:=St→Hp→VK→Prop
noncomputable abbrev TT:=St→Hp→(Bool→Hp→Prop)→Prop
noncomputable abbrev TA:=St→Hp→(List V→Hp→Prop)→Prop
structure Ends where
 nx:St→Hp→Prop
 rt:VK
 bk:St→Hp→Prop:=fun _ _=>False
 ct:St→Hp→Prop:=fun _ _=>False
noncomputable abbrev TS:=Ends→St→Hp→Prop
noncomputable def EP (X:Cx) (pins:List (Addr × Obj)) (σ:St) (Q:VK) (u:Value) (s':Shared):Prop:=∃ v H',Inv X pins σ H' s'∧RelV v u∧Q v H'
noncomputable def TP (X:Cx) (pins:List (Addr × Obj)) (σ:St) (Q:Bool→Hp→Prop) (b:Bool) (s':Shared):Prop:=∃ H',Inv X pins σ H' s'∧Q b H'
noncomputable def AP (X:Cx) (pins:List (Addr × Obj)) (σ:St) (Q:List V→Hp→Prop) (us:List Value) (s':Shared):Prop:=∃ vs H',Inv X pins σ H' s'∧Vals vs us∧Q vs H'
noncomputable def SP (X:Cx) (pins:List (Addr × Obj)) (D:Ends) (f:Flow) (s':Shared):Prop :=
 match f with
 | .next=>∃ σ' H',Inv X pins σ' H' s'∧D.nx σ' H'
 | .brk=>∃ σ' H',Inv X pins σ' H' s'∧D.bk σ' H'
 | .cont=>∃ σ' H',Inv X pins σ' H' s'∧D.ct σ' H'
 | .ret u=>∃ v σ' H',Inv X pins σ' H' s'∧RelV v u∧D.rt v H'
noncomputable def PE (X:Cx) (e:Expr) (t:TE):Prop :=
 ∀ (pins:List (Addr × Obj)) (s:Shared) (σ:St) (H:Hp) (Q:VK),Inv X pins σ H s→t σ H Q→wpAny (model X.prog X.w) X.A (eval e X.env) (EP X pins σ Q) X.xe s
noncomputable def PT (X:Cx) (e:Expr) (t:TT):Prop :=
 ∀ (pins:List (Addr × Obj)) (s:Shared) (σ:St) (H:Hp) (Q:Bool→Hp→Prop),Inv X pins σ H s→t σ H Q→wpAny (model X.prog X.w) X.A (isTrue e X.env (eval e X.env)) (TP X pins σ Q) X.xe s
noncomputable def PW (X:Cx) (e:Expr) (t:TT):Prop :=
 ∀ (whole:Sem Value) (pins:List (Addr × Obj)) (s:Shared) (σ:St) (H:Hp) (Q:Bool→Hp→Prop),Inv X pins σ H s→t σ H Q→wpAny (model X.prog X.w) X.A (isTrue e X.env whole) (TP X pins σ Q) X.xe s
theorem PW.pt {X:Cx} {e:Expr} {t:TT} (h:PW X e t):PT X e t:=h _
noncomputable def PA (X:Cx) (es:List Expr) (t:TA):Prop :=
 ∀ (pos:Pos) (pins:List (Addr × Obj)) (s:Shared) (σ:St) (H:Hp) (Q:List V→Hp→Prop),Inv X pins σ H s→t σ H Q→wpAny (model X.prog X.w) X.A (spliced (backTo pos (starEach es X.env))) (AP X pins σ Q) X.xe s
noncomputable def PS (X:Cx) (st:Stmt) (t:TS):Prop :=
 ∀ (pins:List (Addr × Obj)) (s:Shared) (σ:St) (H:Hp) (D:Ends),Inv X pins σ H s→t D σ H→wpAny (model X.prog X.w) X.A (exec st X.env) (SP X pins D) X.xe s
noncomputable def PSs (X:Cx) (st:List Stmt) (t:TS):Prop :=
 ∀ (pins:List (Addr × Obj)) (s:Shared) (σ:St) (H:Hp) (D:Ends),Inv X pins σ H s→t D σ H→wpAny (model X.prog X.w) X.A (execs st X.env) (SP X pins D) X.xe s
theorem thn {α:Type} {t:Sem α} {Q Q':α→Shared→Prop} {M:Model} {A:Around} {E:Value→Shared→Prop} {s:Shared} (h:wpAny M A t Q E s) (hQ:∀ a s,Q a s→Q' a s):wpAny M A t Q' E s:=wpAny_mono h hQ fun _ _ x=>x
end L2
namespace L2
open PySem PySem.Spec PyProof.Rows
section
variable {X:Cx}
noncomputable def tVar (i:Nat):TE:=fun σ H Q=>∃ v,σ[i]?=some (some v)∧Q v H
noncomputable def tC (v:V):TE:=fun _ H Q=>Q v H
theorem pe_var {i:Nat} {x:Str} {pos:Pos} (hN:X.N[i]?=some x) (hv:Vis X.env.scope x) (hd:(x == ("__debug__":Str))=false:=by decide) (hcd:(x == ("__classdict__":Str))=false:=by decide):PE X (.Name x pos) (tVar i):=by
 intro pins s σ H Q I h
 obtain ⟨v,e,h⟩:=h
 obtain ⟨m,hn,hl⟩:=I.loc
 obtain ⟨u,r,l⟩:=hl i x v hN e hv
 have fin:EP X pins σ Q u s:=⟨v,H,I,r,h⟩
 rcases l with ⟨hk,hm⟩ | ⟨hk,c,hc,hcell⟩
 ·exact wpAny_Name (wpAny_loadName_local I.ok.kind hk hn hm fin) hd
 ·rcases hk with hk | hk
  ·exact wpAny_Name (wpAny_loadName_cell I.ok.kind hk hc hcell fin) hd
  ·exact wpAny_Name (wpAny_loadName_free I.ok.kind hk hc hcell fin hcd) hd
theorem pe_int {i j pos}:PE X (.Constant (.int i) j pos) (tC (.int i)):=fun _ _ _ H _ I h=>wpAny_Constant_int ⟨.int i,H,I.tok _,⟨_,rfl⟩,h⟩
theorem pe_bl {b j pos}:PE X (.Constant (.bool b) j pos) (tC (.bl b)):=fun _ _ _ H _ I h=>Constant_bool ⟨.bl b,H,I,rfl,h⟩
theorem pe_non {j pos}:PE X (.Constant .none j pos) (tC .non):=fun _ _ _ H _ I h=>Constant_none ⟨.non,H,I,rfl,h⟩
theorem pe_str {x j pos}:PE X (.Constant (.str x) j pos) (tC (.str x)):=fun _ _ _ H _ I h=>Calls.Constant_str ⟨.str x,H,I.tok _,⟨_,rfl⟩,h⟩
noncomputable def Gl (X:Cx) (x:Str):Prop:=X.env.kindOf x=some .globalImplicit
theorem ld_glob {E:Value→Shared→Prop} {pins:List (Addr × Obj)} {s:Shared} {σ:St} {H:Hp} {x:Str} {u:Value} {pos:Pos} {Q:Value→Shared→Prop} (I:Inv X pins σ H s) (hg:Gl X x) (hm:X.mg x=some u) (h:Q u s)
    (hd:(x == ("__debug__":Str))=false:=by decide):wpAny (model X.prog X.w) X.A (eval (.Name x pos) X.env) Q E s :=
  Calls.Name_function_global I.ok.kind hg (Calls.loadGlobal_global (by rw [I.ok.glob];exact I.mod.glob.keeps I.bk) hm h) hd
theorem ld_blt {E:Value→Shared→Prop} {pins:List (Addr × Obj)} {s:Shared} {σ:St} {H:Hp} {x:Str} {u:Value} {pos:Pos} {Q:Value→Shared→Prop} (I:Inv X pins σ H s) (hg:Gl X x) (hm:X.mg x=none) (hv:bootBuiltins x=some u) (h:Q u s)
    (hn:x≠"__name__":=by decide) (hd:(x == ("__debug__":Str))=false:=by decide):wpAny (model X.prog X.w) X.A (eval (.Name x pos) X.env) Q E s:=by
  obtain ⟨mb,h1,h2⟩:=I.mod.blt
  exact Calls.Name_function_global I.ok.kind hg (Calls.loadGlobal_builtin (by rw [I.ok.glob];exact I.mod.glob.keeps I.bk) hm (by rw [I.ok.blt];exact h1.keeps I.bk) ((h2 x hn).trans hv) h) hd
theorem pe_glob {x:Str} {v:V} {u:Value} {pos:Pos} (hg:Gl X x) (hm:X.mg x=some u) (r:RelV v u) (hd:(x == ("__debug__":Str))=false:=by decide):PE X (.Name x pos) (tC v) :=
 fun _ _ _ H _ I h=>ld_glob I hg hm ⟨v,H,I,r,h⟩ hd
theorem pe_bltn {x:Str} {v:V} {u:Value} {pos:Pos} (hg:Gl X x) (hm:X.mg x=none) (hv:bootBuiltins x=some u) (r:RelV v u) (hn:x≠"__name__":=by decide) (hd:(x == ("__debug__":Str))=false:=by decide):PE X (.Name x pos) (tC v) :=
 fun _ _ _ H _ I h=>ld_blt I hg hm hv ⟨v,H,I,r,h⟩ hn hd
variable {a b:Expr} {ta tb:TE} {pos:Pos}
noncomputable def PC (X:Cx) (op:CmpOp) (a b:Expr) (t:TE):Prop :=
 ∀ (pins:List (Addr × Obj)) (s:Shared) (σ:St) (H:Hp) (Q:VK),Inv X pins σ H s→t σ H Q →
  wpAny (model X.prog X.w) X.A (eval a X.env) (fun v s₁=>wpAny (model X.prog X.w) X.A (eval b X.env) (fun u s₂=>wpAny (model X.prog X.w) X.A (compareOp op v u) (EP X pins σ Q) X.xe s₂) X.xe s₁) X.xe s
theorem qHF (b:Expr) {op:CmpOp} (h:op≠.In) (h2:op≠.NotIn):behindInMarks op b=false:=by
 have e1:(op == CmpOp.In)=false:=by cases op <;> first | rfl | exact absurd rfl h
 have e2:(op == CmpOp.NotIn)=false:=by cases op <;> first | rfl | exact absurd rfl h2
 cases b <;> simp [behindInMarks,e1,e2]
noncomputable def tIsN (ta:TE):TE:=fun σ H Q=>ta σ H fun x H1=>Q (.bl (decide (x=.non))) H1
noncomputable def tNotN (ta:TE):TE:=fun σ H Q=>ta σ H fun x H1=>Q (.bl (!decide (x=.non))) H1
theorem RelV.none_iff {x:V} {v:Value} (r:RelV x v):(v == Value.none)=decide (x=.non):=by
 cases x with
 | non=>cases r;rfl
 | bl _=>cases r;rfl
 | int _=>obtain ⟨t,rfl⟩:=r;rfl
 | str _=>obtain ⟨t,rfl⟩:=r;rfl
 | byt _=>obtain ⟨t,rfl⟩:=r;rfl
 | flt _=>obtain ⟨t,rfl⟩:=r;rfl
 | ref _=>cases r;rfl
 | ty _=>cases r;rfl
theorem pc_isN {j pos'} (ha:PE X a ta):PC X .Is a (.Constant .none j pos') (tIsN ta):=by
 intro pins s σ H Q I h
 refine thn (ha pins s σ H _ I h) fun v s1 ⟨x,H1,I1,r1,q1⟩=>?_
 exact Constant_none (is_none_gen ⟨.bl _,H1,I1,by rw [r1.none_iff];rfl,q1⟩)
theorem pc_notN {j pos'} (ha:PE X a ta):PC X .IsNot a (.Constant .none j pos') (tNotN ta):=by
 intro pins s σ H Q I h
 refine thn (ha pins s σ H _ I h) fun v s1 ⟨x,H1,I1,r1,q1⟩=>?_
 exact Constant_none (isnot_none_gen ⟨.bl _,H1,I1,by rw [r1.none_iff];rfl,q1⟩)
noncomputable def tB (t:TE):TT:=fun σ H Q=>t σ H fun x H1=>∃ c,x=.bl c∧Q c H1
theorem pe_cmp {op:CmpOp} {t:TE} (h:PC X op a b t) (h1:behindInMarks op b=false:=by first | exact qHF _ (by decide) (by decide) | rfl):PE X (.Compare a [op] [b] pos) t:=fun pins s σ H Q I hw=>wpAny_Compare1 (h pins s σ H Q I hw) h1
theorem pt_cmp {op:CmpOp} {t:TE} (h:PC X op a b t) (h1:behindInMarks op b=false:=by first | exact qHF _ (by decide) (by decide) | rfl):PT X (.Compare a [op] [b] pos) (tB t):=by
 intro pins s σ H Q I hw
 refine wpAny_isTrue_Compare1 (thn (h pins s σ H _ I hw) fun v s1 h1=>thn h1 fun u s2 h2=>thn h2 fun c s3 ⟨x,H1,I1,r1,q1⟩=>?_) h1
 obtain ⟨d,rfl,q⟩:=q1
 cases r1
 exact wpAny_truthy_bool ⟨H1,I1,q⟩
variable {tA tB':TT} {rest:List Expr}
noncomputable def tAnd (t u:TT):TT:=fun σ H Q=>t σ H fun c H1=>if c=true then u σ H1 Q else Q false H1
noncomputable def tOr (t u:TT):TT:=fun σ H Q=>t σ H fun c H1=>if c=true then Q true H1 else u σ H1 Q
noncomputable def tNot (t:TT):TT:=fun σ H Q=>t σ H fun c H1=>Q (!c) H1
theorem pw_and1 (ha:PT X a tA):PW X (.BoolOp .And [a] pos) tA:=by
 intro wh pins s σ H Q I h
 refine isTrue_and (thn (ha pins s σ H Q I h) fun c s1 e=>?_)
 cases c with
 | true=>exact isTrue_and_nil e
 | false=>exact e
theorem pw_or1 (ha:PT X a tA):PW X (.BoolOp .Or [a] pos) tA:=by
 intro wh pins s σ H Q I h
 refine isTrue_or (thn (ha pins s σ H Q I h) fun c s1 e=>?_)
 cases c with
 | false=>exact isTrue_or_nil e
 | true=>exact e
theorem pw_and (ha:PT X a tA) (hb:PW X (.BoolOp .And (b::rest) pos) tB'):PW X (.BoolOp .And (a::b::rest) pos) (tAnd tA tB'):=by
 intro wh pins s σ H Q I h
 refine isTrue_and (thn (ha pins s σ H _ I h) fun c s1 ⟨H1,I1,q1⟩=>?_)
 cases c with
 | true=>exact hb wh pins s1 σ H1 Q I1 q1
 | false=>exact ⟨H1,I1,q1⟩
theorem pw_or (ha:PT X a tA) (hb:PW X (.BoolOp .Or (b::rest) pos) tB'):PW X (.BoolOp .Or (a::b::rest) pos) (tOr tA tB'):=by
 intro wh pins s σ H Q I h
 refine isTrue_or (thn (ha pins s σ H _ I h) fun c s1 ⟨H1,I1,q1⟩=>?_)
 cases c with
 | true=>exact ⟨H1,I1,q1⟩
 | false=>exact hb wh pins s1 σ H1 Q I1 q1
theorem pt_not (ha:PT X a tA):PT X (.UnaryOp .Not a pos) (tNot tA):=by
 intro pins s σ H Q I h
 exact isTrue_not (ha pins s σ H (fun c H1=>Q (!c) H1) I h)
noncomputable def tAndV (ta tb:TE):TE:=fun σ H Q=>ta σ H fun x H1=>∃ c,x=.bl c∧if c=true then tb σ H1 Q else Q (.bl false) H1
noncomputable def tOrV (ta tb:TE):TE:=fun σ H Q=>ta σ H fun x H1=>∃ c,x=.bl c∧if c=true then Q (.bl true) H1 else tb σ H1 Q
theorem pe_one {op} {t:TE} (h:PE X a t):PE X (.BoolOp op [a] pos) t:=fun pins s σ H Q I hw=>BoolOp_one (h pins s σ H Q I hw)
theorem pe_and (ha:PE X a ta) (hb:PE X (.BoolOp .And (b::rest) pos) tb):PE X (.BoolOp .And (a::b::rest) pos) (tAndV ta tb):=by
 intro pins s σ H Q I h
 refine BoolOp_and (thn (ha pins s σ H _ I h) fun v s1 ⟨x,H1,I1,r1,q1⟩=>?_)
 obtain ⟨c,rfl,q1⟩:=q1
 cases r1
 refine wpAny_truthy_bool ?_
 cases c with
 | true=>exact hb pins s1 σ H1 Q I1 q1
 | false=>exact ⟨.bl false,H1,I1,rfl,q1⟩
theorem pe_or (ha:PE X a ta) (hb:PE X (.BoolOp .Or (b::rest) pos) tb):PE X (.BoolOp .Or (a::b::rest) pos) (tOrV ta tb):=by
 intro pins s σ H Q I h
 refine BoolOp_or (thn (ha pins s σ H _ I h) fun v s1 ⟨x,H1,I1,r1,q1⟩=>?_)
 obtain ⟨c,rfl,q1⟩:=q1
 cases r1
 refine wpAny_truthy_bool ?_
 cases c with
 | false=>exact hb pins s1 σ H1 Q I1 q1
 | true=>exact ⟨.bl true,H1,I1,rfl,q1⟩
end
end L2
namespace L2
open PySem PySem.Spec PyProof.Rows
noncomputable def SqL (K:PySem.W.Frag) (H:Hp) (a:Addr) (xs:List V):Prop :=
 Rd H a (.lst xs) ∨
  ∃ (o:Obj) (its:Array Value) (n:Nat),K.lookup a=some o∧o.cls=.type "list"∧o.dict=none∧o.data=.seq its n∧its.size≤sizeLine∧Vals xs its.toList
noncomputable def SqT (K:PySem.W.Frag) (H:Hp) (a:Addr) (xs:List V):Prop :=
 Rd H a (.tup xs) ∨
  ∃ (o:Obj) (its:Array Value) (n:Nat),K.lookup a=some o∧o.cls=.type "tuple"∧o.data=.seq its n∧its.size≤sizeLine∧Vals xs its.toList
noncomputable def absV:Value→Option V
 | .none=>some .non
 | .bool b=>some (.bl b)
 | .int i _=>some (.int i)
 | .str x _=>some (.str x)
 | .bytes b _=>some (.byt b)
 | .float b _=>some (.flt b)
 | .ref a=>some (.ref a)
 | .type n=>some (.ty n)
 | _=>none
theorem RelV.abs {x:V} {u:Value} (r:RelV x u):absV u=some x:=by
 cases x with
 | non=>cases r;rfl
 | bl _=>cases r;rfl
 | int _=>obtain ⟨t,rfl⟩:=r;rfl
 | str _=>obtain ⟨t,rfl⟩:=r;rfl
 | byt _=>obtain ⟨t,rfl⟩:=r;rfl
 | flt _=>obtain ⟨t,rfl⟩:=r;rfl
 | ref _=>cases r;rfl
 | ty _=>cases r;rfl
theorem RelV.inj {x y:V} {u:Value} (r:RelV x u) (q:RelV y u):x=y:=Option.some.inj (r.abs.symm.trans q.abs)
theorem Vals.inj:∀ {xs ys:List V} {us:List Value},Vals xs us→Vals ys us→xs=ys
 | _,_,_,.nil,.nil=>rfl
 | _,_,_,.cons r t,.cons r' t'=>by rw [r.inj r',Vals.inj t t']
section
variable {X:Cx} {pins:List (Addr × Obj)} {σ:St} {H:Hp} {s:Shared} {a:Addr} {xs ys:List V}
theorem SqL.of {K:PySem.W.Frag} (h:H a=some (.lst xs)):SqL K H a xs:=.inl (.inl h)
theorem SqT.of {K:PySem.W.Frag} (h:H a=some (.tup xs)):SqT K H a xs:=.inl (.inl h)
theorem Inv.list (I:Inv X pins σ H s) (h:SqL X.K H a xs):∃ its:List Value,Vals xs its∧PlainL s.heap a its.toArray∧xs.length≤sizeLine:=by
 rcases h with h | ⟨o,its,n,hk,hc,hd,hs,hz,r⟩
 ·obtain ⟨z,its,n,r,e⟩:=h.ok I.hok
  exact ⟨its,r,⟨_,n,e,rfl,rfl,rfl⟩,z⟩
 ·refine ⟨its.toList,r,⟨o,n,I.kIn a o hk,hc,hd,by simpa using hs⟩,?_⟩
  have e:=r.length
  simp only [Array.length_toList] at e
  omega
theorem Inv.tuple (I:Inv X pins σ H s) (h:SqT X.K H a xs):∃ its:List Value,Vals xs its∧IsTup s.heap a its.toArray∧xs.length≤sizeLine:=by
 rcases h with h | ⟨o,its,n,hk,hc,hs,hz,r⟩
 ·obtain ⟨z,its,r,p⟩:=h.ok I.hok
  exact ⟨its,r,p,z⟩
 ·refine ⟨its.toList,r,⟨o,I.kIn a o hk,hc,n,by simpa using hs⟩,?_⟩
  have e:=r.length
  simp only [Array.length_toList] at e
  omega
theorem Inv.list_inj (I:Inv X pins σ H s) (h:SqL X.K H a xs) (h':SqL X.K H a ys):xs=ys:=by
 obtain ⟨its,r,⟨o,n,e,_,_,d⟩,_⟩:=I.list h
 obtain ⟨its',r',⟨o',n',e',_,_,d'⟩,_⟩:=I.list h'
 rw [e] at e';cases e'
 rw [d] at d'
 injection d' with d1 _
 have:its=its':=by simpa using congrArg Array.toList d1
 subst this
 exact r.inj r'
theorem Inv.tuple_inj (I:Inv X pins σ H s) (h:SqT X.K H a xs) (h':SqT X.K H a ys):xs=ys:=by
 obtain ⟨its,r,⟨o,e,_,n,d⟩,_⟩:=I.tuple h
 obtain ⟨its',r',⟨o',e',_,n',d'⟩,_⟩:=I.tuple h'
 rw [e] at e';cases e'
 rw [d] at d'
 injection d' with d1 _
 have:its=its':=by simpa using congrArg Array.toList d1
 subst this
 exact r.inj r'
end
noncomputable abbrev Cx.wish (X:Cx) (E:Value→Shared→Prop):Cx:={ X with xe:=E }
noncomputable abbrev Cx.nox (X:Cx):Cx:=X.wish fun _ _=>False
theorem Cx.Ok.wish {X:Cx} (ok:X.Ok) (E:Value→Shared→Prop):(X.wish E).Ok :=
 ⟨ok.mod,ok.kind,ok.glob,ok.blt,ok.above,ok.inj,ok.has,ok.cab,ok.hd,ok.frames,ok.stk,ok.exf,ok.bs,ok.bsz,ok.noex,ok.exfs,ok.funs,ok.frf⟩
theorem Cx.Ok.unwish {X:Cx} {E:Value→Shared→Prop} (ok:(X.wish E).Ok):X.Ok :=
 ⟨ok.mod,ok.kind,ok.glob,ok.blt,ok.above,ok.inj,ok.has,ok.cab,ok.hd,ok.frames,ok.stk,ok.exf,ok.bs,ok.bsz,ok.noex,ok.exfs,ok.funs,ok.frf⟩
section
variable {X:Cx} {pins:List (Addr × Obj)} {σ:St} {H:Hp} {s:Shared} {E:Value→Shared→Prop}
theorem Inv.wish (I:Inv X pins σ H s) (E:Value→Shared→Prop):Inv (X.wish E) pins σ H s:=⟨I.ok.wish E,I.os,I.bare,I.base,I.loc,I.cell,I.free,I.freeC,I.pin,I.hok,I.len⟩
theorem Inv.unwish (I:Inv (X.wish E) pins σ H s):Inv X pins σ H s:=⟨I.ok.unwish,I.os,I.bare,I.base,I.loc,I.cell,I.free,I.freeC,I.pin,I.hok,I.len⟩
theorem SP.unwish {D:Ends} {f:Flow} {s':Shared} (h:SP (X.wish E) pins D f s'):SP X pins D f s':=by
 cases f with
 | next=>obtain ⟨σ',H',I,q⟩:=h;exact ⟨σ',H',I.unwish,q⟩
 | brk=>obtain ⟨σ',H',I,q⟩:=h;exact ⟨σ',H',I.unwish,q⟩
 | cont=>obtain ⟨σ',H',I,q⟩:=h;exact ⟨σ',H',I.unwish,q⟩
 | ret u=>obtain ⟨v,σ',H',I,r,q⟩:=h;exact ⟨v,σ',H',I.unwish,r,q⟩
theorem PE.nox {e:Expr} {t:TE} (h:PE X.nox e t):PE X e t:=fun pins s σ H Q I hw =>
 wpAny_mono (h pins s σ H Q (I.wish _) hw) (fun _ _ ⟨v,H',I',r,q⟩=>⟨v,H',I'.unwish,r,q⟩) fun _ _ z=>False.elim z
theorem PT.nox {e:Expr} {t:TT} (h:PT X.nox e t):PT X e t:=fun pins s σ H Q I hw =>
 wpAny_mono (h pins s σ H Q (I.wish _) hw) (fun _ _ ⟨H',I',q⟩=>⟨H',I'.unwish,q⟩) fun _ _ z=>False.elim z
theorem PSs.nox {st:List Stmt} {t:TS} (h:PSs X.nox st t):PSs X st t:=fun pins s σ H D I hw =>
 wpAny_mono (h pins s σ H D (I.wish _) hw) (fun _ _ q=>q.unwish) fun _ _ z=>False.elim z
end
section
variable {X:Cx} {st:Stmt} {rest:List Stmt} {t u:TS} {e:Expr} {te:TE} {pos:Pos}
noncomputable def tNext:TS:=fun D σ H=>D.nx σ H
noncomputable def tSeq (t u:TS):TS:=fun D σ H=>t { D with nx:=u D } σ H
theorem pss_nil:PSs X [] tNext:=fun _ _ σ H _ I h=>wpAny_execs_nil ⟨σ,H,I,h⟩
theorem pss_cons (h1:PS X st t) (h2:PSs X rest u):PSs X (st::rest) (tSeq t u):=by
 intro pins s σ H D I h
 refine wpAny_execs_cons (thn (h1 pins s σ H { D with nx:=u D } I h) fun f s1 q=>?_)
 cases f with
 | next =>
  obtain ⟨σ',H',I',q⟩:=q
  exact h2 pins s1 σ' H' D I' q
 | ret v=>exact q
 | brk=>exact q
 | cont=>exact q
theorem pss_one (h1:PS X st t):PSs X [st] t:=by
 intro pins s σ H D I h
 refine wpAny_execs_cons (thn (h1 pins s σ H D I h) fun f s1 q=>?_)
 cases f with
 | next=>exact wpAny_execs_nil q
 | ret v=>exact q
 | brk=>exact q
 | cont=>exact q
noncomputable def qNh:TS:=fun D σ H=>D.bk σ H
noncomputable def tCont:TS:=fun D σ H=>D.ct σ H
theorem ps_pass:PS X (.Pass pos) tNext:=fun _ _ σ H _ I h=>wpAny_Pass ⟨σ,H,I,h⟩
theorem ps_break:PS X (.Break pos) qNh:=fun _ _ σ H _ I h=>wpAny_Break ⟨σ,H,I,h⟩
theorem ps_continue:PS X (.Continue pos) tCont:=fun _ _ σ H _ I h=>wpAny_Continue ⟨σ,H,I,h⟩
theorem Inv.quiet {pins:List (Addr × Obj)} {σ:St} {H:Hp} {s:Shared} (I:Inv X pins σ H s):interactive X.env=false:=by simp [interactive,I.ok.kind]
noncomputable def tDrop (te:TE):TS:=fun D σ H=>te σ H fun _ H1=>D.nx σ H1
theorem ps_expr (he:PE X e te) (hs:swapsWith e none pos.line X.env=pure false:=by rfl):PS X (.Expr e pos) (tDrop te):=by
 intro pins s σ H D I h
 exact wpAny_Expr_any (thn (he pins s σ H _ I h) fun v s1 ⟨x,H1,I1,r1,q1⟩=>⟨σ,H1,I1,q1⟩) I.quiet hs
noncomputable def tRet (te:TE):TS:=fun D σ H=>te σ H D.rt
theorem ps_ret (he:PE X e te):PS X (.Return (some e) pos) (tRet te):=by
 intro pins s σ H D I h
 exact wpAny_Return_some (thn (he pins s σ H _ I h) fun v s1 ⟨x,H1,I1,r1,q1⟩=>⟨x,σ,H1,I1,r1,q1⟩)
noncomputable def tRetN:TS:=fun D _ H=>D.rt .non H
theorem ps_retN:PS X (.Return none pos) tRetN:=fun _ _ σ H _ I h=>wpAny_Return_none ⟨.non,σ,H,I,rfl,h⟩
noncomputable def tIfS (c:TT) (t u:TS):TS:=fun D σ H=>c σ H fun b H1=>if b=true then t D σ H1 else u D σ H1
theorem ps_if {c:Expr} {a b:List Stmt} {tc:TT} (hc:PT X c tc) (ha:PSs X a t) (hb:PSs X b u):PS X (.If c a b pos) (tIfS tc t u):=by
 intro pins s σ H D I h
 refine wpAny_If (thn (hc pins s σ H _ I h) fun d s1 ⟨H1,I1,q1⟩=>?_)
 cases d with
 | true=>exact ha pins s1 σ H1 D I1 q1
 | false=>exact hb pins s1 σ H1 D I1 q1
end
noncomputable abbrev TG:=V→St→Hp→(St→Hp→Prop)→Prop
noncomputable abbrev TGs:=List V→St→Hp→(St→Hp→Prop)→Prop
noncomputable def PG (X:Cx) (target:Expr) (t:TG):Prop :=
 ∀ (pins:List (Addr × Obj)) (s:Shared) (σ:St) (H:Hp) (v:V) (u:Value) (Q:St→Hp→Prop),Inv X pins σ H s→RelV v u→t v σ H Q →
  wpAny (model X.prog X.w) X.A (assign target X.env u) (fun _ s'=>∃ σ' H',Inv X pins σ' H' s'∧Q σ' H') X.xe s
noncomputable def PGs (X:Cx) (ts:List Expr) (t:TGs):Prop :=
 ∀ (pins:List (Addr × Obj)) (s:Shared) (σ:St) (H:Hp) (vs:List V) (us:List Value) (Q:St→Hp→Prop),Inv X pins σ H s→Vals vs us→t vs σ H Q →
  wpAny (model X.prog X.w) X.A (assignInOrder ((assignEach ts X.env).map (·.2)) us) (fun _ s'=>∃ σ' H',Inv X pins σ' H' s'∧Q σ' H') X.xe s
noncomputable abbrev TSet:=V→V→V→Hp→(Hp→Prop)→Prop
noncomputable def PSet (X:Cx) (t:TSet):Prop :=
 ∀ (pins:List (Addr × Obj)) (s:Shared) (σ:St) (H:Hp) (o i v:V) (ov iv u:Value) (Q:Hp→Prop),Inv X pins σ H s→RelV o ov→RelV i iv→RelV v u→t o i v H Q →
  wpAny (model X.prog X.w) X.A (setItem ov iv u) (fun _ s'=>∃ H',Inv X pins σ H' s'∧Q H') X.xe s
section
variable {X:Cx} {pos:Pos}
noncomputable def gName (i:Nat):TG:=fun v σ H Q=>Q (σ.set i (some v)) H
theorem pg_name {i:Nat} {x:Str} (hN:X.N.Nodup) (hi:X.N[i]?=some x) (hx:Loc X.env.scope x) (hf:X.fn x=true∨X.env.scope.names.lookup x=some .local:=by first | exact .inl rfl | exact .inr rfl | assumption):PG X (.Name x pos) (gName i):=by
 intro pins s σ H v u Q I r h
 exact wpAny_assign_Name (store_ok I hN hi hx r (fun s' I'=>⟨_,H,I',h⟩) hf)
noncomputable def gNil:TGs:=fun vs σ H Q=>vs=[]∧Q σ H
noncomputable def gCons (t:TG) (u:TGs):TGs:=fun vs σ H Q=>∃ v r,vs=v::r∧t v σ H fun σ' H'=>u r σ' H' Q
theorem pgs_nil:PGs X [] gNil:=by
 intro pins s σ H vs us Q I r h
 obtain ⟨e,h⟩:=h
 subst e
 cases r
 exact assignInOrder_nil ⟨σ,H,I,h⟩
theorem pgs_cons {e:Expr} {es:List Expr} {t:TG} {u:TGs} (h1:PG X e t) (h2:PGs X es u)
    (hs:(assignEach (e::es) X.env).map (·.2)=assign e X.env::(assignEach es X.env).map (·.2):=by rfl):PGs X (e::es) (gCons t u):=by
  intro pins s σ H vs us Q I r h
  obtain ⟨v,vr,e1,h⟩:=h
  subst e1
  cases r with
  | cons r rr =>
    rw [hs]
    refine assignInOrder_cons (thn (h1 pins s σ H _ _ _ I r h) fun _ s1 ⟨σ1,H1,I1,q1⟩=>?_)
    exact h2 pins s1 σ1 H1 _ _ Q I1 rr q1
noncomputable def gTup (K:PySem.W.Frag) (n:Nat) (t:TGs):TG:=fun v σ H Q=>∃ a xs,v=.ref a∧SqT K H a xs∧xs.length=n∧t xs σ H Q
theorem pg_tup {es:List Expr} {k:Nat} {t:TGs} {n:Nat} (hc:X.calm=true) (h:PGs X es t)
    (hn:(assignEach es X.env).length=n:=by rfl) (hst:(assignEach es X.env).findIdx? (·.1)=none:=by rfl):PG X (.Tuple es k pos) (gTup X.K n t):=by
  intro pins s σ H v u Q I r hw
  obtain ⟨a,xs,e1,hq,hl,hw⟩:=hw
  subst e1
  cases r
  obtain ⟨its,rv,ht,hz⟩:=I.tuple hq
  refine assign_Tuple_tuple (I.ok.hd hc) ht (by simp [hn,← hl,rv.length]) hst fun h' hx=>?_
  have I1:Inv X pins σ H { s with heap:=h' }:=I.kept (t':=s.toks) fun b o e=>hx b o (Nat.ne_of_lt (Heap.lt_size e)) e
  exact h pins _ σ H xs _ Q I1 (by simpa using rv) hw
noncomputable def gSub (to ti:TE) (t:TSet):TG:=fun v σ H Q=>to σ H fun o H1=>ti σ H1 fun i H2=>t o i v H2 fun H3=>Q σ H3
theorem pg_sub {o i:Expr} {to ti:TE} {t:TSet} (ho:PE X o to) (hi:PE X i ti) (hs:PSet X t)
    (ha:∀ v,assign (.Subscript o i pos) X.env v=(do
      let ov ← holding [v] (eval o X.env)
      let iv ← holding [v,ov] (eval i X.env)
      standAt pos
      holding [v,ov,iv] (setItem ov iv v)
      release [v,ov,iv] []):=by intro _;rfl):PG X (.Subscript o i pos) (gSub to ti t):=by
  intro pins s σ H v u Q I r h
  rw [ha]
  refine wpAny_bind (wpAny_holding (thn (ho pins s σ H _ I h) fun ov s1 ⟨x,H1,I1,r1,q1⟩=>?_))
  refine wpAny_bind (wpAny_holding (thn (hi pins s1 σ H1 _ I1 q1) fun iv s2 ⟨y,H2,I2,r2,q2⟩=>?_))
  refine wpAny_bind (wpAny_standAt (wpAny_bind (wpAny_holding (thn (hs pins s2 σ H2 x y v ov iv u _ I2 r1 r2 r q2) fun _ s3 ⟨H3,I3,q3⟩=>?_))))
  exact wpAny_release ⟨σ,H3,I3,q3⟩
noncomputable def tAsg (te:TE) (g:TG):TS:=fun D σ H=>te σ H fun x H1=>g x σ H1 D.nx
theorem ps_asg {tg e:Expr} {te:TE} {g:TG} (he:PE X e te) (hg:PG X tg g) (hs:swapsWithSole [tg] e pos.line X.env=pure false:=by rfl) (hw:swappedStores [tg] e X.env=pure none:=by rfl)
    (h1:(assignEach [tg] X.env).map (·.2)=[assign tg X.env]:=by rfl):PS X (.Assign [tg] e pos) (tAsg te g):=by
  intro pins s σ H D I h
  refine wpAny_Assign_stores (thn (he pins s σ H _ I h) fun v s1 ⟨x,H1,I1,r1,q1⟩=>?_) hs hw
  rw [h1]
  exact thn (hg pins s1 σ H1 x v _ I1 r1 q1) fun _ s2 q=>q
theorem ps_set {i:Nat} {x:Str} {e:Expr} {te:TE} {pos':Pos} (hN:X.N.Nodup) (hi:X.N[i]?=some x) (hx:Loc X.env.scope x) (he:PE X e te) (hs:swapsWith e (some (.Name x pos')) pos.line X.env=pure false:=by rfl) (hf:X.fn x=true∨X.env.scope.names.lookup x=some .local:=by first | exact .inl rfl | exact .inr rfl | assumption) :
    PS X (.Assign [.Name x pos'] e pos) (tAsg te (gName i)):=by
  intro pins s σ H D I h
  refine wpAny_Assign_Name (thn (he pins s σ H _ I h) fun v s1 ⟨y,H1,I1,r1,q1⟩=>?_) hs
  exact store_ok I1 hN hi hx r1 (fun s2 I2=>⟨_,H1,I2,q1⟩) hf
end
section
variable {X:Cx} {pos:Pos}
end
structure It where
 go:Nat→Hp→Prop
 yld:Nat→Hp→V→Hp→Prop
 stop:Nat→Hp→Prop
noncomputable def FpOk (X:Cx) (pins:List (Addr × Obj)) (H:Hp) (b:Addr):Prop :=
 H b=none∧b≠X.env.locals∧b∉X.fs∧(b∈X.ex∨X.s₀.heap.objs.size≤b)∧(∀ x c,X.env.cells.lookup x=some c→c≠b)∧∀ p∈X.pn++pins,p.1≠b
theorem Inv.fpOk {X:Cx} {pins:List (Addr × Obj)} {σ:St} {H H':Hp} {s:Shared} {b:Addr} (I:Inv X pins σ H s) (hb:s.heap.objs.size≤b) (hn:H' b=none):FpOk X pins H' b:=by
 refine ⟨hn,Nat.ne_of_gt (Nat.lt_of_lt_of_le I.lt hb),I.nofs hb,.inr (Nat.le_trans I.sz hb),fun x c e z=>?_,fun p hp z=>?_⟩
 ·obtain ⟨v,q⟩:=I.cell x c e
  exact absurd (Nat.lt_of_lt_of_le q.lt (by rw [z];exact hb)) (Nat.lt_irrefl _)
 ·exact absurd (Nat.lt_of_lt_of_le (Heap.lt_size (I.pin p hp).1) (by rw [z];exact hb)) (Nat.lt_irrefl _)
structure Turn (P:Program) (w:World) (K:PySem.W.Frag) (tg:Expr) (J:It) (fp:List Addr) (it:Addr) (tn:Nat→Heap→Prop):Prop where
 mem:it∈fp
 obj:∀ i h,tn i h→∀ b∈fp,∃ o,h.get? b=some o∧∀ v,o.data≠.cell v
 keep:∀ i h h',tn i h→(∀ b∈fp,∀ o,h.get? b=some o→h'.get? b=some o)→tn i h'
 item:∀ (X:Cx),X.prog=P→X.w=w→X.K=K→X.calm=true→∀ (i:Nat) (pins:List (Addr × Obj)) (s:Shared) (σ:St) (H:Hp) (E:Value→Shared→Prop),Inv X pins σ H s→(∀ b∈fp,FpOk X pins H b)→tn i s.heap→J.go i H →
  wpAny (model P w) X.A (pyNext (.ref it)) (fun r s1=>∃ u,r=some u ∧
   wpAny (model P w) X.A (letOwnedTupleGo tg (.ref it) u) (fun _ s2=>∃ x H',Inv X pins σ H' s2∧RelV x u∧J.yld i H x H'∧tn (i+1) s2.heap∧∀ b∈fp,H' b=none) E s1) E s
 done:∀ (X:Cx),X.prog=P→X.w=w→X.K=K→X.calm=true→∀ (i:Nat) (pins:List (Addr × Obj)) (s:Shared) (σ:St) (H:Hp) (E:Value→Shared→Prop),Inv X pins σ H s→(∀ b∈fp,FpOk X pins H b)→tn i s.heap→J.stop i H →
  wpAny (model P w) X.A (pyNext (.ref it)) (fun r s1=>r=none∧Inv X pins σ H s1) E s
 self:∀ (A:Around) (i:Nat) (s:Shared) (Q:Value→Shared→Prop) (E:Value→Shared→Prop),tn i s.heap→Q (.ref it) s→wpAny (model P w) A (pyIter (.ref it)) Q E s
noncomputable abbrev TI:=St→Hp→(It→Hp→Prop)→Prop
noncomputable def PIE (X:Cx) (pins:List (Addr × Obj)) (σ:St) (tg:Expr) (R:It→Hp→Prop) (itv:Value) (s2:Shared):Prop :=
 ∃ (it:Addr) (fp:List Addr) (tn:Nat→Heap→Prop) (J:It) (H':Hp),itv=.ref it∧Inv X pins σ H' s2∧Turn X.prog X.w X.K tg J fp it tn∧tn 0 s2.heap∧(∀ b∈fp,FpOk X pins H' b)∧R J H'
noncomputable def PI (X:Cx) (tg iter:Expr) (wi:TI):Prop :=
 ∀ (pins:List (Addr × Obj)) (s:Shared) (σ:St) (H:Hp) (R:It→Hp→Prop),Inv X pins σ H s→wi σ H R →
  wpAny (model X.prog X.w) X.A (eval iter X.env) (fun v s1=>wpAny (model X.prog X.w) X.A (pyIter v) (PIE X pins σ tg R) X.xe s1) X.xe s
theorem go_of {M:Model} {A:Around} {E:Value→Shared→Prop} {s:Shared} {tg:Expr} {it:Addr} {u:Value} {o:Obj} {n:String} {vs:Array Value} {Q:Unit→Shared→Prop} (ho:s.heap.get? it=some o) (hc:o.cls=.type n) (hd:o.data=.fields vs)
    (hn:["enumerate","zip","dict_itemiterator","dict_reverseitemiterator","odict_iterator","itertools.zip_longest","itertools.pairwise"].contains n=false) (hQ:Q () s):wpAny M A (letOwnedTupleGo tg (.ref it) u) Q E s:=by
  unfold letOwnedTupleGo
  cases tg <;> first
    | exact wpAny_pure hQ
    | (cases u <;> first
        | exact wpAny_pure hQ
        | (refine wpAny_bind (wpAny_load ho ?_)
           rw [hc,hd]
           show wpAny M A (if (["enumerate","zip","dict_itemiterator","dict_reverseitemiterator","odict_iterator","itertools.zip_longest","itertools.pairwise"].contains n&&vs[0]? == some (rawInt _))=true then _ else _) Q E s
           rw [if_neg (by intro h;rw [hn,Bool.false_and] at h;cases h)]
           exact wpAny_pure hQ))
noncomputable def Itl (K:PySem.W.Frag) (a:Addr):It :=
 ⟨fun i H=>∃ xs x,SqL K H a xs∧xs[i]?=some x,fun i H x H'=>H'=H∧∀ xs,SqL K H a xs→xs[i]?=some x,fun i H=>∃ xs,SqL K H a xs∧xs.length≤i⟩
noncomputable def Itt (K:PySem.W.Frag) (a:Addr):It :=
 ⟨fun i H=>∃ xs x,SqT K H a xs∧xs[i]?=some x,fun i H x H'=>H'=H∧∀ xs,SqT K H a xs→xs[i]?=some x,fun i H=>∃ xs,SqT K H a xs∧xs.length≤i⟩
noncomputable def Itr (lo:Int) (n:Nat):It:=⟨fun i _=>i<n,fun i H x H'=>H'=H∧x=.int (lo+i),fun i _=>n≤i⟩
theorem turn_list {P:Program} {w:World} {K:PySem.W.Frag} {tg:Expr} (a it:Addr):Turn P w K tg (Itl K a) [it] it (fun i h=>h.IsListIter it a i) where
 mem:=by simp
 obj:=fun i h st b hb=>by
  have e:b=it:=by simpa using hb
  subst e
  obtain ⟨o,e,c,d⟩:=st
  exact ⟨o,e,fun v z=>by rw [d] at z;cases z⟩
 keep:=fun i h h' st k=>st.at fun o e=>k it (by simp) o e
 item:=by
  intro X hP hw hK hc i pins s σ H E I hf st hg
  subst hP hw hK
  obtain ⟨xs,x,hq,hx⟩:=hg
  obtain ⟨its,rv,p,hz⟩:=I.list hq
  obtain ⟨u,hu,ru⟩:=rv.get hx
  obtain ⟨f0,f1,f2,f3,f4,f5⟩:=hf it (by simp)
  refine wpAny_pyNext_list_item st p.isList (x:=u) (by simpa using hu) fun h' st' sb=>?_
  have I1:Inv X pins σ H { s with heap:=h' }:=I.turned (t':=s.toks) (fun b o hb e=>(sb.2 b hb).trans e) f0 f1 f3 f4 f5
  obtain ⟨o,e,c,d⟩:=id st'
  exact ⟨u,rfl,go_of (s:={ s with heap:=h' }) e c d (by decide) ⟨x,H,I1,ru,⟨rfl,fun ys hy=>by rw [I.list_inj hy hq];exact hx⟩,st',fun b hb=>(hf b hb).1⟩⟩
 done:=by
  intro X hP hw hK hc i pins s σ H E I hf st hg
  subst hP hw hK
  obtain ⟨xs,hq,hx⟩:=hg
  obtain ⟨its,rv,p,hz⟩:=I.list hq
  obtain ⟨f0,f1,f2,f3,f4,f5⟩:=hf it (by simp)
  have hl:=rv.length
  exact wpAny_pyNext_list_end (I.ok.hd hc) st p.isList (by simp;omega) fun h' eb=>⟨rfl,I.turned (t':=s.toks) (fun b o hb e=>eb b o hb e) f0 f1 f3 f4 f5⟩
 self:=fun _ _ _ _ _ st h=>wpAny_pyIter_listiter st h
theorem turn_tuple {P:Program} {w:World} {K:PySem.W.Frag} {tg:Expr} (a it:Addr):Turn P w K tg (Itt K a) [it] it (fun i h=>h.IsTupleIter it a i) where
 mem:=by simp
 obj:=fun i h st b hb=>by
  have e:b=it:=by simpa using hb
  subst e
  obtain ⟨o,e,c,d⟩:=st
  exact ⟨o,e,fun v z=>by rw [d] at z;cases z⟩
 keep:=fun i h h' st k=>st.at fun o e=>k it (by simp) o e
 item:=by
  intro X hP hw hK hc i pins s σ H E I hf st hg
  subst hP hw hK
  obtain ⟨xs,x,hq,hx⟩:=hg
  obtain ⟨its,rv,p,hz⟩:=I.tuple hq
  obtain ⟨u,hu,ru⟩:=rv.get hx
  obtain ⟨f0,f1,f2,f3,f4,f5⟩:=hf it (by simp)
  refine wpAny_pyNext_tuple_item st (show s.heap.IsTuple a its.toArray from p) (x:=u) (by simpa using hu) fun h' st' sb=>?_
  have I1:Inv X pins σ H { s with heap:=h' }:=I.turned (t':=s.toks) (fun b o hb e=>(sb.2 b hb).trans e) f0 f1 f3 f4 f5
  obtain ⟨o,e,c,d⟩:=id st'
  exact ⟨u,rfl,go_of (s:={ s with heap:=h' }) e c d (by decide) ⟨x,H,I1,ru,⟨rfl,fun ys hy=>by rw [I.tuple_inj hy hq];exact hx⟩,st',fun b hb=>(hf b hb).1⟩⟩
 done:=by
  intro X hP hw hK hc i pins s σ H E I hf st hg
  subst hP hw hK
  obtain ⟨xs,hq,hx⟩:=hg
  obtain ⟨its,rv,p,hz⟩:=I.tuple hq
  obtain ⟨f0,f1,f2,f3,f4,f5⟩:=hf it (by simp)
  have hl:=rv.length
  exact wpAny_pyNext_tuple_end (I.ok.hd hc) st (show s.heap.IsTuple a its.toArray from p) (by simp;omega) fun h' eb=>⟨rfl,I.turned (t':=s.toks) (fun b o hb e=>eb b o hb e) f0 f1 f3 f4 f5⟩
 self:=fun _ _ _ _ _ st h=>wpAny_pyIter_tupleiter st h
theorem qHY {P:Program} {w:World} {K:PySem.W.Frag} {tg:Expr} (it:Addr) (lo:Int) (n:Nat):Turn P w K tg (Itr lo n) [it] it (fun i h=>IsRangeIter h it (lo+(i:Nat)*1) ((n:Int)-(i:Nat)) 1) where
 mem:=by simp
 obj:=fun i h st b hb=>by
  have e:b=it:=by simpa using hb
  subst e
  exact ⟨_,st,fun v z=>by
   have z':Data.fields _=Data.cell v:=z
   cases z'⟩
 keep:=fun i h h' st k=>k it (by simp) _ st
 item:=by
  intro X hP hw hK hc i pins s σ H E I hf st hg
  subst hP hw hK
  obtain ⟨f0,f1,f2,f3,f4,f5⟩:=hf it (by simp)
  have W:=Walks.range (prog:=X.prog) (w:=X.w) (I.ok.hd hc) it lo 1 n
  refine W.item i s _ _ hg st fun v h' tk hv st' kk=>?_
  obtain ⟨t,rfl⟩:=hv
  have I1:Inv X pins σ H { s with heap:=h',toks:=tk }:=I.turned (fun b o hb e=>kk b o (by simpa using hb) e) f0 f1 f3 f4 f5
  refine ⟨_,rfl,go_of (s:={ s with heap:=h',toks:=tk }) (n:="range_iterator") st' rfl rfl (by decide) ⟨.int (lo+i),H,I1,⟨t,?_⟩,⟨rfl,rfl⟩,st',fun b hb=>(hf b hb).1⟩⟩
  rw [Int.mul_one]
 done:=by
  intro X hP hw hK hc i pins s σ H E I hf st hg
  subst hP hw hK
  obtain ⟨f0,f1,f2,f3,f4,f5⟩:=hf it (by simp)
  exact wpAny_pyNext_range_end (I.ok.hd hc) st (by have:n≤i:=hg;omega) fun h' eb=>⟨rfl,I.turned (t':=s.toks) (fun b o hb e=>eb b o hb e) f0 f1 f3 f4 f5⟩
 self:=fun _ _ _ _ _ st h=>wpAny_pyIter_rangeiter st h
end L2
namespace L2
open PySem PySem.Spec PyProof.Rows
section
variable {X:Cx} {tg:Expr}
theorem qHA {pins:List (Addr × Obj)} {σ:St} {H:Hp} {s:Shared} {R:It→Hp→Prop} {E:Value→Shared→Prop} {lo hi:Int} {t u v:Tok} {tk:Nat} (I:Inv X pins σ H s) (h1:-(2 ^ 62)≤lo) (h2:lo<2 ^ 62) (h3:-(2 ^ 62)≤hi) (h4:hi<2 ^ 62)
    (q:R (Itr lo (hi-lo).toNat) H):wpAny (model X.prog X.w) X.A (pyIter (.ref s.heap.objs.size)) (PIE X pins σ tg R) E { s with heap:=s.heap.push { cls:=.type "range",data:=.fields #[.int lo t,.int hi u,.int 1 v] },toks:=tk }:=by
  refine wpAny_pyIter_range (IsRange.new ..) (small_one h1 h2 h3 h4) ?_
  have I1:Inv X pins σ H { s with heap:=s.heap.push { cls:=.type "range",data:=.fields #[.int lo t,.int hi u,.int 1 v] },toks:=tk }:=I.kept fun b o e=>Heap.get?_push_of_some _ e
  refine ⟨(s.heap.push { cls:=.type "range",data:=.fields #[.int lo t,.int hi u,.int 1 v] }).objs.size,[(s.heap.push { cls:=.type "range",data:=.fields #[.int lo t,.int hi u,.int 1 v] }).objs.size],_,_,H,rfl,
    I1.kept (t':=tk) fun b o e=>Heap.get?_push_of_some _ e,qHY _ lo (hi-lo).toNat,?_,fun b hb=>?_,q⟩
  · have e1:lo+((0:Nat):Int)*1=lo:=by simp
    have e2:(((hi-lo).toNat:Nat):Int)-((0:Nat):Int)=Builtin.Range.rangeSize lo hi 1:=by rw [rangeSize_one];split <;> omega
    show IsRangeIter _ _ (lo+((0:Nat):Int)*1) ((((hi-lo).toNat:Nat):Int)-((0:Nat):Int)) 1
    rw [e1,e2]
    exact Heap.get?_push_size _ rfl
  · have e:b=(s.heap.push { cls:=.type "range",data:=.fields #[.int lo t,.int hi u,.int 1 v] }).objs.size:=by simpa using hb
    subst e
    exact I1.fpOk (Nat.le_refl _) (I1.hok.fresh (Nat.le_refl _))
noncomputable def iRng1 (ta:TA):TI:=fun σ H R=>ta σ H fun vs H1=>∃ j:Int,vs=[.int j]∧-(2 ^ 62)≤j∧j<2 ^ 62∧R (Itr 0 j.toNat) H1
noncomputable def iRng2 (ta:TA):TI:=fun σ H R=>ta σ H fun vs H1=>∃ i j:Int,vs=[.int i,.int j]∧(-(2 ^ 62)≤i∧i<2 ^ 62∧-(2 ^ 62)≤j∧j<2 ^ 62)∧R (Itr i (j-i).toNat) H1
theorem pi_range1 {a:Expr} {ta:TA} {p pos:Pos} (hg:Gl X "range") (hm:X.mg "range"=none) (ha:PA X [a] ta) (hs:starEach [a] X.env=[(false,eval a X.env)]:=by rfl):PI X tg (.Call (.Name "range" p) [a] [] pos) (iRng1 ta):=by
 intro pins s σ H R I h
 refine Call_ (ld_blt I hg hm boot_range (PyProof.Rows.callWith_type1 (thn (ha pos pins s σ H _ I h) fun us s1 ⟨vs,H1,I1,r1,q1⟩=>?_) hs rfl))
 obtain ⟨j,e,q1,q2,q⟩:=q1
 subst e
 cases r1 with
 | cons r rr =>
  cases rr
  obtain ⟨t,rfl⟩:=r
  exact call_range_1 (qHA I1 (by omega) (by omega) q1 q2 (by simpa using q))
theorem pi_range2 {a b:Expr} {ta:TA} {p pos:Pos} (hg:Gl X "range") (hm:X.mg "range"=none) (ha:PA X [a,b] ta) (hs:starEach [a,b] X.env=[(false,eval a X.env),(false,eval b X.env)]:=by rfl) (hs2:starEach [b] X.env=[(false,eval b X.env)]:=by rfl) :
    PI X tg (.Call (.Name "range" p) [a,b] [] pos) (iRng2 ta):=by
  intro pins s σ H R I h
  refine Call_ (ld_blt I hg hm boot_range (PyProof.Rows.callWith_type1 (thn (ha pos pins s σ H _ I h) fun us s1 ⟨vs,H1,I1,r1,q1⟩=>?_) (by rw [hs,hs2]) (by rw [hs2];rfl)))
  obtain ⟨i,j,e,⟨q1,q2,q3,q4⟩,q⟩:=q1
  subst e
  cases r1 with
  | cons r rr =>
    cases rr with
    | cons r' rr =>
      cases rr
      obtain ⟨t,rfl⟩:=r
      obtain ⟨t',rfl⟩:=r'
      exact call_range_2 (qHA I1 q1 q2 q3 q4 q)
noncomputable def tFor (wi:TI) (g:TG) (tb:TS):TS:=fun D σ H=>wi σ H fun J H1=>∃ W:Nat→Nat→St→Hp→Prop,(∃ m,W 0 m σ H1)∧∀ i m σ H,W i m σ H →
 (J.stop i H∧D.nx σ H)∨(J.go i H∧∃ N:St→Hp→Prop,(∀ σ' H',N σ' H'→∃ m',m'<m∧W (i+1) m' σ' H')∧∀ x H',J.yld i H x H'→g x σ H' fun σ2 H2=>tb { D with nx:=N,ct:=N,bk:=D.nx } σ2 H2)
noncomputable def pinsAt (fp:List Addr) (h:Heap):List (Addr × Obj):=fp.filterMap fun b=>(h.get? b).map fun o=>(b,o)
theorem mem_pinsAt {fp:List Addr} {h:Heap} {b:Addr} {o:Obj} (hb:b∈fp) (e:h.get? b=some o):(b,o)∈pinsAt fp h:=List.mem_filterMap.mpr ⟨b,hb,by rw [e];rfl⟩
theorem qIi {fp:List Addr} {h:Heap} {p:Addr × Obj} (hp:p∈pinsAt fp h):p.1∈fp∧h.get? p.1=some p.2:=by
 obtain ⟨b,hb,e⟩:=List.mem_filterMap.mp hp
 cases q:h.get? b with
 | none=>rw [q] at e;cases e
 | some o =>
  rw [q] at e
  have e':(b,o)=p:=Option.some.inj e
  subst e'
  exact ⟨hb,q⟩
theorem Inv.pinned {pins:List (Addr × Obj)} {σ:St} {H:Hp} {s:Shared} {fp:List Addr} (I:Inv X pins σ H s) (hf:∀ b∈fp,FpOk X pins H b) (ho:∀ b∈fp,∃ o,s.heap.get? b=some o∧∀ v,o.data≠.cell v):Inv X (pins++pinsAt fp s.heap) σ H s :=
 I.pins_of fun p hp=>(List.mem_append.mp hp).elim (fun z=>I.pin p (List.mem_append_right _ z)) fun z=>by
  obtain ⟨hb,e⟩:=qIi z
  obtain ⟨f0,f1,f2,_⟩:=hf p.1 hb
  obtain ⟨o,e',d⟩:=ho p.1 hb
  rw [e] at e';cases e'
  exact ⟨e,f0,f1,f2,d⟩
theorem Inv.unpinned {pins pl:List (Addr × Obj)} {σ:St} {H:Hp} {s:Shared} (I:Inv X (pins++pl) σ H s):Inv X pins σ H s:=I.pins_of fun p hp=>I.pin p (List.mem_append_right _ (List.mem_append_left _ hp))
theorem ps_for {iter:Expr} {body:List Stmt} {wi:TI} {g:TG} {tb:TS} {pos:Pos} (hp:PassesOwn (model X.prog X.w) X.A X.env X.xe) (hc:X.calm=true) (hi:PI X tg iter wi) (hg:PG X tg g) (hb:PSs X body tb)
    (hs:∀ x,foldedSetIterable iter X.env x=pure x:=by intro _;rfl):PS X (.For tg iter body [] pos) (tFor wi g tb):=by
  intro pins s σ H D I h
  refine wpAny_For (thn (hi pins s σ H _ I h) fun v s1 h1=>thn h1 fun itv s2 h2=>?_) hs
  obtain ⟨it,fp,tn,J,H2,e,I2,T,st2,f2,W,⟨m0,w0⟩,turn⟩:=h2
  subst e
  have stat:∀ {H':Hp},(∀ b∈fp,H' b=none)→∀ b∈fp,FpOk X pins H' b:=fun hn b hb=>⟨hn b hb,(f2 b hb).2⟩
  refine codeAny_forLoop_any (fun n s'=>∃ i σ' H',Inv X pins σ' H' s'∧tn i s'.heap∧(∀ b∈fp,H' b=none)∧W i n σ' H') ?_ m0 ⟨0,σ,H2,I2,st2,fun b hb=>(f2 b hb).1,w0⟩
  rintro n s3 ⟨i,σ3,H3,I3,st3,fr3,w3⟩
  rcases turn i n σ3 H3 w3 with ⟨stop,qn⟩ | ⟨go,N,hN,step⟩
  · refine wpAny_passesOwn hp (thn (T.done X rfl rfl rfl hc i pins s3 σ3 H3 X.xe I3 (stat fr3) st3 stop) fun r s4 ⟨hr,I4⟩=>?_)
    subst hr
    exact wpAny_execs_nil ⟨σ3,H3,I4,qn⟩
  · refine wpAny_passesOwn hp (thn (T.item X rfl rfl rfl hc i pins s3 σ3 H3 X.xe I3 (stat fr3) st3 go) fun r s4 ⟨u,hr,h4⟩=>?_)
    subst hr
    refine wpAny_passesOwn hp (thn h4 fun _ s5 ⟨x,H5,I5,r5,y5,st5,fr5⟩=>?_)
    have I5':=I5.pinned (stat fr5) (T.obj _ _ st5)
    refine wpAny_passesOwn hp (thn (hg _ s5 σ3 H5 x u _ I5' r5 (step x H5 y5)) fun _ s6 ⟨σ6,H6,I6,q6⟩=>?_)
    refine wpAny_passesOwn hp (thn (hb _ s6 σ6 H6 _ I6 q6) fun f s7 q7=>?_)
    have again:∀ {σ7:St} {H7:Hp},Inv X (pins++pinsAt fp s5.heap) σ7 H7 s7→N σ7 H7→∃ m,m<n∧∃ i σ' H',Inv X pins σ' H' s7∧tn i s7.heap∧(∀ b∈fp,H' b=none)∧W i m σ' H':=fun {σ7 H7} I7 n7=>by
      obtain ⟨m',hm,w7⟩:=hN σ7 H7 n7
      refine ⟨m',hm,i+1,σ7,H7,I7.unpinned,T.keep _ _ _ st5 fun b hb o e=>(I7.pin (b,o) (List.mem_append_right _ (List.mem_append_right _ (mem_pinsAt hb e)))).1,fun b hb=>?_,w7⟩
      obtain ⟨o,e,d⟩:=T.obj _ _ st5 b hb
      exact (I7.pin (b,o) (List.mem_append_right _ (List.mem_append_right _ (mem_pinsAt hb e)))).2.1
    cases f with
    | next=>obtain ⟨σ7,H7,I7,n7⟩:=q7;exact again I7 n7
    | cont=>obtain ⟨σ7,H7,I7,n7⟩:=q7;exact again I7 n7
    | brk=>obtain ⟨σ7,H7,I7,q7⟩:=q7;exact ⟨σ7,H7,I7.unpinned,q7⟩
    | ret v=>obtain ⟨x7,σ7,H7,I7,r7,q7⟩:=q7;exact ⟨x7,σ7,H7,I7.unpinned,r7,q7⟩
end
end L2
namespace L2
open PySem PySem.Spec PyProof.Rows
noncomputable abbrev R2:=V→V→Hp→VK→Prop
noncomputable def OpR (X:Cx) (f:Value→Value→Sem Value) (r:R2):Prop :=
 ∀ (pins:List (Addr × Obj)) (s:Shared) (σ:St) (H:Hp) (x y:V) (v u:Value) (Q:VK),Inv X pins σ H s→RelV x v→RelV y u→r x y H Q →
  wpAny (model X.prog X.w) X.A (f v u) (EP X pins σ Q) X.xe s
noncomputable def UnR (X:Cx) (f:Value→Sem Value) (r:V→Hp→VK→Prop):Prop :=
 ∀ (pins:List (Addr × Obj)) (s:Shared) (σ:St) (H:Hp) (x:V) (v:Value) (Q:VK),Inv X pins σ H s→RelV x v→r x H Q →
  wpAny (model X.prog X.w) X.A (f v) (EP X pins σ Q) X.xe s
noncomputable def CallR (X:Cx) (f:Value) (r:List V→Hp→VK→Prop):Prop :=
 ∀ (pins:List (Addr × Obj)) (s:Shared) (σ:St) (H:Hp) (xs:List V) (us:List Value) (Q:VK),Inv X pins σ H s→Vals xs us→r xs H Q →
  wpAny (model X.prog X.w) X.A (call f us) (EP X pins σ Q) X.xe s
noncomputable def TruR (X:Cx) (r:V→Hp→(Bool→Hp→Prop)→Prop):Prop :=
 ∀ (pins:List (Addr × Obj)) (s:Shared) (σ:St) (H:Hp) (x:V) (v:Value) (Q:Bool→Hp→Prop),Inv X pins σ H s→RelV x v→r x H Q →
  wpAny (model X.prog X.w) X.A (truthy v) (TP X pins σ Q) X.xe s
noncomputable def tOp (r:R2) (ta tb:TE):TE:=fun σ H Q=>ta σ H fun x H1=>tb σ H1 fun y H2=>r x y H2 Q
noncomputable def tUn (r:V→Hp→VK→Prop) (ta:TE):TE:=fun σ H Q=>ta σ H fun x H1=>r x H1 Q
noncomputable def rI (C:Int→Int→Prop) (g:Int→Int→V):R2:=fun x y H Q=>∃ i j,x=.int i∧y=.int j∧C i j∧Q (g i j) H
noncomputable def rI0 (g:Int→Int→V):R2:=fun x y H Q=>∃ i j,x=.int i∧y=.int j∧Q (g i j) H
noncomputable def rU (g:Int→V):V→Hp→VK→Prop:=fun x H Q=>∃ i,x=.int i∧Q (g i) H
section
variable {X:Cx} {a b c:Expr} {ta tb tc:TE} {pos:Pos}
theorem binT (ha:PE X a ta) (hb:PE X b tb) {pins:List (Addr × Obj)} {s:Shared} {σ:St} {H:Hp} {R:V→V→Hp→Prop} (I:Inv X pins σ H s)
    (h:ta σ H fun x H1=>tb σ H1 fun y H2=>R x y H2) {Q:Value→Shared→Prop} {f:Value→Value→Sem Value}
    (hf:∀ v u s2 x y H2,Inv X pins σ H2 s2→RelV x v→RelV y u→R x y H2→wpAny (model X.prog X.w) X.A (f v u) Q X.xe s2) :
    wpAny (model X.prog X.w) X.A (eval a X.env) (fun v s₁=>wpAny (model X.prog X.w) X.A (eval b X.env) (fun u s₂=>wpAny (model X.prog X.w) X.A (f v u) Q X.xe s₂) X.xe s₁) X.xe s:=by
  refine thn (ha pins s σ H _ I h) fun v s1 ⟨x,H1,I1,r1,q1⟩=>?_
  refine thn (hb pins s1 σ H1 _ I1 q1) fun u s2 ⟨y,H2,I2,r2,q2⟩=>?_
  exact hf v u s2 x y H2 I2 r1 r2 q2
theorem pe_op {op:Operator} {r:R2} (ho:OpR X (binaryOp op) r) (ha:PE X a ta) (hb:PE X b tb):PE X (.BinOp a op b pos) (tOp r ta tb):=by
 intro pins s σ H Q I h
 exact wpAny_BinOp (binT ha hb I h fun v u s2 x y H2 I2 rx ry q=>ho pins s2 σ H2 x y v u Q I2 rx ry q)
theorem pe_un {op:UnaryOp} {r:V→Hp→VK→Prop} (ho:UnR X (unaryOp op) r) (ha:PE X a ta):PE X (.UnaryOp op a pos) (tUn r ta):=by
 intro pins s σ H Q I h
 exact UnaryOp_ (thn (ha pins s σ H _ I h) fun v s1 ⟨x,H1,I1,r1,q1⟩=>ho pins s1 σ H1 x v Q I1 r1 q1)
theorem opI {f:Value→Value→Sem Value} {C:Int→Int→Prop} {g:Int→Int→Int}
    (rule:∀ (i j:Int) (t u:Tok) (s:Shared) (Q:Value→Shared→Prop) (E:Value→Shared→Prop),C i j→Q (.int (g i j) s.toks) { s with toks:=s.toks+1 }→wpAny (model X.prog X.w) X.A (f (.int i t) (.int j u)) Q E s) :
    OpR X f (rI C fun i j=>.int (g i j)):=by
  intro pins s σ H x y v u Q I rx ry h
  obtain ⟨i,j,rfl,rfl,hc,q⟩:=h
  obtain ⟨t,rfl⟩:=rx
  obtain ⟨t',rfl⟩:=ry
  exact rule i j t t' s _ _ hc ⟨.int (g i j),H,I.tok _,⟨_,rfl⟩,q⟩
theorem opI0 {f:Value→Value→Sem Value} {g:Int→Int→Int}
    (rule:∀ (i j:Int) (t u:Tok) (s:Shared) (Q:Value→Shared→Prop) (E:Value→Shared→Prop),Q (.int (g i j) s.toks) { s with toks:=s.toks+1 }→wpAny (model X.prog X.w) X.A (f (.int i t) (.int j u)) Q E s) :
    OpR X f (rI0 fun i j=>.int (g i j)):=by
  intro pins s σ H x y v u Q I rx ry h
  obtain ⟨i,j,rfl,rfl,q⟩:=h
  obtain ⟨t,rfl⟩:=rx
  obtain ⟨t',rfl⟩:=ry
  exact rule i j t t' s _ _ ⟨.int (g i j),H,I.tok _,⟨_,rfl⟩,q⟩
theorem opB0 {f:Value→Value→Sem Value} {g:Int→Int→Bool}
    (rule:∀ (i j:Int) (t u:Tok) (s:Shared) (Q:Value→Shared→Prop) (E:Value→Shared→Prop),Q (.bool (g i j)) s→wpAny (model X.prog X.w) X.A (f (.int i t) (.int j u)) Q E s) :
    OpR X f (rI0 fun i j=>.bl (g i j)):=by
  intro pins s σ H x y v u Q I rx ry h
  obtain ⟨i,j,rfl,rfl,q⟩:=h
  obtain ⟨t,rfl⟩:=rx
  obtain ⟨t',rfl⟩:=ry
  exact rule i j t t' s _ _ ⟨.bl (g i j),H,I,rfl,q⟩
noncomputable def CDiv (i j:Int):Prop:=0<j∧j<1073741824
noncomputable def CPow (i j:Int):Prop:=0≤j∧j≤1000000∧i.natAbs<2 ^ 64
noncomputable def CMul (i j:Int):Prop:=(-(2 ^ 64)<i∧i<2 ^ 64)∨(-(2 ^ 64)<j∧j<2 ^ 64)
theorem CMul.ok {i j:Int} (h:CMul i j):IntMulOk i j:=by
 rcases h with ⟨h1,h2⟩ | ⟨h1,h2⟩
 ·exact .of_left (intBits_le_64 h1 h2)
 ·exact .of_right (intBits_le_64 h1 h2)
theorem op_add:OpR X (binaryOp .Add) (rI0 fun i j=>.int (i+j)):=opI0 fun _ _ _ _ _ _ _ q=>add_int q
theorem op_sub:OpR X (binaryOp .Sub) (rI0 fun i j=>.int (i-j)):=opI0 fun _ _ _ _ _ _ _ q=>sub_int q
theorem op_mul:OpR X (binaryOp .Mult) (rI CMul fun i j=>.int (i*j)):=opI fun _ _ _ _ _ _ _ hc q=>mul_int q hc.ok
theorem op_fdiv:OpR X (binaryOp .FloorDiv) (rI CDiv fun i j=>.int (i / j)):=opI fun i j _ _ _ _ _ hc q=>by
 have h1:(0:Int)<j:=hc.1
 have h2:j<1073741824:=hc.2
 exact floordiv_int (by omega) (by rw [Int.fdiv_eq_ediv_of_nonneg i (by omega)];exact q) (.inl (PyProof.noPylong_small (by omega)))
theorem op_mod:OpR X (binaryOp .Mod) (rI (fun _ j=>0<j) fun i j=>.int (i % j)):=opI fun i j _ _ _ _ _ hc q=>by
 have h1:(0:Int)<j:=hc
 exact mod_int' (by omega) (by rw [Int.fmod_eq_emod_of_nonneg i (by omega)];exact q)
theorem op_pow:OpR X (binaryOp .Pow) (rI CPow fun i j=>.int (i ^ j.toNat)):=opI fun _ _ _ _ _ _ _ hc q=>pow_int_small hc.1 hc.2.1 hc.2.2 q
theorem unI {f:Value→Sem Value} {g:Int→Int}
    (rule:∀ (i:Int) (t:Tok) (s:Shared) (Q:Value→Shared→Prop) (E:Value→Shared→Prop),Q (.int (g i) s.toks) { s with toks:=s.toks+1 }→wpAny (model X.prog X.w) X.A (f (.int i t)) Q E s) :
    UnR X f (rU fun i=>.int (g i)):=by
  intro pins s σ H x v Q I rx h
  obtain ⟨i,rfl,q⟩:=h
  obtain ⟨t,rfl⟩:=rx
  exact rule i t s _ _ ⟨.int (g i),H,I.tok _,⟨_,rfl⟩,q⟩
theorem un_neg:UnR X (unaryOp .USub) (rU fun i=>.int (-i)):=unI fun _ _ _ _ _ q=>neg_int q
end
section
variable {X:Cx} {a b c:Expr} {ta tb tc:TE} {pos:Pos}
theorem op_lt:OpR X (compareOp .Lt) (rI0 fun i j=>.bl (decide (i<j))):=opB0 fun _ _ _ _ _ _ _ q=>lt_int q
theorem op_le:OpR X (compareOp .LtE) (rI0 fun i j=>.bl (decide (i≤j))):=opB0 fun _ _ _ _ _ _ _ q=>le_int q
theorem op_gt:OpR X (compareOp .Gt) (rI0 fun i j=>.bl (decide (j<i))):=opB0 fun _ _ _ _ _ _ _ q=>gt_int q
theorem op_ge:OpR X (compareOp .GtE) (rI0 fun i j=>.bl (decide (j≤i))):=opB0 fun _ _ _ _ _ _ _ q=>ge_int q
theorem OpR.or {f:Value→Value→Sem Value} {r r':R2} (h:OpR X f r) (h':OpR X f r'):OpR X f (fun x y H Q=>r x y H Q∨r' x y H Q):=by
 intro pins s σ H x y v u Q I rx ry q
 rcases q with q | q
 ·exact h pins s σ H x y v u Q I rx ry q
 ·exact h' pins s σ H x y v u Q I rx ry q
theorem qPP (b:Expr) {op:CmpOp} (h:op≠.In:=by decide) (h2:op≠.NotIn:=by decide):behindInMarks op b=false:=by
 have e1:(op == CmpOp.In)=false:=by cases op <;> first | rfl | exact absurd rfl h
 have e2:(op == CmpOp.NotIn)=false:=by cases op <;> first | rfl | exact absurd rfl h2
 cases b <;> simp [behindInMarks,e1,e2]
theorem pe_cmpR {op:CmpOp} {r:R2} (ho:OpR X (compareOp op) r) (ha:PE X a ta) (hb:PE X b tb) (hm:behindInMarks op b=false):PE X (.Compare a [op] [b] pos) (tOp r ta tb):=by
 intro pins s σ H Q I h
 exact wpAny_Compare1 (binT ha hb I h fun v u s2 x y H2 I2 rx ry q=>ho pins s2 σ H2 x y v u Q I2 rx ry q) hm
noncomputable def tTest (t:TE):TT:=fun σ H Q=>t σ H fun x H'=>∃ k,x=.bl k∧Q k H'
theorem pt_cmpR {op:CmpOp} {r:R2} (ho:OpR X (compareOp op) r) (ha:PE X a ta) (hb:PE X b tb) (hm:behindInMarks op b=false):PT X (.Compare a [op] [b] pos) (tTest (tOp r ta tb)):=by
 intro pins s σ H Q I h
 refine wpAny_isTrue_Compare1 (thn (ha pins s σ H _ I h) fun v s1 ⟨x,H1,I1,r1,q1⟩=>thn (hb pins s1 σ H1 _ I1 q1) fun u s2 ⟨y,H2,I2,r2,q2⟩ =>
  thn (ho pins s2 σ H2 x y v u _ I2 r1 r2 q2) fun c s3 ⟨z,H3,I3,r3,k,e,q3⟩=>?_) hm
 subst e
 cases r3
 exact wpAny_truthy_bool ⟨H3,I3,q3⟩
noncomputable def tChain (r r':R2) (ta tb tc:TE):TE:=fun σ H Q=>ta σ H fun x H1=>tb σ H1 fun y H2=>r x y H2 fun z H3=>∃ k,z=.bl k ∧
 (if k=true then tc σ H3 fun w' H4=>r' y w' H4 Q else Q (.bl false) H3)
theorem pe_chain {op op':CmpOp} {r r':R2} (ho:OpR X (compareOp op) r) (ho':OpR X (compareOp op') r') (ha:PE X a ta) (hb:PE X b tb) (hc:PE X c tc)
    (hm:lastMarks [op,op'] [b,c]=false:=by with_unfolding_all rfl):PE X (.Compare a [op,op'] [b,c] pos) (tChain r r' ta tb tc):=by
  intro pins s σ H Q I h
  refine Compare_chain (thn (ha pins s σ H _ I h) fun v s1 ⟨x,H1,I1,r1,q1⟩=>chain_link (thn (hb pins s1 σ H1 _ I1 q1) fun u s2 ⟨y,H2,I2,r2,q2⟩ =>
    thn (ho pins s2 σ H2 x y v u _ I2 r1 r2 q2) fun d s3 ⟨z,H3,I3,r3,k,e,q3⟩=>?_)) hm
  subst e
  cases r3
  refine wpAny_truthy_bool ?_
  cases k with
  | false=>exact ite_ff ⟨.bl false,H3,I3,rfl,q3⟩
  | true=>exact ite_tt (chain_last (thn (hc pins s3 σ H3 _ I3 q3) fun w' s4 ⟨z',H4,I4,r4,q4⟩=>ho' pins s4 σ H4 y z' u w' Q I4 r2 r4 q4))
theorem pt_chain {op op':CmpOp} {r r':R2} (ho:OpR X (compareOp op) r) (ho':OpR X (compareOp op') r') (ha:PE X a ta) (hb:PE X b tb) (hc:PE X c tc)
    (hm:lastMarks [op,op'] [b,c]=false:=by with_unfolding_all rfl):PT X (.Compare a [op,op'] [b,c] pos) (tTest (tChain r r' ta tb tc)):=by
  intro pins s σ H Q I h
  refine isTrue_chain (thn (ha pins s σ H _ I h) fun v s1 ⟨x,H1,I1,r1,q1⟩=>test_link (thn (hb pins s1 σ H1 _ I1 q1) fun u s2 ⟨y,H2,I2,r2,q2⟩ =>
    thn (ho pins s2 σ H2 x y v u _ I2 r1 r2 q2) fun d s3 ⟨z,H3,I3,r3,k,e,q3⟩=>?_)) hm
  subst e
  cases r3
  refine wpAny_truthy_bool ?_
  cases k with
  | false =>
    obtain ⟨k',e',q'⟩:=q3
    cases e'
    exact ite_ff ⟨H3,I3,q'⟩
  | true =>
    refine ite_tt (test_last (thn (hc pins s3 σ H3 _ I3 q3) fun w' s4 ⟨z',H4,I4,r4,q4⟩=>thn (ho' pins s4 σ H4 y z' u w' _ I4 r2 r4 q4) fun d' s5 ⟨z2,H5,I5,r5,k2,e2,q5⟩=>?_))
    subst e2
    cases r5
    exact wpAny_truthy_bool ⟨H5,I5,q5⟩
noncomputable def TruV (K:PySem.W.Frag) (x:V) (H:Hp) (k:Bool):Prop :=
 match x with
 | .non=>k=false
 | .bl b=>k=b
 | .int i=>k=(i != 0)
 | .str y=>y.length≤sizeLine∧k=((y.length:Int) != 0)
 | .byt y=>y.size≤sizeLine∧k=((y.size:Int) != 0)
 | .ref p=>(∃ xs,SqL K H p xs∧k=!xs.isEmpty)∨(∃ xs,SqT K H p xs∧k=!xs.isEmpty)∨∃ kvs,H p=some (.dK kvs)∧k=!kvs.isEmpty
 | _=>False
theorem qHt {κ:Type} {kvs:List (κ × V)} {vs:List (κ × Value)} (r:KV kvs vs):(!vs.isEmpty)=!kvs.isEmpty:=by
 cases r <;> rfl
theorem qEc {xs:List V} {its:List Value} (r:Vals xs its):(!its.toArray.isEmpty)=!xs.isEmpty:=by
 cases r <;> simp
theorem qEb:(sizeLine:Nat)<2 ^ 63:=by rw [sizeLine_eq];decide
theorem tru_ok:TruR X (fun x H Q=>∃ k,TruV X.K x H k∧Q k H):=by
 intro pins s σ H x v Q I rx h
 obtain ⟨k,e,q⟩:=h
 have hl:=qEb
 have hs:sizeLine=16777216:=sizeLine_eq
 cases x with
 | non =>
  cases rx
  have e':k=false:=e
  subst e'
  exact truthy_none ⟨H,I,q⟩
 | bl b =>
  cases rx
  have e':k=b:=e
  subst e'
  exact wpAny_truthy_bool ⟨H,I,q⟩
 | int i =>
  obtain ⟨t,rfl⟩:=rx
  have e':k=(i != 0):=e
  subst e'
  exact PySem.P.truthy_int ⟨H,I,q⟩
 | str y =>
  obtain ⟨t,rfl⟩:=rx
  obtain ⟨hy,e'⟩:y.length≤sizeLine∧k=((y.length:Int) != 0):=e
  subst e'
  exact PySem.P.truthy_str (by omega) ⟨H,I.tok _,q⟩
 | byt y =>
  obtain ⟨t,rfl⟩:=rx
  obtain ⟨hy,e'⟩:y.size≤sizeLine∧k=((y.size:Int) != 0):=e
  subst e'
  exact PySem.W.truthy_bytes (by omega) ⟨H,I.tok _,q⟩
 | ref p =>
  cases rx
  have e':(∃ xs,SqL X.K H p xs∧k=!xs.isEmpty)∨(∃ xs,SqT X.K H p xs∧k=!xs.isEmpty)∨∃ kvs,H p=some (.dK kvs)∧k=!kvs.isEmpty:=e
  rcases e' with ⟨xs,hx,e'⟩ | ⟨xs,hx,e'⟩ | ⟨kvs,hx,e'⟩
  ·subst e'
   obtain ⟨its,r,pl,hz⟩:=I.list hx
   have hlen:=r.length
   exact wpAny_truthy_list pl.isList (by simp only [List.size_toArray];omega) ⟨H,I.tok _,by rw [qEc r];exact q⟩
  ·subst e'
   obtain ⟨its,r,pl,hz⟩:=I.tuple hx
   have hlen:=r.length
   exact truthy_tuple pl (by simp only [List.size_toArray];omega) ⟨H,I.tok _,by rw [qEc r];exact q⟩
  ·subst e'
   obtain ⟨hz,hS,vs,r,m⟩:kvs.length≤sizeLine∧(p == sysModules)=false∧∃ vs,KV kvs vs∧s.heap.DictOf (qBV X.prog X.w) p vs:=I.hok p _ hx
   have hlen:kvs.length=vs.length:=Paired.length r
   exact wpAny_truthy_dict hS m (by omega) ⟨H,I.tok _,by rw [qHt r];exact q⟩
 | _=>exact (show False from e).elim
theorem pt_truth (ha:PE X a ta) (he:∀ whole,isTrue a X.env whole=(do let v ← whole;standAt a.pos;holding [v] (truthy v))) :
    PT X a (fun σ H Q=>ta σ H fun x H'=>∃ k,TruV X.K x H' k∧Q k H'):=by
  intro pins s σ H Q I h
  exact isTrue_plain (thn (ha pins s σ H _ I h) fun v s1 ⟨x,H1,I1,r1,q1⟩=>tru_ok pins s1 σ H1 x v Q I1 r1 q1) (he _)
theorem op_add_str:OpR X (binaryOp .Add) (fun x y H Q=>∃ i j,x=.str i∧y=.str j∧i.length+j.length≤sizeLine∧Q (.str (i++j)) H):=by
 intro pins s σ H x y v u Q I rx ry h
 obtain ⟨i,j,rfl,rfl,hz,q⟩:=h
 obtain ⟨t,rfl⟩:=rx
 obtain ⟨t',rfl⟩:=ry
 exact add_str (fun t' tk=>⟨.str (i++j),H,I.tok _,⟨_,rfl⟩,q⟩) hz
theorem vals1 {x:V} {us:List Value} (r:Vals [x] us):∃ u,us=[u]∧RelV x u:=by
 cases r with
 | cons r1 r2=>cases r2;exact ⟨_,rfl,r1⟩
theorem vals2 {x y:V} {us:List Value} (r:Vals [x,y] us):∃ u w',us=[u,w']∧RelV x u∧RelV y w':=by
 cases r with
 | cons r1 r2 =>
  cases r2 with
  | cons r3 r4=>cases r4;exact ⟨_,_,rfl,r1,r3⟩
theorem call_max2 (hc:X.calm=true):CallR X (.builtin "max") (fun xs H Q=>∃ i j,xs=[.int i,.int j]∧Q (.int (if j > i then j else i)) H):=by
 intro pins s σ H xs us Q I r h
 obtain ⟨i,j,rfl,q⟩:=h
 obtain ⟨u,w',rfl,⟨t,rfl⟩,⟨t',rfl⟩⟩:=vals2 r
 refine max_two_ints (I.ok.hd hc) fun h' tk k=>⟨_,H,I.kept k,?_,q⟩
 by_cases hj:j > i
 ·rw [if_pos hj,if_pos hj];exact ⟨_,rfl⟩
 ·rw [if_neg hj,if_neg hj];exact ⟨_,rfl⟩
theorem call_min2 (hc:X.calm=true):CallR X (.builtin "min") (fun xs H Q=>∃ i j,xs=[.int i,.int j]∧Q (.int (if j<i then j else i)) H):=by
 intro pins s σ H xs us Q I r h
 obtain ⟨i,j,rfl,q⟩:=h
 obtain ⟨u,w',rfl,⟨t,rfl⟩,⟨t',rfl⟩⟩:=vals2 r
 refine min_two_ints (I.ok.hd hc) fun h' tk k=>⟨_,H,I.kept k,?_,q⟩
 by_cases hj:j<i
 ·rw [if_pos hj,if_pos hj];exact ⟨_,rfl⟩
 ·rw [if_neg hj,if_neg hj];exact ⟨_,rfl⟩
theorem call_int1:CallR X (.type "int") (fun xs H Q=>(∃ i,xs=[.int i]∧Q (.int i) H)∨∃ k,xs=[.bl k]∧Q (.int (if k then 1 else 0)) H):=by
 intro pins s σ H xs us Q I r h
 rcases h with ⟨i,rfl,q⟩ | ⟨k,rfl,q⟩
 ·obtain ⟨u,rfl,t,rfl⟩:=vals1 r
  exact call_int_int ⟨.int i,H,I,⟨_,rfl⟩,q⟩
 ·obtain ⟨u,rfl,r1⟩:=vals1 r
  cases r1
  exact call_int_bool ⟨.int (if k then 1 else 0),H,I.tok _,⟨_,rfl⟩,q⟩
theorem call_ord:CallR X (.builtin "ord") (fun xs H Q=>∃ x,xs=[.str x]∧x.length=1∧Q (.int (x.cps.getD 0 0:Nat)) H):=by
 intro pins s σ H xs us Q I r h
 obtain ⟨x,rfl,hz,q⟩:=h
 obtain ⟨u,rfl,t,rfl⟩:=vals1 r
 exact ord_of_one hz ⟨.int _,H,I.tok _,⟨_,rfl⟩,q⟩
noncomputable def LenV (K:PySem.W.Frag) (x:V) (H:Hp) (n:Nat):Prop :=
 match x with
 | .str y=>y.length≤sizeLine∧n=y.length
 | .byt y=>y.size≤sizeLine∧n=y.size
 | .ref p=>(∃ xs,SqL K H p xs∧n=xs.length)∨∃ xs,SqT K H p xs∧n=xs.length
 | _=>False
theorem call_len:CallR X (.builtin "len") (fun xs H Q=>∃ x n,xs=[x]∧LenV X.K x H n∧Q (.int n) H):=by
 intro pins s σ H xs us Q I r h
 obtain ⟨x,n,rfl,e,q⟩:=h
 obtain ⟨u,rfl,rx⟩:=vals1 r
 have hl:=qEb
 have hs:sizeLine=16777216:=sizeLine_eq
 cases x with
 | str y =>
  obtain ⟨t,rfl⟩:=rx
  obtain ⟨hy,e'⟩:y.length≤sizeLine∧n=y.length:=e
  subst e'
  exact len_str (by omega) ⟨.int _,H,I.tok _,⟨_,rfl⟩,q⟩
 | byt y =>
  obtain ⟨t,rfl⟩:=rx
  obtain ⟨hy,e'⟩:y.size≤sizeLine∧n=y.size:=e
  subst e'
  exact PySem.W.len_bytes (by omega) ⟨.int _,H,I.tok _,⟨_,rfl⟩,q⟩
 | ref p =>
  cases rx
  have e':(∃ xs,SqL X.K H p xs∧n=xs.length)∨∃ xs,SqT X.K H p xs∧n=xs.length:=e
  rcases e' with ⟨xs,hx,e'⟩ | ⟨xs,hx,e'⟩
  ·subst e'
   obtain ⟨its,r',pl,hz⟩:=I.list hx
   have hlen:=r'.length
   exact Calls.call_len_list pl.isList (by simp only [List.size_toArray];omega) ⟨.int xs.length,H,I.tok _,⟨_,by simp only [List.size_toArray];rw [hlen]⟩,q⟩
  ·subst e'
   obtain ⟨its,r',pl,hz⟩:=I.tuple hx
   have hlen:=r'.length
   exact len_tuple pl (by simp only [List.size_toArray];omega) ⟨.int xs.length,H,I.tok _,⟨_,by simp only [List.size_toArray];rw [hlen]⟩,q⟩
 | _=>exact (show False from e).elim
end
end L2
namespace L2
open PySem PySem.Spec PyProof.Rows
structure ObjM (h:Heap) (x dx C:Addr) (mA:Str→Option Value):Prop where
 obj:h.get? x=some (PySem.W.instObj C dx)
 ns:h.Ns1 dx mA
 ne:dx≠x
theorem qI5 {h:Heap} {dx:Addr} {mA:Str→Option Value} (n:h.Ns1 dx mA):∃ od,h.get? dx=some od∧∀ name,PySem.W.lookIn name od=some (mA name):=by
 obtain ⟨o,es,ep,ho,hd,hk,_,hm⟩:=n
 refine ⟨o,ho,fun name=>?_⟩
 have e:=hm name
 unfold nsFind findBy at e
 rw [← Array.find?_toList] at e
 unfold PySem.W.lookIn
 rw [hd]
 dsimp only
 split
 ·rename_i y q
  rw [q] at e
  exact congrArg some e
 ·rename_i q
  rw [q] at e
  have a:es.toList.any (·.refKey)=false:=by
   rw [List.any_eq_false]
   intro y hy
   obtain ⟨z,t,hkey⟩:=hk y (Array.mem_toList_iff.mp hy)
   simp [DictEntry.refKey,hkey]
  have a':¬ es.toList.any (·.refKey)=true:=by rw [a];exact Bool.false_ne_true
  rw [if_neg a']
  exact congrArg some e
theorem ObjM.look {h:Heap} {x dx C:Addr} {mA:Str→Option Value} (I:ObjM h x dx C mA):∃ od,PySem.W.InstAt h x (PySem.W.instObj C dx) C (some od)∧∀ name,PySem.W.lookIn name od=some (mA name) :=
 let ⟨od,ho,hl⟩:=qI5 I.ns
 ⟨od,⟨I.obj,rfl,rfl,ho⟩,hl⟩
section
variable {prog:Program} {w:World} {A:Around} {E:Value→Shared→Prop} {s:Shared} {K:PySem.W.Frag} {x dx C f:Addr} {mA:Str→Option Value} {name:Str} {v:Value}
theorem qMg {expr:Bool} {Q:Value→Shared→Prop} (X:K.In s.heap) (I:ObjM s.heap x dx C mA) (hg:PySem.W.plainGet K C name=true) (hh:PySem.W.hasDictIn K C=true)
    (ha:PySem.W.findIn K (.ref C) name=some none) (hv:mA name=some v) (hv':PySem.W.handedIn v=true) (h:Q v { s with toks:=s.toks+1 }) :
    wpAny (model prog w) A (getAttr (.ref x) name expr) Q E s:=by
  obtain ⟨od,J,hl⟩:=I.look
  exact PySem.W.get_value X J (PySem.W.plainGet_of hg).1 (PySem.W.findObj_own hh ha rfl (by rw [hl,hv])) hv' h
theorem qKb {pl:Sem Bool} {Q:Value × List Value→Shared→Prop} (X:K.In s.heap) (I:ObjM s.heap x dx C mA) (hg:PySem.W.plainGet K C name=true)
    (hf:PySem.W.findIn K (.ref C) name=some (some (.ref f))) (ht:PySem.W.isFn K (.ref f)=true) (hv:mA name=none) (h:Q (.ref f,[.ref x]) s) :
    wpAny (model prog w) A (getMethod (.ref x) name pl) Q E s:=by
  obtain ⟨od,J,hl⟩:=I.look
  exact PySem.W.method_fn X J (PySem.W.plainGet_of hg).1 (PySem.W.plainGet_of hg).2 hf (beq_iff_eq.mp ht) (by show (PySem.W.lookIn name od).map (·.isSome)=some false;rw [hl,hv];rfl) h
theorem qLi {ns:List Str} {Q:Unit→Shared→Prop} (X:K.In s.heap) (I:ObjM s.heap x dx C mA)
    (hs:PySem.W.findIn K (.ref C) "__setattr__"=some (some (.builtin "object.__setattr__"))) (hp:PySem.W.plainOver K C=true) (ht:PySem.W.takerIn K C name=some none) (hh:PySem.W.hasDictIn K C=true)
    (hw:PySem.Within mA ns) (hsz:ns.length≤sizeLine)
    (h:∀ h',ObjM h' x dx C (fun y=>if y=name then some v else mA y)→Heap.SameBut dx s.heap h'→Q () { s with heap:=h',toks:=s.toks+2 }) :
    wpAny (model prog w) A (setAttr (.ref x) name v) Q E s:=by
  obtain ⟨od,J,hl⟩:=I.look
  refine PySem.W.set_plain X J hs (PySem.W.osa_open (s:={ s with toks:=s.toks+1 }) (r:=none) X J hp ht fun b=>?_)
  obtain ⟨cd,hc,hd'⟩:=PySem.W.any_some hh
  have hx:s.heap.get? x=some ⟨.ref C,some dx,.plain,#[]⟩:=I.obj
  refine wpAny_bind (wpAny_pure (wpAny_bind (wpAny_bind (wpAny_loadPart hx (wpAny_bind (PySem.W.Looks.here (s:={ s with toks:=s.toks+1 }) (PySem.W.looks_clsIn X hc) ?_))))))
  rw [hd']
  refine wpAny_pure (a:=some dx) (wpAny_bind (wpAny_pure (wpAny_bind ?_)))
  refine wpAny_nsSet1 (s:={ s with toks:=s.toks+1 }) I.ns fun h' hn2 hs2=>?_
  obtain ⟨oD,esD,epD,hoD,hdD,hcD⟩:=hn2.count (PySem.Within.cons name v hw)
  refine wpAny_bind (wpAny_lookBehind hoD (by rw [hdD];exact pastItsLine_dict (Nat.le_trans hcD (by rw [List.length_cons];omega))) ?_)
  exact wpAny_pure (h _ ⟨(hs2.2 _ (Ne.symm I.ne)).trans I.obj,hn2,I.ne⟩ hs2)
theorem make_map {R:Result→Shared→Prop} {vs:List Value} {kw:List (Str × Value)} (X:K.In s.heap) (hm:PySem.W.makesIn K C=true)
    (hi:PySem.W.findIn K (.ref C) "__init__"=some (some (.ref f))) (hf:PySem.W.typeIn K (.ref f)=some (.type "function"))
    (h:codeAny (model prog w) (A.under (.builtin "type.__call__" ⟨.ref C::vs,kw⟩)) (.call (.ref f) ⟨.ref (s.heap.objs.size+1)::vs,kw⟩) (PySem.W.InitBack (s.heap.objs.size+1) R)
      { s with heap:=(s.heap.push PySem.W.emptyDict).push (PySem.W.instObj C s.heap.objs.size) }) :
    codeAny (model prog w) A (.call (.ref C) ⟨vs,kw⟩) R s:=by
  obtain ⟨hh,g,d,t,os⟩:=s
  exact PySem.W.make_core (PySem.W.makes_of X hm) (PySem.W.looks_findIn X hi) (fun self=>PySem.W.bind_fn X self hf) (.inl rfl) h
end
noncomputable def putF (f:Str) (v:V):List (Str × V)→List (Str × V)
 | []=>[(f,v)]
 | (g,x)::r=>if g=f then (g,v)::r else (g,x)::putF f v r
theorem qDt (f g:Str) (v:V):∀ fs:List (Str × V),(putF f v fs).lookup g=if g=f then some v else fs.lookup g
 | []=>by
  show List.lookup g [(f,v)]=_
  by_cases h:g=f
  ·have hb:(g == f)=true:=beq_iff_eq.mpr h
   simp only [List.lookup,hb,if_pos h]
  ·have hb:(g == f)=false:=beq_eq_false_iff_ne.mpr h
   simp only [List.lookup,hb,if_neg h]
 | (k,x)::r=>by
  have ih:=qDt f g v r
  rw [show putF f v ((k,x)::r)=(if k=f then (k,v)::r else (k,x)::putF f v r) from rfl]
  by_cases hk:k=f
  ·rw [if_pos hk]
   by_cases h:g=k
   ·have hb:(g == k)=true:=beq_iff_eq.mpr h
    simp only [List.lookup,hb,if_pos (h.trans hk)]
   ·have hb:(g == k)=false:=beq_eq_false_iff_ne.mpr h
    simp only [List.lookup,hb,if_neg (fun e:g=f=>h (e.trans hk.symm))]
  ·rw [if_neg hk]
   by_cases h:g=k
   ·have hb:(g == k)=true:=beq_iff_eq.mpr h
    simp only [List.lookup,hb,if_neg (fun e:g=f=>hk (h.symm.trans e))]
   ·have hb:(g == k)=false:=beq_eq_false_iff_ne.mpr h
    simp only [List.lookup,hb]
    exact ih
theorem qDw (f:Str) (v:V):∀ fs:List (Str × V),f∈(putF f v fs).map (·.1)∧∀ g,g∈fs.map (·.1)→g∈(putF f v fs).map (·.1)
 | []=>⟨by simp [putF],fun g h=>by simp at h⟩
 | (k,x)::r=>by
  obtain ⟨i1,i2⟩:=qDw f v r
  rw [show putF f v ((k,x)::r)=(if k=f then (k,v)::r else (k,x)::putF f v r) from rfl]
  by_cases hk:k=f
  ·rw [if_pos hk]
   subst hk
   exact ⟨by simp,fun g h=>by simpa using h⟩
  ·rw [if_neg hk]
   refine ⟨?_,fun g h=>?_⟩
   ·rw [List.map_cons]
    exact List.mem_cons_of_mem _ i1
   ·rw [List.map_cons] at h ⊢
    rcases List.mem_cons.mp h with e | e
    ·exact List.mem_cons.mpr (.inl e)
    ·exact List.mem_cons_of_mem _ (i2 g e)
theorem qDv (f:Str) (v:V):∀ fs:List (Str × V),(putF f v fs).length≤fs.length+1
 | []=>by simp [putF]
 | (k,x)::r=>by
  have ih:=qDv f v r
  rw [show putF f v ((k,x)::r)=(if k=f then (k,v)::r else (k,x)::putF f v r) from rfl]
  by_cases hk:k=f
  ·rw [if_pos hk,List.length_cons,List.length_cons];omega
  ·rw [if_neg hk,List.length_cons,List.length_cons];omega
theorem RelO.some_of {v:V} {o:Option Value} (r:RelO (some v) o):∃ u,o=some u∧RelV v u:=by
 cases o with
 | none=>exact (show False from r).elim
 | some u=>exact ⟨u,rfl,r⟩
theorem RelO.none_of {o:Option Value} (r:RelO none o):o=none:=by
 cases o with
 | none=>rfl
 | some u=>exact (show False from r).elim
theorem qJL {v:V} {u:Value} (r:RelV v u):PySem.W.handedIn u=true:=by
 cases v with
 | non=>cases (show u=Value.none from r);rfl
 | bl b=>cases (show u=Value.bool b from r);rfl
 | int i=>obtain ⟨t,e⟩:=(show ∃ t,u=Value.int i t from r);cases e;rfl
 | str x=>obtain ⟨t,e⟩:=(show ∃ t,u=Value.str x t from r);cases e;rfl
 | byt b=>obtain ⟨t,e⟩:=(show ∃ t,u=Value.bytes b t from r);cases e;rfl
 | flt b=>obtain ⟨t,e⟩:=(show ∃ t,u=Value.float b t from r);cases e;rfl
 | ref a=>cases (show u=Value.ref a from r);rfl
 | ty n=>cases (show u=Value.type n from r);rfl
section
variable {P:Program} {w:World} {H H':Hp} {h h':Heap} {a C dx:Addr} {fs fs':List (Str × V)}
theorem qGW (hok:HOk P w H h) (e:H a=some (.ins C dx fs)):∃ mA,ObjM h a dx C mA∧(∀ f,RelO (fs.lookup f) (mA f))∧PySem.Within mA (fs.map (·.1))∧fs.length≤1000∧H dx=some (.own a):=by
 obtain ⟨d,z,ne,ob,mA,n,r,q⟩:=(show ObjOk P w H h a (.ins C dx fs) from hok a _ e)
 exact ⟨mA,⟨ob,n,ne⟩,r,q,z,d⟩
end
structure Cls (K:PySem.W.Frag) (C:Addr):Prop where
 pg:PySem.W.plainGet K C Str.empty=true
 hd:PySem.W.hasDictIn K C=true
 po:PySem.W.plainOver K C=true
 sa:PySem.W.findIn K (.ref C) "__setattr__"=some (some (.builtin "object.__setattr__"))
theorem Cls.get {K:PySem.W.Frag} {C:Addr} (c:Cls K C) (f:Str):PySem.W.plainGet K C f=true:=c.pg
noncomputable def NoAttr (K:PySem.W.Frag) (C:Addr) (f:Str):Prop:=PySem.W.findIn K (.ref C) f=some none
theorem NoAttr.taker {K:PySem.W.Frag} {C:Addr} {f:Str} (n:NoAttr K C f):PySem.W.takerIn K C f=some none:=by
 unfold PySem.W.takerIn
 rw [show PySem.W.findIn K (.ref C) f=some none from n]
 rfl
structure Meth (K:PySem.W.Frag) (C:Addr) (m:Str) (f:Addr):Prop where
 at_:PySem.W.findIn K (.ref C) m=some (some (.ref f))
 fn:PySem.W.isFn K (.ref f)=true
 kp:PySem.W.keepIn K (.ref f)=true
section
variable {X:Cx} {pins:List (Addr × Obj)} {σ:St} {H:Hp} {s:Shared} {a C dx:Addr} {fs:List (Str × V)} {f:Str} {v:V} {A:Around} {E:Value→Shared→Prop}
theorem qHx {b:Bool} {Q:Value→Shared→Prop} (I:Inv X pins σ H s) (e:H a=some (.ins C dx fs)) (c:Cls X.K C) (n:NoAttr X.K C f) (l:fs.lookup f=some v)
    (h:∀ u s',Inv X pins σ H s'→RelV v u→Q u s'):wpAny (model X.prog X.w) A (getAttr (.ref a) f b) Q E s:=by
  obtain ⟨mA,O,r,_,_,_⟩:=qGW I.hok e
  obtain ⟨u,hu,ru⟩:=RelO.some_of (v:=v) (o:=mA f) (by rw [← l];exact r f)
  exact qMg I.kIn O (c.get f) c.hd n hu (qJL ru) (h u _ (I.tok _) ru)
theorem getmeth_ok {m:Str} {g:Addr} {pl:Sem Bool} {Q:Value × List Value→Shared→Prop} (I:Inv X pins σ H s) (e:H a=some (.ins C dx fs)) (c:Cls X.K C) (k:Meth X.K C m g) (l:fs.lookup m=none)
    (h:Q (.ref g,[.ref a]) s):wpAny (model X.prog X.w) A (getMethod (.ref a) m pl) Q E s:=by
  obtain ⟨mA,O,r,_,_,_⟩:=qGW I.hok e
  have hn:mA m=none:=RelO.none_of (by rw [← l];exact r m)
  exact qKb I.kIn O (c.get m) k.at_ k.fn hn h
theorem qHb {y:V} {u:Value} {Q:Unit→Shared→Prop} (I:Inv X pins σ H s) (e:H a=some (.ins C dx fs)) (c:Cls X.K C) (n:NoAttr X.K C f) (hl:fs.length<1000) (ry:RelV y u)
    (h:∀ s',Inv X pins σ (upd H a (.ins C dx (putF f y fs))) s'→Q () s'):wpAny (model X.prog X.w) A (setAttr (.ref a) f u) Q E s:=by
  obtain ⟨mA,O,r,wi,_,ho⟩:=qGW I.hok e
  have hz:(fs.map (·.1)).length≤sizeLine:=by rw [List.length_map,sizeLine_eq];omega
  refine qLi I.kIn O c.sa c.po n.taker c.hd wi hz fun h' O' sb=>h _ ?_
  have hd:∃ o,h'.get? dx=some o:=let ⟨o,_,_,e',_⟩:=O'.ns;⟨o,e'⟩
  refine I.write (x:=a) (e:=dx) (by rw [e];exact True.intro) (.inr ho) (fun b q hb z=>(sb.2 b hb).trans z) hd ?_
  refine ⟨by rw [qAC O.ne];exact ho,?_,O.ne,O'.obj,_,O'.ns,fun g=>?_,fun g hg=>?_⟩
  · have:=qDv f y fs;omega
  · show RelO ((putF f y fs).lookup g) (if g=f then some u else mA g)
    rw [qDt]
    by_cases q:g=f
    · rw [if_pos q,if_pos q];exact ry
    · rw [if_neg q,if_neg q];exact r g
  · by_cases q:g=f
    · rw [q];exact (qDw f y fs).1
    · refine (qDw f y fs).2 g (wi g fun z=>hg ?_)
      show (if g=f then some u else mA g)=none
      rw [if_neg q];exact z
theorem Inv.made (I:Inv X pins σ H s):Inv X pins σ (upd (upd H s.heap.objs.size (.own (s.heap.objs.size+1))) (s.heap.objs.size+1) (.ins C s.heap.objs.size []))
    { s with heap:=(s.heap.push PySem.W.emptyDict).push (PySem.W.instObj C s.heap.objs.size) }:=by
  have e1:(s.heap.push PySem.W.emptyDict).get? s.heap.objs.size=some PySem.W.emptyDict:=Heap.get?_push_size s.heap rfl
  have e2:((s.heap.push PySem.W.emptyDict).push (PySem.W.instObj C s.heap.objs.size)).get? (s.heap.objs.size+1)=some (PySem.W.instObj C s.heap.objs.size):=by
    have:=Heap.get?_push_size (s.heap.push PySem.W.emptyDict) (o:=PySem.W.instObj C s.heap.objs.size) rfl
    rwa [Heap.size_push] at this
  have e3:(s.heap.push PySem.W.emptyDict).Ns s.heap.objs.size (fun _=>none):=⟨PySem.W.emptyDict,#[],_,e1,rfl,(fun e he=>absurd he (by simp)),fun _=>rfl⟩
  have I1:=I.laid (a:=s.heap.objs.size) (o:=.own (s.heap.objs.size+1)) (h':=s.heap.push PySem.W.emptyDict) (t':=s.toks) (fun b u q=>Heap.get?_push_of_some _ q) (Nat.le_refl _) ⟨_,e1⟩
  refine I1.laid (a:=s.heap.objs.size+1) (o:=.ins C s.heap.objs.size []) (t':=s.toks) (fun b u q=>Heap.get?_push_of_some _ q) (Nat.le_of_eq (Heap.size_push _ _)) ?_
  have ne:s.heap.objs.size≠s.heap.objs.size+1:=Nat.ne_of_lt (Nat.lt_succ_self _)
  refine ⟨by rw [qAC ne,qAB],Nat.zero_le _,ne,e2,fun _=>none,(Heap.Ns1.of_empty e3).at fun o q=>Heap.get?_push_of_some _ q,fun _=>True.intro,fun y hy=>absurd rfl hy⟩
theorem qM7 {prog:Program} {w:World} {env:Env} {e:Expr} {f:Str} {pos:Pos} {s:Shared} {Q:Value→Shared→Prop} (hb:attributeBase e f env (eval e env)=eval e env)
    (h:wpAny (model prog w) A (eval e env) (fun o s₁=>wpAny (model prog w) A (getAttr o f true) Q E s₁) E s):wpAny (model prog w) A (eval (.Attribute e f pos) env) Q E s :=
  Attribute_any_ h (by rw [arm_eval_Attribute,hb])
end
noncomputable def tFld (K:PySem.W.Frag) (ta:TE) (f:Str):TE:=fun σ H Q=>ta σ H fun x H1=>∃ a C dx fs v,x=.ref a∧H1 a=some (.ins C dx fs)∧Cls K C∧NoAttr K C f∧fs.lookup f=some v∧Q v H1
noncomputable def sFld (K:PySem.W.Frag) (ta tv:TE) (f:Str):TS:=fun D σ H=>tv σ H fun y H1=>ta σ H1 fun x H2=>∃ a C dx fs,x=.ref a∧H2 a=some (.ins C dx fs)∧Cls K C∧NoAttr K C f∧fs.length<1000 ∧
 D.nx σ (upd H2 a (.ins C dx (putF f y fs)))
section
variable {X:Cx} {o e value:Expr} {f:Str} {pos pos' tpos:Pos} {ta tv:TE}
theorem pe_fld (he:PE X e ta) (hb:attributeBase e f X.env (eval e X.env)=eval e X.env):PE X (.Attribute e f pos) (tFld X.K ta f):=by
 intro pins s σ H Q I h
 refine qM7 hb (thn (he pins s σ H _ I h) fun u s1 ⟨x,H1,I1,rx,a,C,dx,fs,v,ex,ea,c,n,l,q⟩=>?_)
 subst ex
 obtain rfl:u=Value.ref a:=rx
 exact qHx I1 ea c n l fun u' s2 I2 ru=>⟨v,H1,I2,ru,q⟩
theorem ps_fld (ha:PE X o ta) (hv:PE X value tv) (hs:swapsWith value (some (.Attribute o f pos')) pos.line X.env=pure false):PS X (.Assign [.Attribute o f pos'] value pos) (sFld X.K ta tv f):=by
 intro pins s σ H D I h
 refine plainObj_wpAny_Assign_Attribute (thn (hv pins s σ H _ I h) fun u s1 ⟨y,H1,I1,ry,q⟩=>thn (ha pins s1 σ H1 _ I1 q) fun ov s2 ⟨x,H2,I2,rx,a,C,dx,fs,ex,ea,c,n,l,q2⟩=>?_) hs
 subst ex
 obtain rfl:ov=Value.ref a:=rx
 exact qHb I2 ea c n l ry fun s3 I3=>⟨σ,_,I3,q2⟩
end
section
variable {X:Cx} {pins:List (Addr × Obj)} {σ:St} {H:Hp} {s:Shared} {A:Around} {E:Value→Shared→Prop} {Q:Value→Shared→Prop} {c:Value} {b:Bool}
end
end L2
namespace L2
open PySem PySem.Spec PyProof.Rows
structure Room (k:Nat) (A:Around):Prop where
 hd:A.handled=none
 dp:A.depth+3*k+5<recursionLimit
 un:A.units+16*k+200<cLine
theorem Room.mono {j k:Nat} {A:Around} (r:Room k A) (h:j≤k):Room j A:=⟨r.hd,by have:=r.dp;omega,by have:=r.un;omega⟩
theorem Room.deeper {k:Nat} {A:Around} (r:Room (k+1) A) (env:Env):Room k (A.deeper env) :=
 ⟨r.hd,by have:=r.dp;show A.depth+1+3*k+5<_;omega,by have:=r.un;show A.units+3+16*k+200<_;omega⟩
theorem Room.in1 {k:Nat} {A:Around} (r:Room (k+1) A):Room k A.in1 :=
 ⟨r.hd,by have:=r.dp;show A.depth+3*k+5<_;omega,by have:=r.un;show A.units+1+16*k+200<_;omega⟩
theorem qHo {A:Around} {C:Addr} {us:List Value} {kw:List (Str × Value)}:(A.under (.builtin "type.__call__" ⟨.ref C::us,kw⟩)).depth=A.depth+1:=by
 first | rfl | simp [Around.under,Code.weight,Code.isCreation,Code.isGuard,Code.isCaller,Code.frames,Code.isFrame,guardIds]
theorem qHn {A:Around} {C:Addr} {us:List Value} {kw:List (Str × Value)}:(A.under (.builtin "type.__call__" ⟨.ref C::us,kw⟩)).units=A.units+1:=by
 first | rfl | simp [Around.under,Code.cUnits,Code.frames,Code.isFrame]
theorem Room.make {k:Nat} {A:Around} (r:Room (k+1) A) (C:Addr) (us:List Value) (kw:List (Str × Value)):Room k (A.under (.builtin "type.__call__" ⟨.ref C::us,kw⟩)) :=
 ⟨r.hd,by have:=r.dp;rw [qHo];omega,by have:=r.un;rw [qHn];omega⟩
theorem Room.depth {k:Nat} {A:Around} (r:Room k A):A.depth<recursionLimit:=by have:=r.dp;omega
theorem Room.units {k:Nat} {A:Around} (r:Room k A):A.units+64<cLine:=by have:=r.un;omega
noncomputable def tNil:TA:=fun _ H Q=>Q [] H
noncomputable def tCons (ta:TE) (tr:TA):TA:=fun σ H Q=>ta σ H fun x H1=>tr σ H1 fun xs H2=>Q (x::xs) H2
section
variable {X:Cx} {e:Expr} {es:List Expr} {te:TE} {t:TA} {pos:Pos}
theorem pa_nil:PA X [] tNil:=fun _ _ _ _ H Q I h=>Calls.spliced_nil ⟨[],H,I,.nil,h⟩
theorem pa_cons (ha:PE X e te) (hr:PA X es t) (hs:starEach (e::es) X.env=(false,eval e X.env)::starEach es X.env:=by rfl):PA X (e::es) (tCons te t):=by
 intro pos pins s σ H Q I h
 rw [hs]
 show wpAny _ _ (spliced ((false,eval e X.env)::backTo pos (starEach es X.env))) _ _ s
 refine Calls.spliced_cons (thn (ha pins s σ H _ I h) fun u s1 ⟨x,H1,I1,r1,q1⟩=>?_)
 exact thn (hr pos pins s1 σ H1 _ I1 q1) fun us s2 ⟨xs,H2,I2,r2,q2⟩=>⟨x::xs,H2,I2,.cons r1 r2,q2⟩
noncomputable def tTup (t:TA):TE:=fun σ H Q=>t σ H fun xs H1=>xs.length≤sizeLine∧∀ p,H1 p=none→Q (.ref p) (upd H1 p (.tup xs))
noncomputable def tLst (t:TA):TE:=fun σ H Q=>t σ H fun xs H1=>xs.length≤sizeLine∧∀ p,H1 p=none→Q (.ref p) (upd H1 p (.lst xs))
theorem pe_tup {x1} (h:PA X es t):PE X (.Tuple es x1 pos) (tTup t):=by
 intro pins s σ H Q I hq
 refine wpAny_Tuple_spliced (thn (h pos pins s σ H _ I hq) fun us s1 ⟨xs,H1,I1,r,z,q⟩=>⟨by rw [← r.length];exact z,?_⟩)
 have hf:H1 s1.heap.objs.size=none:=I1.hok.fresh (Nat.le_refl _)
 refine ⟨.ref s1.heap.objs.size,upd H1 s1.heap.objs.size (.tup xs),I1.laid (t':=s1.toks) (fun b u e=>Heap.get?_push_of_some _ e) (Nat.le_refl _) ?_,rfl,q _ hf⟩
 exact ⟨z,us,r,⟨_,Heap.get?_push_size _ rfl,rfl,_,rfl⟩⟩
theorem pe_lst (h:PA X es t):PE X (.List es pos) (tLst t):=by
 intro pins s σ H Q I hq
 refine wpAny_List_spliced (thn (h pos pins s σ H _ I hq) fun us s1 ⟨xs,H1,I1,r,z,q⟩=>⟨by rw [← r.length];exact z,?_⟩)
 have hf:H1 s1.heap.objs.size=none:=I1.hok.fresh (Nat.le_refl _)
 refine ⟨.ref s1.heap.objs.size,upd H1 s1.heap.objs.size (.lst xs),I1.laid (t':=s1.toks) (fun b u e=>Heap.get?_push_of_some _ e) (Nat.le_refl _) ?_,rfl,q _ hf⟩
 exact ⟨z,us,0,r,Heap.get?_push_size _ rfl⟩
end
noncomputable abbrev Sp:=List V→Hp→VK→XK→Prop
noncomputable abbrev CXT:=List Env→Hp→Shared→XK→Value→Shared→Prop
structure Env0 (P:Program) (w:World) (K:PySem.W.Frag) (mg:Str→Option Value) (base:Heap) (A:Around) (outer:List Env) (s:Shared) (H:Hp):Prop where
 frames:A.frames=some outer
 mod:Mod K mg base
 bs:∀ b o,base.get? b=some o→s.heap.get? b=some o∧H b=none
 bsz:base.objs.size≤s.heap.objs.size
 funs:s.heap.FunFrames base outer
 frf:∀ b∈frs outer,H b=none
 hok:HOk P w H s.heap
 bare:AllBare s.gens
noncomputable def CE (outer:List Env) (P:Program) (w:World) (H:Hp) (s:Shared) (Q:VK) (u:Value) (s':Shared):Prop :=
 ∃ v H',s'.os=s.os∧AllBare s'.gens∧Un (frs outer) [] H H' s.heap s'.heap∧HOk P w H' s'.heap∧RelV v u∧Q v H'
noncomputable def CR (CX:CXT) (outer:List Env) (P:Program) (w:World) (H:Hp) (s:Shared) (Q:VK) (E:XK) (r:Result) (s':Shared):Prop :=
 match r with
 | .ok (.ret u)=>CE outer P w H s Q u s'
 | .ok _=>False
 | .error e=>CX outer H s E e s'
structure FnOk (P:Program) (w:World) (K:PySem.W.Frag) (mg:Str→Option Value) (base:Heap) (CX:CXT) (k:Nat) (f:Addr) (fd:FuncData) (ps:List Str) (sp:Sp):Prop where
 len:∀ vs H Q E,sp vs H Q E→vs.length=ps.length
 run:∀ (A:Around) (outer:List Env) (s:Shared) (H:Hp) (args:Args) (us:List Value) (vs:List V) (Q:VK) (E:XK),Room k A→Env0 P w K mg base A outer s H→BindsTo s fd args (ps.zip us)→Vals vs us→sp vs H Q E →
  codeAny (model P w) A (.call (.ref f) args) (CR CX outer P w H s Q E) s
theorem FnOk.mono {P:Program} {w:World} {K:PySem.W.Frag} {mg:Str→Option Value} {base:Heap} {CX:CXT} {j k:Nat} {f:Addr} {fd:FuncData} {ps:List Str} {sp:Sp} (F:FnOk P w K mg base CX j f fd ps sp) (h:j≤k) :
    FnOk P w K mg base CX k f fd ps sp:=⟨F.len,fun A outer s H args us vs Q E hr=>F.run A outer s H args us vs Q E (hr.mono h)⟩
theorem FnOk.imp {P:Program} {w:World} {K:PySem.W.Frag} {mg:Str→Option Value} {base:Heap} {CX:CXT} {k:Nat} {f:Addr} {fd:FuncData} {ps:List Str} {sp sp':Sp} (F:FnOk P w K mg base CX k f fd ps sp)
    (h:∀ vs H Q E,sp' vs H Q E→sp vs H Q E):FnOk P w K mg base CX k f fd ps sp' :=
  ⟨fun vs H Q E q=>F.len vs H Q E (h _ _ _ _ q),fun A outer s H args us vs Q E hr he hb hv hs=>F.run A outer s H args us vs Q E hr he hb hv (h _ _ _ _ hs)⟩
theorem Env0.make {P:Program} {w:World} {K:PySem.W.Frag} {mg:Str→Option Value} {base:Heap} {A:Around} {outer:List Env} {s:Shared} {H:Hp} (e:Env0 P w K mg base A outer s H) (C:Addr) (us:List Value) (kw:List (Str × Value)) :
    Env0 P w K mg base (A.under (.builtin "type.__call__" ⟨.ref C::us,kw⟩)) outer s H:=⟨by first | exact e.frames | (simpa [Around.under,Code.envs,Code.isFrame,pushEnvs] using e.frames),e.mod,e.bs,e.bsz,e.funs,e.frf,e.hok,e.bare⟩
theorem Env0.in1 {P:Program} {w:World} {K:PySem.W.Frag} {mg:Str→Option Value} {base:Heap} {A:Around} {outer:List Env} {s:Shared} {H:Hp} (e:Env0 P w K mg base A outer s H) :
    Env0 P w K mg base A.in1 outer s H:=⟨e.frames,e.mod,e.bs,e.bsz,e.funs,e.frf,e.hok,e.bare⟩
section
variable {X:Cx} {pins:List (Addr × Obj)} {σ:St} {H:Hp} {s s':Shared}
theorem Inv.env0 (I:Inv X pins σ H s):Env0 X.prog X.w X.K X.mg X.base X.A X.stack s H :=
 ⟨I.ok.frames,I.ok.mod,I.bs,Nat.le_trans I.ok.bsz I.sz,I.stack,I.stkFree,I.hok,I.bare⟩
theorem Inv.after {Q:VK} {u:Value} (I:Inv X pins σ H s) (h:CE X.stack X.prog X.w H s Q u s'):EP X pins σ Q u s':=by
 obtain ⟨v,H',os,bare,un,hok,r,q⟩:=h
 obtain ⟨hh,g,d,t,os'⟩:=s'
 obtain rfl:os'=s.os:=os
 exact ⟨v,H',I.call (h':=hh) (g':=g) (d':=d) (t':=t) (ch:=[]) un hok bare (fun b z=>absurd z (by simp)),r,q⟩
end
noncomputable def Binds (K:PySem.W.Frag) (fd:FuncData) (ps:List Str) (ds:List Value):Prop :=
 ∀ (s:Shared) (us:List Value),K.In s.heap→(us++ds).length=ps.length→BindsTo s fd ⟨us,[]⟩ (ps.zip (us++ds))
theorem Binds.all {K:PySem.W.Frag} {fd:FuncData} {ps:List Str} (h:∀ us:List Value,us.length=ps.length→bindArgs fd ⟨us,[]⟩=pure (ps.zip us)):Binds K fd ps []:=fun s us _ hl=>by
 rw [List.append_nil] at hl ⊢
 exact .of_eq (h us hl)
section
variable {X:Cx} {CX:CXT} {k:Nat} {f C:Addr} {fd:FuncData} {ps:List Str} {sp:Sp} {dvs:List V} {ds:List Value} {E:XK} {x m:Str} {p pos apos:Pos} {e o:Expr} {es:List Expr} {ta:TE} {t:TA}
structure Mk (K:PySem.W.Frag) (C f:Addr):Prop where
 makes:PySem.W.makesIn K C=true
 init:PySem.W.findIn K (.ref C) "__init__"=some (some (.ref f))
 fn:PySem.W.isFn K (.ref f)=true
 kp:PySem.W.keepIn K (.ref C)=true
end
section
variable {X:Cx} {CX:CXT} {k:Nat} {f C:Addr} {fd:FuncData} {ps ks:List Str} {sp:Sp} {E:XK} {x m:Str} {p pos apos kpos:Pos} {e o:Expr} {es:List Expr} {kws:List Keyword} {te ta:TE} {t tk:TA} {nm:Option Str}
variable {g:List Value→List Value→List Value} {gV:List V→List V→List V}
end
structure FnScope (N P:List Str) (sc:Scope):Prop where
 kind:sc.kind=.function
 co:sc.isCoroutine=false
 gen:sc.isGenerator=false
 nd:N.Nodup
 pre:N.take P.length=P
 par:∀ x∈P,sc.names.lookup x=some .local∨sc.names.lookup x=some .cell
 nofree:∀ y∈sc.names,y.2≠.free
theorem qFv {kindOf:Str→Option NameKind} {x:Str}:∀ {binds:List (Str × Value)} {m:Str→Option Value},(∀ v,(x,v)∉binds)→bindL kindOf binds m x=m x
 | [],_,_=>rfl
 | (n,v)::r,m,h=>by
  unfold bindL
  rw [qFv fun w hw=>h w (List.mem_cons_of_mem _ hw)]
  split
  ·have:x≠n:=by rintro rfl;exact h v List.mem_cons_self
   simp [this]
  ·rfl
theorem qFx {kindOf:Str→Option NameKind} {x:Str}:∀ {binds:List (Str × Value)} {m:Str→Option Value},(∀ v,(x,v)∉binds)→bindC kindOf binds m x=m x
 | [],_,_=>rfl
 | (n,v)::r,m,h=>by
  unfold bindC
  rw [qFx fun w hw=>h w (List.mem_cons_of_mem _ hw)]
  split
  ·rfl
  ·have:x≠n:=by rintro rfl;exact h v List.mem_cons_self
   simp [this]
theorem qFw {kindOf:Str→Option NameKind} {x:Str} {v:Value}:∀ {P:List Str} {vs:List Value} {i:Nat} {m:Str→Option Value},P.Nodup→P[i]?=some x→vs[i]?=some v→kindOf x=some .local →
    bindL kindOf (P.zip vs) m x=some v
  | [],_,_,_,_,h,_,_=>by simp at h
  | _::_,[],_,_,_,_,h,_=>by simp at h
  | p::P,w::vs,0,m,nd,h1,h2,hk=>by
    simp at h1 h2;subst h1;subst h2
    show bindL kindOf ((p,w)::P.zip vs) m p=_
    unfold bindL
    rw [qFv fun v hv=>(List.nodup_cons.mp nd).1 (List.of_mem_zip hv).1,if_pos hk]
    simp
  | p::P,w::vs,i+1,m,nd,h1,h2,hk=>by
    show bindL kindOf ((p,w)::P.zip vs) m x=_
    unfold bindL
    exact qFw (i:=i) (List.nodup_cons.mp nd).2 (by simpa using h1) (by simpa using h2) hk
theorem qFy {kindOf:Str→Option NameKind} {x:Str} {v:Value}:∀ {P:List Str} {vs:List Value} {i:Nat} {m:Str→Option Value},P.Nodup→P[i]?=some x→vs[i]?=some v→kindOf x≠some .local →
    bindC kindOf (P.zip vs) m x=some v
  | [],_,_,_,_,h,_,_=>by simp at h
  | _::_,[],_,_,_,_,h,_=>by simp at h
  | p::P,w::vs,0,m,nd,h1,h2,hk=>by
    simp at h1 h2;subst h1;subst h2
    show bindC kindOf ((p,w)::P.zip vs) m p=_
    unfold bindC
    rw [qFx fun v hv=>(List.nodup_cons.mp nd).1 (List.of_mem_zip hv).1,if_neg hk]
    simp
  | p::P,w::vs,i+1,m,nd,h1,h2,hk=>by
    show bindC kindOf ((p,w)::P.zip vs) m x=_
    unfold bindC
    exact qFy (i:=i) (List.nodup_cons.mp nd).2 (by simpa using h1) (by simpa using h2) hk
noncomputable def start (N:List Str) (vs:List V):St:=vs.map some++List.replicate (N.length-vs.length) none
noncomputable def cxOf (CX:CXT) (P:Program) (w:World) (K:PySem.W.Frag) (mg:Str→Option Value) (base:Heap) (N:List Str) (qual:Str) (scope:Scope) (f:Addr) (cd:Value) (A:Around) (outer:List Env) (s:Shared) (H:Hp) (E:XK):Cx where
 prog:=P
 w:=w
 K:=K
 mg:=mg
 base:=base
 A:=A.deeper (envOfC qual scope s.heap.objs.size f cd)
 N:=N
 s₀:=s
 H₀:=H
 env:=envOfC qual scope s.heap.objs.size f cd
 outer:=outer
 stack:=envOfC qual scope s.heap.objs.size f cd::outer
 ex:=[]
 calm:=true
 fn:=fun _=>true
 pn:=[]
 xe:=fun e s'=>wpAny (model P w) (A.deeper (envOfC qual scope s.heap.objs.size f cd)) (leaving (envOfC qual scope s.heap.objs.size f cd) e) (fun _ s''=>CX outer H s E e s'') (fun e' s''=>CX outer H s E e' s'') s'
theorem qHR {sc:Scope} {n:Nat} {x:Str} (h:sc.names.lookup x=some .cell):∃ c,(cellsFrom n sc.names []).lookup x=some c:=by
 have q:=PySem.W.cellsFrom_some sc.names n [] (.inl h)
 exact Option.isSome_iff_exists.mp q
theorem qJD {CX:CXT} {P:Program} {w:World} {K:PySem.W.Frag} {mg:Str→Option Value} {base:Heap} {N ps:List Str} {qual:Str} {scope:Scope} {f:Addr} {cd:Value} {A:Around} {outer:List Env} {s s1:Shared} {H:Hp} {E:XK} {us:List Value} {vs:List V}
    (S:FnScope N ps scope) (hd:A.handled=none) (e0:Env0 P w K mg base A outer s H) (hl:vs.length=ps.length) (r:Vals vs us)
    (x:InCallC s s.heap.objs.size (bindL (envOfC qual scope s.heap.objs.size f cd).kindOf (ps.zip us) fun _=>none) (cellsFrom (s.heap.objs.size+1) scope.names []) (bindC (envOfC qual scope s.heap.objs.size f cd).kindOf (ps.zip us) fun _=>none) s1) :
    Inv (cxOf CX P w K mg base N qual scope f cd A outer s H E) [] (start N vs) H s1:=by
  have hpl:ps.length≤N.length:=by have:=congrArg List.length S.pre;rw [List.length_take] at this;omega
  obtain ⟨h1,tk,rfl,hk⟩:=x.done
  have noA:∀ b:Addr,b∉(cxOf CX P w K mg base N qual scope f cd A outer s H E).ex:=fun b z=>absurd (show b∈([]:List Addr) from z) (by simp)
  refine ⟨⟨e0.mod,S.kind,rfl,rfl,Nat.le_refl _,fun y z c h1 h2=>?_,fun y hy=>?_,fun y c _ h=>?_,fun _=>hd,Around.frames_deeper e0.frames,.inr ⟨rfl,rfl⟩,fun b z=>absurd z (noA b),e0.bs,e0.bsz,fun b _ _=>noA b,fun b z=>absurd z (noA b),e0.funs,e0.frf⟩,
    rfl,e0.bare,Un.kept hk,⟨_,x.toInCall.ns,fun i y v h1 h2 h3=>?_⟩,fun y c h=>⟨_,x.cell y c h⟩,e0.hok.fresh (Nat.le_refl _),fun y c h=>?_,fun p hp=>absurd (show p∈([]:List (Addr × Obj)) from hp) (by simp),e0.hok.kept hk,?_⟩
  · exact name_of_addr x.apart (PySem.mem_of_lookup h1) (PySem.mem_of_lookup h2)
  · have hy:scope.names.lookup y=some .cell∨scope.names.lookup y=some .free:=hy
    rcases hy with hy | hy
    · exact qHR hy
    · exact absurd rfl (S.nofree _ (PySem.mem_of_lookup hy))
  · exact Nat.le_of_lt (x.above y c (PySem.mem_of_lookup h))
  · have hi:i<vs.length:=by
      unfold start at h2
      by_cases hi:i<vs.length
      · exact hi
      · rw [List.getElem?_append_right (by simpa using hi)] at h2
        rw [List.getElem?_replicate] at h2
        split at h2 <;> cases h2
    have ha:vs[i]?=some v:=by
      unfold start at h2
      rw [List.getElem?_append_left (by simpa using hi),List.getElem?_map] at h2
      cases e:vs[i]? with
      | none=>rw [e] at h2;cases h2
      | some a=>rw [e] at h2;cases h2;rfl
    obtain ⟨u,hu,rv⟩:=r.get ha
    have hp:ps[i]?=some y:=by
      rw [← S.pre,List.getElem?_take_of_lt (by omega)];exact h1
    have ndP:ps.Nodup:=by rw [← S.pre];exact S.nd.sublist (List.take_sublist _ _)
    refine ⟨u,rv,?_⟩
    rcases S.par y (List.mem_of_getElem? hp) with k | k
    · exact .inl ⟨k,qFw ndP hp hu k⟩
    · obtain ⟨c,e⟩:=qHR (n:=s.heap.objs.size+1) k
      refine .inr ⟨.inl k,c,e,?_⟩
      have q:=x.cell y c e
      rw [qFy ndP hp hu (by show scope.names.lookup y≠_;rw [k];decide)] at q
      exact q
  · exact e0.hok.fresh (Nat.le_of_lt (x.above y c (PySem.mem_of_lookup h)))
  · unfold start
    show _=N.length
    rw [List.length_append,List.length_map,List.length_replicate]
    omega
theorem fn_of {CX:CXT} {P:Program} {w:World} {K:PySem.W.Frag} {mg:Str→Option Value} {base:Heap} {k:Nat} {f:Addr} {name qual:Str} {params:Arguments} {body:List Stmt} {scope:Scope} {dV kV doc pm cdv ct oc:Value} {an od:Option Addr}
    {osl:Array (Option Value)} {N ps:List Str} {sp:Sp} (lk:K.lookup f=some ⟨oc,od,.func (PySem.W.fnOf name qual params body scope dV kV doc pm an cdv ct),osl⟩) (hcd:PySem.W.codeIn K cdv qual=true) (S:FnScope N ps scope)
    (len:∀ vs H Q E,sp vs H Q E→vs.length=ps.length)
    (hbody:∀ (A:Around) (outer:List Env) (s:Shared) (H:Hp) (vs:List V) (Q:VK) (E:XK),Room k (A.deeper (envOfC qual scope s.heap.objs.size f cdv))→sp vs H Q E →
      ∃ t,PSs (cxOf CX P w K mg base N qual scope f cdv A outer s H E) body t∧t { nx:=fun _ H'=>Q .non H',rt:=Q } (start N vs) H) :
    FnOk P w K mg base CX (k+1) f (PySem.W.fnOf name qual params body scope dV kV doc pm an cdv ct) ps sp:=by
  refine ⟨len,fun A outer s H args us vs Q E hr e0 hb r hsp=>?_⟩
  have hl:=len _ _ _ _ hsp
  have KX:K.In s.heap:=e0.mod.kin.keeps fun b o e=>(e0.bs b o e).1
  have lim:s.heap.NoLimit:=e0.mod.nolimit.keeps fun b o e=>(e0.bs b o e).1
  have hkind:∀ y∈ps.zip us,scope.names.lookup y.1=some .local∨(scope.names.lookup y.1=some .cell∧((cellsFrom (s.heap.objs.size+1) scope.names []).lookup y.1).isSome=true):=fun ⟨n,v⟩ hy=>by
    rcases S.par n (List.of_mem_zip hy).1 with q | q
    · exact .inl q
    · exact .inr ⟨q,PySem.W.cellsFrom_some _ _ _ (.inl q)⟩
  refine codeAny_call_function hr.depth (KX _ _ lk) rfl S.co S.gen rfl (PySem.W.codeRec_of KX hcd) (hb _ _ _ _ ?_)
  refine wpAny_newFunctionEnv_cells S.kind hkind fun env he s1 x=>?_
  subst he
  refine ⟨lim.keeps x.toInCall.keep,codeAny_func ?_⟩
  obtain ⟨t,ht,hq⟩:=hbody A outer s H vs Q E (hr.deeper _) hsp
  have I:Inv (cxOf CX P w K mg base N qual scope f cdv A outer s H E) [] (start N vs) H s1:=qJD S hr.hd e0 hl r x
  refine wpAny_mono (ht [] s1 (start N vs) H _ I hq) (fun fl s' hs=>?_) fun e s' hs=>hs
  have fin:∀ {σ':St} {H':Hp} {v:V} {u:Value},Inv (cxOf CX P w K mg base N qual scope f cdv A outer s H E) [] σ' H' s'→RelV v u→Q v H'→CE outer P w H s Q u s' :=
    fun {σ' H' v u} J rv q=>⟨v,H',J.os,J.bare,J.base,J.hok,rv,q⟩
  cases fl with
  | ret u =>
    obtain ⟨v,σ',H',J,rv,q⟩:=hs
    exact fin J rv q
  | next =>
    obtain ⟨σ',H',J,q⟩:=hs
    exact fin (v:=V.non) (u:=Value.none) J rfl q
  | brk =>
    obtain ⟨_,_,_,q⟩:=hs
    exact False.elim q
  | cont =>
    obtain ⟨_,_,_,q⟩:=hs
    exact False.elim q
end L2
namespace L2
open PySem PySem.Spec PyProof.Rows
section
variable {X:Cx} {x:Str} {p pos:Pos} {e:Expr} {es:List Expr} {t:TA} {id T:String} {r:List V→Hp→VK→Prop}
noncomputable def tCB (r:List V→Hp→VK→Prop) (t:TA):TE:=fun σ H Q=>t σ H fun vs H1=>r vs H1 Q
theorem pe_callB (hc:CallR X (.builtin id) r) (hg:Gl X x) (hm:X.mg x=none) (hv:bootBuiltins x=some (.builtin id)) (ha:PA X (e::es) t) (hn:x≠"__name__":=by decide) (hdb:(x == ("__debug__":Str))=false:=by decide)
    (he:starEach (e::es) X.env=(false,eval e X.env)::starEach es X.env:=by rfl) (hpl:(backTo pos (starEach es X.env)).any (·.1)=false:=by rfl):PE X (.Call (.Name x p) (e::es) [] pos) (tCB r t):=by
  intro pins s σ H Q I h
  refine wpAny_Call_Name_kw (ld_blt I hg hm hv ?_ hn hdb)
  exact PyProof.Rows.callWith_builtin1 (thn (ha pos pins s σ H _ I h) fun us s1 ⟨vs,H1,I1,r1,q1⟩=>hc pins s1 σ H1 vs us Q I1 r1 q1) he hpl
theorem pe_callTy (hc:CallR X (.type T) r) (hg:Gl X x) (hm:X.mg x=none) (hv:bootBuiltins x=some (.type T)) (ha:PA X (e::es) t) (hn:x≠"__name__":=by decide) (hdb:(x == ("__debug__":Str))=false:=by decide)
    (he:starEach (e::es) X.env=(false,eval e X.env)::starEach es X.env:=by rfl) (hpl:(backTo pos (starEach es X.env)).any (·.1)=false:=by rfl):PE X (.Call (.Name x p) (e::es) [] pos) (tCB r t):=by
  intro pins s σ H Q I h
  refine wpAny_Call_Name_kw (ld_blt I hg hm hv ?_ hn hdb)
  exact PyProof.Rows.callWith_type1 (thn (ha pos pins s σ H _ I h) fun us s1 ⟨vs,H1,I1,r1,q1⟩=>hc pins s1 σ H1 vs us Q I1 r1 q1) he hpl
end
end L2
namespace HT
open PySem PyProof.Rows
section
open PySem.SeqAt
open PySem.AutoSeq1 (wpAny_loadPart')
open PySem.MeetsSeq PySem.MeetsSeq2 PySem.MeetsSeq3
end
section
variable {prog:Program} {w:World} {A:Around} {E:Value→Shared→Prop} {s:Shared}
theorem cat_tup {t b:Addr} {vs ws:List Value} {Q:Value→Shared→Prop} (ht:IsTup s.heap t vs.toArray) (hb:IsTup s.heap b ws.toArray) (hv:vs≠[])
    (h1:ws=[]→Q (.ref t) s) (h2:ws≠[]→Q (.ref s.heap.objs.size) { s with heap:=s.heap.push { cls:=.type "tuple",data:=.seq (vs++ws).toArray } })
    (hsz:vs.length+ws.length≤sizeLine):wpAny (model prog w) A (binaryOp .Add (.ref t) (.ref b)) Q E s:=by
  obtain ⟨⟨cls,dd,data,sl⟩,ho,hc,n,hd⟩:=id ht
  obtain ⟨⟨cls2,dd2,data2,sl2⟩,ho2,hc2,n2,hd2⟩:=id hb
  simp only at hc hd hc2 hd2
  subst hc hd hc2 hd2
  have e:vs.toArray++ws.toArray=(vs++ws).toArray:=by simp
  by_cases hw:ws=[]
  · exact concat_meets ⟨_,ho,rfl⟩ ⟨_,ho2,rfl⟩ noFill_tuple_add seq_tuple_add PySem.F.slot_tuple_add PySem.F.entry_tuple_add (PySem.F.args_tuple_add_2 _ _)
      (tuple_addW1 t b vs.toArray ws.toArray n n2 dd dd2 sl sl2 (by simpa using hv) (by simp [hw])) ⟨ho,ho2,h1 hw⟩
  · refine concat_meets ⟨_,ho,rfl⟩ ⟨_,ho2,rfl⟩ noFill_tuple_add seq_tuple_add PySem.F.slot_tuple_add PySem.F.entry_tuple_add (PySem.F.args_tuple_add_2 _ _)
      (tuple_addW2 t b vs.toArray ws.toArray n n2 dd dd2 sl sl2 (by simpa using hv) (by simpa using hw) (by rw [List.size_toArray,List.size_toArray];exact hsz)) ⟨ho,ho2,?_⟩
    rw [e]
    exact h2 hw
noncomputable def sIx (n d:Nat):Option Int→Nat
 | none=>d
 | some v=>if v<0 then (v+(n:Int)).toNat else min v.toNat n
theorem sIx_le (n d:Nat) (hd:d≤n) (o:Option Int):sIx n d o≤n:=by
 cases o with
 | none=>exact hd
 | some v =>
  show (if v<0 then (v+(n:Int)).toNat else min v.toNat n)≤n
  by_cases hv:v<0
  ·rw [if_pos hv];omega
  ·rw [if_neg hv];exact Nat.min_le_right _ _
theorem qJb (v:Int) (n d:Nat):(if v<0 then max (v+(n:Int)) 0 else min v (n:Int))=((sIx n d (some v):Nat):Int):=by
 show (if v<0 then max (v+(n:Int)) 0 else min v (n:Int))=(((if v<0 then (v+(n:Int)).toNat else min v.toNat n):Nat):Int)
 by_cases hv:v<0
 ·simp only [if_pos hv];omega
 ·simp only [if_neg hv];omega
theorem qIB (lo hi:Option Int) (n:Nat):Builtin.Slice.sliceAdjust lo hi 1 (n:Int)=(((sIx n 0 lo:Nat):Int),((sIx n n hi:Nat):Int)):=by
 have h1:¬ ((1:Int)<0):=by omega
 unfold Builtin.Slice.sliceAdjust
 simp only [h1,if_false]
 refine Prod.ext ?_ ?_
 ·cases lo with
  | none=>rfl
  | some v=>exact qJb v n 0
 ·cases hi with
  | none=>rfl
  | some v=>exact qJb v n n
theorem qHe (i j:Nat):Builtin.Slice.slicePlaces (i:Int) (j:Int) 1=j-i:=by
 unfold Builtin.Slice.slicePlaces
 have h1:(1:Int) > 0:=by omega
 simp only [h1,if_true,Int.ediv_one]
 split <;> omega
theorem qEW {v:Value} {o:Option Int} {Q:Option Int→Shared→Prop} (p:IsPart v o) (h:Q o s):wpAny (model prog w) A (Builtin.Slice.slicePartIndex v) Q E s:=by
 cases p with
 | none=>exact slicePart_none h
 | int i t=>exact slicePart_int h
theorem qB0 {sl:Addr} {vl vu:Value} {lo hi:Option Int} {n:Nat} {Q:Int × Int × Nat→Shared→Prop} (hs:s.heap.IsSliceOf sl vl vu .none) (pl:IsPart vl lo) (pu:IsPart vu hi)
    (h:Q (((sIx n 0 lo:Nat):Int),1,sIx n n hi-sIx n 0 lo) s):wpAny (model prog w) A (Builtin.Slice.sliceApplied (.ref sl) (pure (n:Int))) Q E s:=by
  obtain ⟨os,hos,hcs,hds⟩:=id hs
  unfold Builtin.Slice.sliceApplied Builtin.Slice.sliceFields
  refine wpAny_bind (wpAny_bind (wpAny_field hos hds (x:=vl) rfl (wpAny_bind (wpAny_field hos hds (x:=vu) rfl (wpAny_bind (wpAny_field hos hds (x:=.none) rfl (wpAny_pure ?_)))))))
  refine wpAny_bind (slicePart_none ?_)
  show wpAny _ _ (if ((1:Int) == 0)=true then _ else _) _ _ s
  rw [if_neg (by decide)]
  refine wpAny_bind (qEW pl (wpAny_bind (qEW pu (wpAny_bind (wpAny_pure ?_)))))
  show wpAny _ _ (match Builtin.Slice.sliceAdjust lo hi 1 (n:Int) with | (lo,hi)=>pure (lo,(1:Int),Builtin.Slice.slicePlaces lo hi 1)) _ _ s
  rw [qIB lo hi n]
  show wpAny _ _ (pure (((sIx n 0 lo:Nat):Int),(1:Int),Builtin.Slice.slicePlaces ((sIx n 0 lo:Nat):Int) ((sIx n n hi:Nat):Int) 1)) _ _ s
  rw [qHe]
  exact wpAny_pure h
theorem qJ9 (xs:Array Value) (i k:Nat):((List.range k).filterMap fun (m:Nat)=>xs[((i:Int)+(m:Int)*1).toNat]?).toArray=((xs.toList.drop i).take k).toArray:=by
 have e:(fun (m:Nat)=>xs[((i:Int)+(m:Int)*1).toNat]?)=fun m=>xs[i+m]?:=by
  funext m
  have:((i:Int)+(m:Int)*1).toNat=i+m:=by omega
  rw [this]
 rw [e]
 have:=pick_run xs i k
 rw [List.filterMap_map] at this
 have e2:((fun x=>xs[x]?) ∘ fun x=>i+x)=fun m=>xs[i+m]?:=rfl
 rw [e2] at this
 rw [this]
theorem getItem_tuple_cut {t sl:Addr} {items:Array Value} {vl vu:Value} {lo hi:Option Int} {Q:Value→Shared→Prop} (ht:IsTup s.heap t items) (hs:s.heap.IsSliceOf sl vl vu .none) (pl:IsPart vl lo) (pu:IsPart vu hi)
    (hw:¬ (sIx items.size 0 lo=0∧sIx items.size items.size hi=items.size))
    (h:Q (.ref s.heap.objs.size) { s with heap:=s.heap.push { cls:=.type "tuple",data:=.seq ((items.toList.drop (sIx items.size 0 lo)).take (sIx items.size items.size hi-sIx items.size 0 lo)).toArray } })
    (hsz:items.size≤sizeLine):wpAny (model prog w) A (getItem (.ref t) (.ref sl)) Q E s:=by
  have htake:sizeOk (.seq ((items.toList.drop (sIx items.size 0 lo)).take (sIx items.size items.size hi-sIx items.size 0 lo)).toArray):=by
    show ((items.toList.drop (sIx items.size 0 lo)).take (sIx items.size items.size hi-sIx items.size 0 lo)).toArray.size≤sizeLine
    rw [List.size_toArray,List.length_take,List.length_drop,Array.length_toList]
    omega
  have hj:sIx items.size items.size hi≤items.size:=sIx_le _ _ (Nat.le_refl _) hi
  obtain ⟨os,hos,hcs,hds⟩:=id hs
  have hTs:s.TypeIs (.ref sl) "slice":=⟨os,hos,hcs⟩
  unfold getItem
  try with_reducible refine wpAny_holding ?_
  first | refine wpAny_bind (wpAny_pure ?_) | skip
  refine wpAny_bind (wpAny_sequenceKey ht.typeIs (by decide) ?_)
  refine wpAny_bind (wpAny_callSpecial?_slot (name:=Str.ofString "__getitem__") ht.typeIs PyProof.Rows.slot_tuple_getitem
    (wpAny_call_entry PyProof.Rows.slot_tuple_getitem ht.typeIs entry_tuple_getitem ?_ (args_tuple_getitem _ _)))
  show wpAny _ _ (Builtin.Tuple.tupleItemsOf (.ref t) >>= _) _ _ s
  refine wpAny_bind (tupleItemsOf_ ht ?_)
  refine wpAny_bind (wpAny_typeOf hTs ?_)
  rw [if_pos (by decide)]
  refine wpAny_bind (qB0 hs pl pu ?_)
  have hno:¬ ((((sIx items.size 0 lo:Nat):Int) == 0&&(1:Int) == 1&&(sIx items.size items.size hi-sIx items.size 0 lo) == items.size)=true):=by
    intro q
    rw [Bool.and_eq_true,Bool.and_eq_true] at q
    have q1:((sIx items.size 0 lo:Nat):Int)=0:=eq_of_beq q.1.1
    have q2:sIx items.size items.size hi-sIx items.size 0 lo=items.size:=eq_of_beq q.2
    exact hw ⟨by omega,by omega⟩
  show wpAny _ _ (if (((sIx items.size 0 lo:Nat):Int) == 0&&(1:Int) == 1&&(sIx items.size items.size hi-sIx items.size 0 lo) == items.size)=true then _ else _) _ _ s
  rw [if_neg hno,qJ9]
  first
    | exact wpAny_bind (m:=Builtin.Tuple.tupleExact _) (wpAny_newObj_type (wpAny_pure ⟨_,rfl,wpAny_pure h⟩) htake)
    | exact wpAny_bind (m:=Builtin.Tuple.tupleExact _) (wpAny_newObj_type (wpAny_bind (wpAny_pure (wpAny_pure ⟨_,rfl,wpAny_pure h⟩))) htake)
    | exact wpAny_bind (wpAny_bind (m:=Builtin.Tuple.tupleExact _) (wpAny_newObj_type (wpAny_pure (wpAny_pure ⟨_,rfl,wpAny_pure h⟩)) htake))
    | exact wpAny_bind (wpAny_bind (m:=Builtin.Tuple.tupleExact _) (wpAny_newObj_type (wpAny_pure ⟨_,rfl,wpAny_pure h⟩) htake))
end
end HT
namespace L2
open PySem PySem.Spec PyProof.Rows
noncomputable abbrev TO:=St→Hp→(Option Int→Hp→Prop)→Prop
noncomputable def PO (X:Cx) (e:Option Expr) (t:TO):Prop :=
 ∀ (pins:List (Addr × Obj)) (s:Shared) (σ:St) (H:Hp) (Q:Option Int→Hp→Prop),Inv X pins σ H s→t σ H Q →
  wpAny (model X.prog X.w) X.A (evalPart e X.env) (fun u s'=>∃ o H',Inv X pins σ H' s'∧IsPart u o∧Q o H') X.xe s
noncomputable def qLd:TO:=fun _ H Q=>Q none H
noncomputable def tPart (t:TE):TO:=fun σ H Q=>t σ H fun x H1=>∃ i,x=.int i∧Q (some i) H1
section
variable {X:Cx} {e:Expr} {te:TE} {lo hi:Option Expr} {tl th:TO} {pos p2:Pos}
theorem po_none:PO X none qLd:=by
 intro pins s σ H Q I h
 rw [evalPart_none]
 exact wpAny_pure ⟨none,H,I,.none,h⟩
theorem po_some (h:PE X e te):PO X (some e) (tPart te):=by
 intro pins s σ H Q I hw
 rw [evalPart_some]
 refine thn (h pins s σ H _ I hw) fun u s1 ⟨x,H1,I1,r1,q1⟩=>?_
 obtain ⟨i,rfl,q⟩:=q1
 obtain ⟨t,rfl⟩:=r1
 exact ⟨some i,H1,I1,.int i t,q⟩
noncomputable def SlR (X:Cx) (r:V→Option Int→Option Int→Hp→VK→Prop):Prop :=
 ∀ (pins:List (Addr × Obj)) (s:Shared) (σ:St) (H:Hp) (x:V) (v vl vu:Value) (lo hi:Option Int) (sl:Addr) (Q:VK),Inv X pins σ H s→RelV x v→s.heap.IsSliceOf sl vl vu .none→IsPart vl lo→IsPart vu hi→r x lo hi H Q →
  ∃ T id,typeLookup (.type T) "__getitem__"=pure (some (.builtin id))∧s.TypeIs v T∧wpAny (model X.prog X.w) X.A (getItem v (.ref sl)) (EP X pins σ Q) X.xe s
theorem SlR.or {r r':V→Option Int→Option Int→Hp→VK→Prop} (h:SlR X r) (h':SlR X r'):SlR X (fun x lo hi H Q=>r x lo hi H Q∨r' x lo hi H Q):=by
 intro pins s σ H x v vl vu lo hi sl Q I rx hs pl pu q
 rcases q with q | q
 ·exact h pins s σ H x v vl vu lo hi sl Q I rx hs pl pu q
 ·exact h' pins s σ H x v vl vu lo hi sl Q I rx hs pl pu q
noncomputable def tSl (r:V→Option Int→Option Int→Hp→VK→Prop) (te:TE) (tl th:TO):TE:=fun σ H Q=>te σ H fun x H1=>tl σ H1 fun l H2=>th σ H2 fun u H3=>r x l u H3 Q
theorem pe_slice {r:V→Option Int→Option Int→Hp→VK→Prop} (hr:SlR X r) (he:PE X e te) (hl:PO X lo tl) (hu:PO X hi th):PE X (.Subscript e (.Slice lo hi none p2) pos) (tSl r te tl th):=by
 intro pins s σ H Q I h
 refine Subscript_ (thn (he pins s σ H _ I h) fun v s1 ⟨x,H1,I1,r1,q1⟩=>?_)
 refine wpAny_Slice (thn (hl pins s1 σ H1 _ I1 q1) fun vl s2 ⟨l,H2,I2,pl,q2⟩=>thn (hu pins s2 σ H2 _ I2 q2) fun vu s3 ⟨u,H3,I3,pu,q3⟩=>?_)
 rw [evalPart_none]
 refine wpAny_pure ?_
 have I4:Inv X pins σ H3 { s3 with heap:=s3.heap.push { cls:=.type "slice",data:=.fields #[vl,vu,.none] } }:=I3.kept (t':=s3.toks) fun b ob q=>Heap.get?_push_of_some _ q
 obtain ⟨T,id,hT,ht,hg⟩:=hr pins { s3 with heap:=s3.heap.push { cls:=.type "slice",data:=.fields #[vl,vu,.none] } } σ H3 x v vl vu l u s3.heap.objs.size Q I4 r1 (Heap.IsSliceOf.new ..) pl pu q3
 show wpAny (model X.prog X.w) X.A (subscriptTail e (.Slice lo hi none p2) v (.ref s3.heap.objs.size)) (EP X pins σ Q) X.xe { s3 with heap:=s3.heap.push { cls:=.type "slice",data:=.fields #[vl,vu,.none] } }
 exact tail_any (ops:=[.ref s3.heap.objs.size,v]) ht hT hg (by with_unfolding_all rfl)
noncomputable def cutV (xs:List V) (lo hi:Option Int):List V:=(xs.drop (HT.sIx xs.length 0 lo)).take (HT.sIx xs.length xs.length hi-HT.sIx xs.length 0 lo)
theorem qD3 (xs:List V) (lo hi:Option Int):(cutV xs lo hi).length≤xs.length:=by
 unfold cutV
 rw [List.length_take,List.length_drop]
 omega
noncomputable def rSlT (K:PySem.W.Frag):V→Option Int→Option Int→Hp→VK→Prop:=fun x lo hi H Q=>∃ a xs,x=.ref a∧SqT K H a xs ∧
 ¬ (HT.sIx xs.length 0 lo=0∧HT.sIx xs.length xs.length hi=xs.length)∧∀ p,H p=none→Q (.ref p) (upd H p (.tup (cutV xs lo hi)))
theorem sl_tup:SlR X (rSlT X.K):=by
 intro pins s σ H x v vl vu lo hi sl Q I rx hs pl pu h
 obtain ⟨a,xs,rfl,hx,hw,q⟩:=h
 cases rx
 obtain ⟨its,r,ht,hz⟩:=I.tuple hx
 have hlen:its.toArray.size=xs.length:=by rw [List.size_toArray];exact r.length.symm
 refine ⟨"tuple",_,PyProof.Rows.slot_tuple_getitem.lookup,ht.typeIs,?_⟩
 refine HT.getItem_tuple_cut ht hs pl pu (by rw [hlen];exact hw) ?_ (by rw [hlen];exact hz)
 rw [hlen]
 refine ⟨.ref s.heap.objs.size,_,I.laid (t':=s.toks) (o:=.tup (cutV xs lo hi)) (fun b ob q=>Heap.get?_push_of_some _ q) (Nat.le_refl _) ?_,rfl,q _ (I.hok.fresh (Nat.le_refl _))⟩
 exact ⟨Nat.le_trans (qD3 xs lo hi) hz,_,(r.drop (HT.sIx xs.length 0 lo)).take (HT.sIx xs.length xs.length hi-HT.sIx xs.length 0 lo),IsTup.new _ _⟩
noncomputable def rCatT (K:PySem.W.Frag):R2:=fun x y H Q=>∃ a b xs ys,x=.ref a∧y=.ref b∧SqT K H a xs∧SqT K H b ys∧xs≠[]∧xs.length+ys.length≤sizeLine ∧
 (ys=[]→Q (.ref a) H)∧(ys≠[]→∀ p,H p=none→Q (.ref p) (upd H p (.tup (xs++ys))))
theorem Vals.nil_iff {xs:List V} {us:List Value} (r:Vals xs us):us=[]↔xs=[]:=by
 cases r with
 | nil=>simp
 | cons _ _=>simp
theorem op_catT:OpR X (binaryOp .Add) (rCatT X.K):=by
 intro pins s σ H x y v u Q I rx ry h
 obtain ⟨a,b,xs,ys,rfl,rfl,ha,hb,hx,hz,q1,q2⟩:=h
 cases rx
 cases ry
 obtain ⟨its,r1,p1,_⟩:=I.tuple ha
 obtain ⟨its2,r2,p2,_⟩:=I.tuple hb
 refine HT.cat_tup p1 p2 (fun z=>hx (r1.nil_iff.mp z)) (fun z=>⟨.ref a,H,I,rfl,q1 (r2.nil_iff.mp z)⟩) (fun z=>?_) (by rw [← r1.length,← r2.length];exact hz)
 refine ⟨.ref s.heap.objs.size,_,I.laid (t':=s.toks) (o:=.tup (xs++ys)) (fun b ob q=>Heap.get?_push_of_some _ q) (Nat.le_refl _) ?_,rfl,q2 (fun w=>z (r2.nil_iff.mpr w)) _ (I.hok.fresh (Nat.le_refl _))⟩
 exact ⟨by rw [List.length_append];exact hz,_,r1.append r2,IsTup.new _ _⟩
end
end L2
namespace L2
open PySem PySem.Spec PyProof.Rows
noncomputable def ixN (n:Nat) (i:Int):Option Nat:=if 0≤i then (if i<n then some i.toNat else none) else if -(n:Int)≤i then some (i+n).toNat else none
noncomputable def atI {α:Type} (xs:List α) (i:Int):Option α:=(ixN xs.length i).bind fun j=>xs[j]?
theorem ixN_seq {n:Nat} {i:Int} {j:Nat} (h:ixN n i=some j):seqIndex? i n=some j∧j<n∧-(n:Int)≤i∧i<n:=by
 unfold ixN at h
 by_cases h0:0≤i
 ·rw [if_pos h0] at h
  by_cases h1:i<n
  ·rw [if_pos h1] at h
   have e:i.toNat=j:=Option.some.inj h
   exact ⟨by rw [seqIndex_of h0 h1,e],by omega,by omega,h1⟩
  ·rw [if_neg h1] at h;cases h
 ·rw [if_neg h0] at h
  by_cases h1:-(n:Int)≤i
  ·rw [if_pos h1] at h
   have e:(i+n).toNat=j:=Option.some.inj h
   exact ⟨by rw [seqIndex_neg (by omega) h1,e],by omega,h1,by omega⟩
  ·rw [if_neg h1] at h;cases h
theorem qGy {α:Type} {xs:List α} {i:Int} {v:α} (h:atI xs i=some v):∃ j,seqIndex? i xs.length=some j∧xs[j]?=some v∧j<xs.length∧-(xs.length:Int)≤i∧i<xs.length:=by
 unfold atI at h
 cases e:ixN xs.length i with
 | none=>rw [e] at h;cases h
 | some j =>
  rw [e] at h
  obtain ⟨h1,h2,h3,h4⟩:=ixN_seq e
  exact ⟨j,h1,h,h2,h3,h4⟩
noncomputable def PlainIx (b:Expr):Prop:=∀ o i,subscripted b false o i=operate [o,i] (getItem o i)
noncomputable def IxR (X:Cx) (r:R2):Prop :=
 ∀ (value slice:Expr) (pins:List (Addr × Obj)) (s:Shared) (σ:St) (H:Hp) (x y:V) (v u:Value) (Q:VK),Inv X pins σ H s→RelV x v→RelV y u→r x y H Q →
  subscripted slice false v u=operate [v,u] (getItem v u)→wpAny (model X.prog X.w) X.A (subscriptTail value slice v u) (EP X pins σ Q) X.xe s
noncomputable def MtR (X:Cx) (id:String) (r:V→List V→Hp→VK→Prop):Prop :=
 ∀ (pins:List (Addr × Obj)) (s:Shared) (σ:St) (H:Hp) (x:V) (xs:List V) (v:Value) (us:List Value) (Q:VK),Inv X pins σ H s→RelV x v→Vals xs us→r x xs H Q →
  wpAny (model X.prog X.w) X.A (call (.builtin id) (v::us)) (EP X pins σ Q) X.xe s
section
variable {X:Cx} {a b:Expr} {ta tb:TE} {pos:Pos}
theorem IxR.or {r r':R2} (h:IxR X r) (h':IxR X r'):IxR X (fun x y H Q=>r x y H Q∨r' x y H Q):=by
 intro value slice pins s σ H x y v u Q I rx ry q hs
 rcases q with q | q
 ·exact h value slice pins s σ H x y v u Q I rx ry q hs
 ·exact h' value slice pins s σ H x y v u Q I rx ry q hs
theorem MtR.or {id:String} {r r':V→List V→Hp→VK→Prop} (h:MtR X id r) (h':MtR X id r'):MtR X id (fun x xs H Q=>r x xs H Q∨r' x xs H Q):=by
 intro pins s σ H x xs v us Q I rx rs q
 rcases q with q | q
 ·exact h pins s σ H x xs v us Q I rx rs q
 ·exact h' pins s σ H x xs v us Q I rx rs q
theorem pe_ix {r:R2} (hr:IxR X r) (ha:PE X a ta) (hb:PE X b tb) (hs:PlainIx b):PE X (.Subscript a b pos) (tOp r ta tb):=by
 intro pins s σ H Q I h
 exact Subscript_ (binT ha hb I h fun v u s2 x y H2 I2 rx ry q=>hr a b pins s2 σ H2 x y v u Q I2 rx ry q (hs _ _))
noncomputable def rIxL (K:PySem.W.Frag):R2:=fun x y H Q=>∃ p xs i v,x=.ref p∧y=.int i∧SqL K H p xs∧atI xs i=some v∧Q v H
noncomputable def rIxT (K:PySem.W.Frag):R2:=fun x y H Q=>∃ p xs i v,x=.ref p∧y=.int i∧SqT K H p xs∧atI xs i=some v∧Q v H
noncomputable def rIxS:R2:=fun x y H Q=>∃ z i c,x=.str z∧y=.int i∧z.length≤sizeLine∧atI z.cps.toList i=some c∧Q (.str ⟨#[c]⟩) H
theorem ix_list:IxR X (rIxL X.K):=by
 intro value slice pins s σ H x y v u Q I rx ry h hs
 obtain ⟨p,xs,i,z,rfl,rfl,hq,he,q⟩:=h
 cases rx
 obtain ⟨t,rfl⟩:=ry
 obtain ⟨its,r,pl,hz⟩:=I.list hq
 obtain ⟨j,h1,h2,h3,h4,h5⟩:=qGy he
 obtain ⟨w,ew,rw'⟩:=r.get h2
 have hl:=r.length
 have hn:=qEb
 have fin:EP X pins σ Q w s:=⟨z,H,I,rw',q⟩
 by_cases h0:0≤i
 ·have hj:i.toNat=j:=by
   rw [seqIndex_of h0 h5] at h1
   exact Option.some.inj h1
  exact item_listR pl.isList h0 (by omega) (by rw [hj];simpa using ew) fin hs
 ·have hj:(i+(its.toArray.size:Int)).toNat=j:=by
   rw [seqIndex_neg (by omega) h4] at h1
   rw [List.size_toArray,← hl]
   exact Option.some.inj h1
  exact subscriptTail_builtinR (x:=w) pl.isList.typeIs slot_list_getitem.lookup
   (wpAny_getItem_list_neg (Q:=fun r s'=>r=w∧EP X pins σ Q r s') pl.isList (by omega) (by rw [List.size_toArray] <;> omega) (by omega) (by rw [hj];simpa using ew) ⟨rfl,fin⟩) hs
theorem ix_tup:IxR X (rIxT X.K):=by
 intro value slice pins s σ H x y v u Q I rx ry h hs
 obtain ⟨p,xs,i,z,rfl,rfl,hq,he,q⟩:=h
 cases rx
 obtain ⟨t,rfl⟩:=ry
 obtain ⟨its,r,pl,hz⟩:=I.tuple hq
 obtain ⟨j,h1,h2,h3,h4,h5⟩:=qGy he
 obtain ⟨w,ew,rw'⟩:=r.get h2
 have hl:=r.length
 have hn:=qEb
 have fin:EP X pins σ Q w s:=⟨z,H,I,rw',q⟩
 exact subscriptTail_builtinR (x:=w) pl.typeIs slot_tuple_getitem.lookup
  (getItem_tuple (j:=j) (Q:=fun r s'=>r=w∧EP X pins σ Q r s') pl (by omega) (by omega) (by rw [List.size_toArray,← hl];exact h1) (by simpa using ew) ⟨rfl,fin⟩) hs
theorem ix_str:IxR X rIxS:=by
 intro value slice pins s σ H x y v u Q I rx ry h hs
 obtain ⟨z,i,c,rfl,rfl,hz,he,q⟩:=h
 obtain ⟨t,rfl⟩:=rx
 obtain ⟨t',rfl⟩:=ry
 obtain ⟨j,h1,h2,h3,h4,h5⟩:=qGy he
 have hl:z.cps.toList.length=z.length:=by simp [Str.length]
 rw [hl] at h1 h4 h5
 have hn:=qEb
 exact tail_any (typeIs_str s z t) slot_str_getitem.lookup (getItem_str (c:=c) (by
  have e1:decide (i < -(2 ^ 63:Int))=false:=decide_eq_false (by omega)
  have e2:decide (i ≥ 2 ^ 63)=false:=decide_eq_false (by omega)
  rw [e1,e2,Bool.or_false]) (by rw [h1];simpa using h2) ⟨.str ⟨#[c]⟩,H,I.tok _,⟨_,rfl⟩,q⟩) hs
theorem qHm (its:List Value) (n j:Nat) (u:Value):Obj.mapSeq (·.setIfInBounds j u) { cls:=.type "list",data:=.seq its.toArray n }={ cls:=.type "list",data:=.seq (its.set j u).toArray n }:=by
 simp [Obj.mapSeq]
theorem Inv.lst {pins:List (Addr × Obj)} {σ:St} {H:Hp} {s:Shared} {p:Addr} {xs:List V} (I:Inv X pins σ H s) (h:H p=some (.lst xs)) :
    ∃ (its:List Value) (n:Nat),Vals xs its∧s.heap.get? p=some { cls:=.type "list",data:=.seq its.toArray n }∧xs.length≤sizeLine:=by
  obtain ⟨z,its,n,r,e⟩:=I.hok p _ h
  exact ⟨its,n,r,e,z⟩
theorem Inv.lstUpd {pins:List (Addr × Obj)} {σ:St} {H:Hp} {s:Shared} {p:Addr} {xs ys:List V} {its its':List Value} {n n':Nat} {f:Obj→Obj} (I:Inv X pins σ H s) (h:H p=some (.lst xs))
    (ho:s.heap.get? p=some { cls:=.type "list",data:=.seq its.toArray n }) (hf:f { cls:=.type "list",data:=.seq its.toArray n }={ cls:=.type "list",data:=.seq its'.toArray n' }) (r:Vals ys its') (hz:ys.length≤sizeLine) (t:Nat) :
    Inv X pins σ (upd H p (.lst ys)) { s with heap:=s.heap.update p f,toks:=t }:=by
  have e:(s.heap.update p f).get? p=some { cls:=.type "list",data:=.seq its'.toArray n' }:=by
    rw [Heap.get?_update_self f ho (by rw [hf] <;> rfl),hf]
  refine I.write (x:=p) (e:=p) (by rw [h];trivial) (.inl rfl) (fun b u hb q=>(Heap.get?_update_other _ _ (Ne.symm hb)).trans q) ⟨_,e⟩ ?_
  exact ⟨hz,its',n',r,e⟩
noncomputable def rSetL:V→V→V→Hp→(Hp→Prop)→Prop:=fun o i v H Q=>∃ p xs k j,o=.ref p∧i=.int k∧H p=some (.lst xs)∧ixN xs.length k=some j∧Q (upd H p (.lst (xs.set j v)))
theorem set_list:PSet X rSetL:=by
 intro pins s σ H o i v ov iv u Q I ro ri rv h
 obtain ⟨p,xs,k,j,rfl,rfl,hp,hj,q⟩:=h
 cases ro
 obtain ⟨t,rfl⟩:=ri
 obtain ⟨its,n,r,ho,hz⟩:=I.lst hp
 obtain ⟨h1,h2,h3,h4⟩:=ixN_seq hj
 have hl:=r.length
 have hn:=qEb
 have I':Inv X pins σ (upd H p (.lst (xs.set j v))) { s with heap:=s.heap.update p (Obj.mapSeq (·.setIfInBounds j u)) } :=
  I.lstUpd hp ho (qHm its n j u) (r.set rv j) (by rw [List.length_set];exact hz) s.toks
 by_cases h0:0≤k
 ·have hk:k.toNat=j:=by
   rw [seqIndex_of h0 h4] at h1
   exact Option.some.inj h1
  exact PySem.W.ki_setAt ho h0 (by omega) (by rw [List.size_toArray,← hl];exact h4) (by rw [hk];exact ⟨_,I',q⟩)
 ·have hk:(k+(its.toArray.size:Int)).toNat=j:=by
   rw [seqIndex_neg (by omega) h3] at h1
   rw [List.size_toArray,← hl]
   exact Option.some.inj h1
  exact PySem.W.ki_setBack ho (by omega) (by rw [List.size_toArray,← hl];exact h3) (by omega) (by rw [hk];exact ⟨_,I',q⟩)
theorem qFO (lo hi:Option Int) (n:Nat):(sliceBounds lo hi none n).1=((HT.sIx n 0 lo:Nat):Int)∧(sliceBounds lo hi none n).2.1=((HT.sIx n n hi:Nat):Int)∧(sliceBounds lo hi none n).2.2=1:=by
 refine ⟨?_,?_,rfl⟩
 ·cases lo with
  | none=>simp [sliceBounds,HT.sIx]
  | some i =>
   simp only [sliceBounds,HT.sIx,Option.getD_none,show (1:Int) > 0 by decide,if_true]
   by_cases h:i<0
   ·simp only [h,if_true] <;> omega
   ·simp only [h,if_false] <;> omega
 ·cases hi with
  | none=>simp [sliceBounds,HT.sIx]
  | some i =>
   simp only [sliceBounds,HT.sIx,Option.getD_none,show (1:Int) > 0 by decide,if_true]
   by_cases h:i<0
   ·simp only [h,if_true] <;> omega
   ·simp only [h,if_false] <;> omega
theorem qEn (its:List Value) (lo hi:Option Int):slicePick its.toArray lo hi none=((its.drop (HT.sIx its.length 0 lo)).take (HT.sIx its.length its.length hi-HT.sIx its.length 0 lo)).toArray:=by
 obtain ⟨h1,h2,h3⟩:=qFO lo hi its.toArray.size
 unfold slicePick
 rw [h1,h2,h3]
 simp only [sliceRange_one,pick_run,List.size_toArray] <;> rfl
noncomputable def rSlL (K:PySem.W.Frag):V→Option Int→Option Int→Hp→VK→Prop:=fun x lo hi H Q=>∃ a xs,x=.ref a∧SqL K H a xs∧∀ p,H p=none→Q (.ref p) (upd H p (.lst (cutV xs lo hi)))
theorem sl_list:SlR X (rSlL X.K):=by
 intro pins s σ H x v vl vu lo hi sl Q I rx hs pl pu h
 obtain ⟨a,xs,rfl,hx,q⟩:=h
 cases rx
 obtain ⟨its,r,ht,hz⟩:=I.list hx
 have hlen:=r.length
 refine ⟨"list",_,slot_list_getitem.lookup,ht.isList.typeIs,?_⟩
 refine wpAny_getItem_list_slice ht.isList hs pl pu .none (by simp) ?_ (by rw [List.size_toArray] <;> omega)
 rw [qEn,← hlen]
 refine ⟨.ref s.heap.objs.size,_,I.laid (t':=s.toks) (o:=.lst (cutV xs lo hi)) (fun b ob q=>Heap.get?_push_of_some _ q) (Nat.le_refl _) ?_,rfl,q _ (I.hok.fresh (Nat.le_refl _))⟩
 exact ⟨Nat.le_trans (qD3 xs lo hi) hz,_,0,(r.drop (HT.sIx xs.length 0 lo)).take (HT.sIx xs.length xs.length hi-HT.sIx xs.length 0 lo),Heap.get?_push_size _ rfl⟩
noncomputable def flatV:V→Bool
 | .non=>true
 | .bl _=>true
 | .int _=>true
 | .str _=>true
 | _=>false
noncomputable def eqV:V→V→Bool
 | .non,.non=>true
 | .bl a,.bl b=>a == b
 | .bl a,.int b=>(if a then 1 else 0) == b
 | .int a,.bl b=>a == (if b then 1 else 0)
 | .int a,.int b=>a == b
 | .str a,.str b=>a == b
 | _,_=>false
theorem qOz {A:Around} {s:Shared} {y x:V} {u v:Value} (ry:RelV y u) (rx:RelV x v) (fy:flatV y=true) (fx:flatV x=true):SeqAt.EqAt A s u v (eqV y x):=by
 cases y with
 | non =>
  cases ry
  cases x with
  | non=>cases rx;exact SeqAt.EqAt.same _
  | bl b=>cases rx;exact SeqAt.EqAt.none_bool b
  | int b=>obtain ⟨t,rfl⟩:=rx;exact SeqAt.EqAt.none_int b t
  | str b=>obtain ⟨t,rfl⟩:=rx;exact SeqAt.EqAt.none_str b t
  | _=>exact absurd (show false=true from fx) Bool.false_ne_true
 | bl a =>
  cases ry
  cases x with
  | non=>cases rx;exact SeqAt.EqAt.bool_none a
  | bl b=>cases rx;exact SeqAt.EqAt.bool_bool a b
  | int b=>obtain ⟨t,rfl⟩:=rx;exact SeqAt.EqAt.bool_int a b t
  | str b=>obtain ⟨t,rfl⟩:=rx;exact SeqAt.EqAt.bool_str a b t
  | _=>exact absurd (show false=true from fx) Bool.false_ne_true
 | int a =>
  obtain ⟨t',rfl⟩:=ry
  cases x with
  | non=>cases rx;exact SeqAt.EqAt.int_none a t'
  | bl b=>cases rx;exact SeqAt.EqAt.int_bool a t' b
  | int b=>obtain ⟨t,rfl⟩:=rx;exact SeqAt.EqAt.int_int a t' b t
  | str b=>obtain ⟨t,rfl⟩:=rx;exact SeqAt.EqAt.int_str a t' b t
  | _=>exact absurd (show false=true from fx) Bool.false_ne_true
 | str a =>
  obtain ⟨t',rfl⟩:=ry
  cases x with
  | non=>cases rx;exact SeqAt.EqAt.str_none a t'
  | bl b=>cases rx;exact SeqAt.EqAt.str_bool a t' b
  | int b=>obtain ⟨t,rfl⟩:=rx;exact SeqAt.EqAt.str_int a t' b t
  | str b=>obtain ⟨t,rfl⟩:=rx;exact SeqAt.EqAt.str_str a t' b t
  | _=>exact absurd (show false=true from fx) Bool.false_ne_true
 | _=>exact absurd (show false=true from fy) Bool.false_ne_true
noncomputable def eqU (x:V) (u:Value):Bool:=match u with
 | .none=>eqV .non x
 | .bool b=>eqV (.bl b) x
 | .int i _=>eqV (.int i) x
 | .str z _=>eqV (.str z) x
 | _=>false
theorem qLM {x y:V} {u:Value} (r:RelV y u) (f:flatV y=true):eqU x u=eqV y x:=by
 cases y with
 | non=>cases r;rfl
 | bl b=>cases r;rfl
 | int i=>obtain ⟨t,rfl⟩:=r;rfl
 | str z=>obtain ⟨t,rfl⟩:=r;rfl
 | _=>exact absurd (show false=true from f) Bool.false_ne_true
theorem qEF {x:V}:∀ {xs:List V} {us:List Value},Vals xs us→xs.all flatV=true→us.any (eqU x)=xs.any fun y=>eqV y x
 | _,_,.nil,_=>rfl
 | y::xs,u::us,.cons r t,f=>by
  rw [List.all_cons,Bool.and_eq_true] at f
  rw [List.any_cons,List.any_cons,qLM r f.1,qEF t f.2]
theorem qCn {A:Around} {s:Shared} {x:V} {v:Value} (rx:RelV x v) (fx:flatV x=true):∀ {xs:List V} {us:List Value},Vals xs us→xs.all flatV=true→∀ u∈us,SeqAt.EqAt A s u v (eqU x u)
 | _,_,.nil,_=>fun u hu=>by cases hu
 | y::xs,u::us,.cons r t,f=>fun u' hu=>by
  rw [List.all_cons,Bool.and_eq_true] at f
  rcases List.mem_cons.mp hu with rfl | hu
  ·rw [qLM r f.1];exact qOz r rx f.1 fx
  ·exact qCn rx fx t f.2 u' hu
noncomputable def inV (x:V) (xs:List V):Bool:=xs.any fun y=>eqV y x
noncomputable def rIn (K:PySem.W.Frag) (neg:Bool):R2:=fun x y H Q=>∃ p xs,y=.ref p∧(SqL K H p xs∨SqT K H p xs)∧flatV x=true∧xs.all flatV=true∧Q (.bl (if neg then !inV x xs else inV x xs)) H
theorem op_in_seq:OpR X (compareOp .In) (rIn X.K false):=by
 intro pins s σ H x y v u Q I rx ry h
 obtain ⟨p,xs,rfl,hq,fx,fs,q⟩:=h
 cases ry
 rcases hq with hq | hq
 ·obtain ⟨its,r,pl,hz⟩:=I.list hq
  refine SeqAt.in_listAt (eqU x) pl.isList (fun w hw=>qCn rx fx r fs w (by simpa using hw)) ⟨.bl _,H,I,rfl,?_⟩
  rw [show its.toArray.any (eqU x)=its.any (eqU x) by simp,qEF r fs]
  exact q
 ·obtain ⟨its,r,pl,hz⟩:=I.tuple hq
  refine SeqAt.in_tupleAt (eqU x) pl (fun w hw=>qCn rx fx r fs w (by simpa using hw)) ⟨.bl _,H,I,rfl,?_⟩
  rw [show its.toArray.any (eqU x)=its.any (eqU x) by simp,qEF r fs]
  exact q
theorem op_notIn_seq:OpR X (compareOp .NotIn) (rIn X.K true):=by
 intro pins s σ H x y v u Q I rx ry h
 obtain ⟨p,xs,rfl,hq,fx,fs,q⟩:=h
 cases ry
 rcases hq with hq | hq
 ·obtain ⟨its,r,pl,hz⟩:=I.list hq
  refine SeqAt.notIn_listAt (eqU x) pl.isList (fun w hw=>qCn rx fx r fs w (by simpa using hw)) ⟨.bl _,H,I,rfl,?_⟩
  rw [show its.toArray.any (eqU x)=its.any (eqU x) by simp,qEF r fs]
  exact q
 ·obtain ⟨its,r,pl,hz⟩:=I.tuple hq
  refine SeqAt.notIn_tupleAt (eqU x) pl (fun w hw=>qCn rx fx r fs w (by simpa using hw)) ⟨.bl _,H,I,rfl,?_⟩
  rw [show its.toArray.any (eqU x)=its.any (eqU x) by simp,qEF r fs]
  exact q
theorem CallR.or {f:Value} {r r':List V→Hp→VK→Prop} (h:CallR X f r) (h':CallR X f r'):CallR X f (fun xs H Q=>r xs H Q∨r' xs H Q):=by
 intro pins s σ H xs us Q I rs q
 rcases q with q | q
 ·exact h pins s σ H xs us Q I rs q
 ·exact h' pins s σ H xs us Q I rs q
theorem call_list_of:CallR X (.type "list") (fun xs H Q=>∃ p ys,xs=[.ref p]∧(SqL X.K H p ys∨SqT X.K H p ys)∧∀ l,H l=none→Q (.ref l) (upd H l (.lst ys))):=by
  intro pins s σ H xs us Q I r h
  obtain ⟨p,ys,rfl,hq,q⟩:=h
  obtain ⟨u,rfl,rx⟩:=vals1 r
  cases rx
  have fin:∀ (its:List Value),Vals ys its→ys.length≤sizeLine→∀ (h':Heap) (c':Nat),(∀ b o',s.heap.get? b=some o'→h'.get? b=some o') →
      h'.get? s.heap.objs.size=some { cls:=.type "list",dict:=none,data:=.seq its.toArray c',slots:=#[] }→EP X pins σ Q (.ref s.heap.objs.size) { s with heap:=h' }:=fun its r' hz h' c' kp e =>
    ⟨.ref s.heap.objs.size,_,I.laid (t':=s.toks) kp (Nat.le_refl _) (show ObjOk X.prog X.w _ h' _ (.lst ys) from ⟨hz,its,c',r',e⟩),rfl,q _ (I.hok.fresh (Nat.le_refl _))⟩
  rcases hq with hq | hq
  · obtain ⟨its,r',pl,hz⟩:=I.list hq
    have hlen:=r'.length
    obtain ⟨o,ho,hc,n,hd⟩:=pl.isList
    exact call_list_seq p (.inl rfl) ho hc hd (fun h' c' kp e=>fin its r' hz h' c' kp e) (by simp only [List.size_toArray] <;> omega)
  · obtain ⟨its,r',pl,hz⟩:=I.tuple hq
    have hlen:=r'.length
    obtain ⟨o,ho,hc,n,hd⟩:=pl
    exact call_list_seq p (.inr rfl) ho hc hd (fun h' c' kp e=>fin its r' hz h' c' kp e) (by simp only [List.size_toArray] <;> omega)
noncomputable def tyV (K:PySem.W.Frag) (T:String) (x:V) (H:Hp):Prop:=match x with
  | .str _=>T="str"
  | .int _=>T="int"
  | .ref p=>(T="list"∧∃ xs,SqL K H p xs)∨(T="tuple"∧∃ o,K.lookup p=some o∧o.cls=.type "tuple"∧o.dict=none) ∨
      (T="dict"∧((∃ kvs,H p=some (.dK kvs))∨∃ kvs,H p=some (.dT kvs)))∨(T="set"∧∃ S n,H p=some (.set S n))
  | _=>False
theorem qNb {pins:List (Addr × Obj)} {σ:St} {H:Hp} {s:Shared} {T:String} {x:V} {v:Value} (I:Inv X pins σ H s) (r:RelV x v) (ty:tyV X.K T x H) :
    s.TypeIs v T∧∀ a,v=.ref a→∃ ob,s.heap.get? a=some ob∧ob.dict=none:=by
  cases x with
  | str z =>
    obtain ⟨t,rfl⟩:=r
    cases (show T="str" from ty)
    exact ⟨typeIs_str s z t,fun _ e=>nomatch e⟩
  | int i =>
    obtain ⟨t,rfl⟩:=r
    cases (show T="int" from ty)
    exact ⟨typeIs_int s i t,fun _ e=>nomatch e⟩
  | ref p =>
    cases r
    rcases ty with ⟨rfl,xs,hq⟩ | ⟨rfl,o,hk,hc,hd⟩ | ⟨rfl,hk⟩ | ⟨rfl,S,n,hk⟩
    · obtain ⟨its,_,pl,_⟩:=I.list hq
      refine ⟨pl.isList.typeIs,fun a e=>?_⟩
      cases e
      obtain ⟨o,n,e,c,hd,_⟩:=pl
      exact ⟨o,e,hd⟩
    · refine ⟨⟨o,I.kIn p o hk,hc⟩,fun a e=>?_⟩
      cases e
      exact ⟨o,I.kIn _ o hk,hd⟩
    · have z:∃ o,s.heap.get? p=some o∧o.ExactDict:=by
        rcases hk with ⟨kvs,hk⟩ | ⟨kvs,hk⟩
        · obtain ⟨_,_,_,_,o,_,_,e,ex,_⟩:=I.hok p _ hk
          exact ⟨o,e,ex⟩
        · obtain ⟨_,_,_,_,o,_,_,e,ex,_⟩:=I.hok p _ hk
          exact ⟨o,e,ex⟩
      obtain ⟨o,e,ex⟩:=z
      refine ⟨⟨o,e,ex.1⟩,fun a e2=>?_⟩
      cases e2
      exact ⟨o,e,ex.2.1⟩
    · obtain ⟨o,_,_,_,e,ex,_⟩:=I.hok p _ hk
      refine ⟨⟨o,e,ex.1⟩,fun a e2=>?_⟩
      cases e2
      exact ⟨o,e,ex.2.1⟩
  | _=>exact False.elim ty
noncomputable def tBM (K:PySem.W.Frag) (T:String) (r:V→List V→Hp→VK→Prop) (to:TE) (t:TA):TE:=fun σ H Q=>to σ H fun x H1=>tyV K T x H1∧t σ H1 fun xs H2=>r x xs H2 Q
variable {o e:Expr} {es:List Expr} {to:TE} {t:TA} {name:Str} {apos cpos:Pos} {T id:String} {r:V→List V→Hp→VK→Prop}
theorem pe_bm (pa:PlainAttrs T) (slot:Slot T name id) (hty:typeOf (.builtin id)=pure (.type "method_descriptor")) (hm:MtR X id r) (ho:PE X o to) (ha:PA X (e::es) t)
    (hbase:attributeBase o name X.env (eval o X.env)=eval o X.env:=by rfl)
    (hfew:((backTo cpos (starEach (e::es) X.env)).all (fun x=>!x.1)&&(backToKw cpos (keywordEach [] X.env)).all (fun x=>x.1.isSome)
     &&decide ((e::es).length+([]:List Keyword).length+(if ([]:List Keyword).isEmpty then 0 else 1)<30))=true:=by rfl)
    (hline:(apos.endLine == cpos.line)=true:=by rfl) (hs:starEach (e::es) X.env=(false,eval e X.env)::starEach es X.env:=by rfl) (hplain:(backTo cpos (starEach es X.env)).any (·.1)=false:=by rfl) :
    PE X (.Call (.Attribute o name apos) (e::es) [] cpos) (tBM X.K T r to t):=by
  intro pins s σ H Q I h
  refine wpAny_Call_method_late hbase hfew hline rfl (thn (ho pins s σ H _ I h) fun v s1 ⟨x,H1,I1,r1,ty,q1⟩=>?_)
  obtain ⟨h1,h2⟩:=qNb I1 r1 ty
  refine ⟨T,id,pa,slot,hty,h1,h2,?_⟩
  have hA:=ha cpos pins s1 σ H1 _ I1 q1
  rw [hs] at hA ⊢
  refine Calls.callWith_builtin (by show (false || (backTo cpos (starEach es X.env)).any (·.1))=false;rw [hplain] <;> rfl) (Calls.evalArgs_plain ?_)
  exact thn hA fun us s2 ⟨vs,H2,I2,r2,q2⟩=>hm pins s2 σ H2 x vs v us Q I2 r1 r2 q2
end
end L2
namespace L2
open PySem PySem.Spec PyProof.Rows
noncomputable def MtM (X:Cx) (id:String) (r:V→List V→Hp→VK→Prop):Prop :=
 ∀ (pins:List (Addr × Obj)) (s:Shared) (σ:St) (H:Hp) (x:V) (xs:List V) (v:Value) (us:List Value) (Q:VK),Inv X pins σ H s→RelV x v→Vals xs us→r x xs H Q →
  wpAny (model X.prog X.w) X.A (call (.builtin id) (v::us)) (EP X pins σ Q) X.xe s
theorem Vals.one:∀ {x:V} {us:List Value},Vals [x] us→∃ u,us=[u]∧RelV x u
 | _,_,.cons r .nil=>⟨_,rfl,r⟩
theorem Vals.two:∀ {x y:V} {us:List Value},Vals [x,y] us→∃ u v,us=[u,v]∧RelV x u∧RelV y v
 | _,_,_,.cons r (.cons q .nil)=>⟨_,_,rfl,r,q⟩
theorem Vals.eraseIdx:∀ {xs:List V} {us:List Value} (i:Nat),Vals xs us→Vals (xs.eraseIdx i) (us.eraseIdx i)
 | _,_,_,.nil=>.nil
 | _,_,0,.cons _ t=>t
 | _,_,i+1,.cons r t=>.cons r (Vals.eraseIdx i t)
theorem Vals.reverse {xs:List V} {us:List Value} (h:Vals xs us):Vals xs.reverse us.reverse:=by
 induction h with
 | nil=>exact .nil
 | cons r t ih=>rw [List.reverse_cons,List.reverse_cons];exact Vals.append ih (.cons r .nil)
theorem qFl {α:Type}:∀ (l:List α) (i:Nat),(l.eraseIdx i).length≤l.length
 | [],_=>Nat.le_refl _
 | _::_,0=>Nat.le_succ _
 | _::r,i+1=>Nat.succ_le_succ (qFl r i)
section
variable {X:Cx} {pins:List (Addr × Obj)} {σ:St} {H:Hp} {s:Shared} {l b:Addr} {xs ys zs:List V}
theorem Inv.lset {its its':List Value} {n:Nat} {f:Array Value→Array Value} {t':Nat} (I:Inv X pins σ H s) (hH:H l=some (.lst xs))
    (e:s.heap.get? l=some { cls:=.type "list",data:=.seq its.toArray n }) (hf:f its.toArray=its'.toArray) (hv:Vals ys its') (hz:ys.length≤sizeLine) :
    Inv X pins σ (upd H l (.lst ys)) { s with heap:=s.heap.update l (Obj.mapSeq f),toks:=t' }:=by
  have q:=PySem.IsL.update e f
  rw [hf] at q
  refine I.write (x:=l) (e:=l) (by rw [hH];exact trivial) (.inl rfl) (fun b' u hb hu=>(Heap.get?_update_other s.heap (Obj.mapSeq f) (Ne.symm hb)).trans hu) ⟨_,q⟩ ?_
  exact ⟨hz,its',_,hv,q⟩
theorem Inv.lnew {its:List Value} {t':Nat} (I:Inv X pins σ H s) (hv:Vals ys its) (hz:ys.length≤sizeLine) :
    Inv X pins σ (upd H s.heap.objs.size (.lst ys)) { s with heap:=s.heap.push { cls:=.type "list",data:=.seq its.toArray },toks:=t' } :=
  I.laid (fun _ _ q=>Heap.get?_push_of_some _ q) (Nat.le_refl _) ⟨hz,its,0,hv,Heap.get?_push_size _ rfl⟩
theorem Inv.fresh (I:Inv X pins σ H s):H s.heap.objs.size=none:=I.hok.fresh (Nat.le_refl _)
theorem Inv.lstM (I:Inv X pins σ H s) (hH:H l=some (.lst xs)):xs.length≤sizeLine∧∃ (its:List Value) (n:Nat),Vals xs its∧xs.length=its.length∧s.heap.get? l=some { cls:=.type "list",data:=.seq its.toArray n }:=by
 obtain ⟨z,its,n,r,e⟩:=I.hok l _ hH
 exact ⟨z,its,n,r,r.length,e⟩
end
section
variable {X:Cx}
noncomputable def qLs:V→List V→Hp→VK→Prop:=fun x vs H Q=>∃ l xs y,x=.ref l∧vs=[y]∧H l=some (.lst xs)∧xs.length<sizeLine∧Q .non (upd H l (.lst (xs++[y])))
theorem mt_append:MtM X "list.append" qLs:=by
 intro pins s σ H x vs v us Q I rx rv h
 obtain ⟨l,xs,y,rfl,rfl,hH,hz,q⟩:=h
 cases rx
 obtain ⟨u,rfl,ru⟩:=rv.one
 obtain ⟨z,its,n,r,hl,e⟩:=I.lstM hH
 refine call_meets F.slot_list_append ⟨_,e,rfl⟩ F.entry_list_append (F.args_list_append_2 _ _) (PySem.list_append l its.toArray n u (by rw [List.size_toArray];omega)) ⟨e,?_⟩
 refine ⟨.non,_,I.lset (its':=its++[u]) hH e (by simp) (r.append (.cons ru .nil)) ?_,rfl,q⟩
 rw [List.length_append,List.length_singleton]
 omega
noncomputable def qNz:V→List V→Hp→VK→Prop:=fun x vs H Q=>∃ l xs i k y,x=.ref l∧vs=[.int i]∧H l=some (.lst xs)∧-(2 ^ 63)≤i∧i<2 ^ 63∧seqIndex? i xs.length=some k∧xs[k]?=some y∧Q y (upd H l (.lst (xs.eraseIdx k)))
theorem mt_popAt:MtM X "list.pop" qNz:=by
 intro pins s σ H x vs v us Q I rx rv h
 obtain ⟨l,xs,i,k,y,rfl,rfl,hH,h1,h2,hk,hy,q⟩:=h
 cases rx
 obtain ⟨u,rfl,ru⟩:=rv.one
 obtain ⟨t,rfl⟩:=ru
 obtain ⟨z,its,n,r,hl,e⟩:=I.lstM hH
 obtain ⟨w,hw,rw'⟩:=r.get hy
 refine call_meets F.slot_list_pop ⟨_,e,rfl⟩ F.entry_list_pop (F.args_list_pop_2 _ _)
  (MeetsSeq.list_pop_at l its.toArray n i t k w (fitsIndex_both h1 h2) (by rw [List.size_toArray,← hl];exact hk) (by rw [← Array.getElem?_toList];exact hw) (by rw [List.size_toArray];omega)) ⟨e,?_⟩
 refine ⟨y,_,I.lset (its':=its.eraseIdx k) hH e ?_ (r.eraseIdx k) ?_,rw',q⟩
 ·show its.toArray.eraseIdxIfInBounds k=(its.eraseIdx k).toArray
  rw [List.eraseIdxIfInBounds_toArray]
 ·have:=qFl xs k
  omega
noncomputable def rCat:R2:=fun x y H Q=>∃ l b xs zs,x=.ref l∧y=.ref b∧H l=some (.lst xs)∧H b=some (.lst zs)∧xs.length+zs.length≤sizeLine∧∀ p,H p=none→Q (.ref p) (upd H p (.lst (xs++zs)))
theorem op_cat:OpR X (binaryOp .Add) rCat:=by
 intro pins s σ H x y v u Q I rx ry h
 obtain ⟨l,b,xs,zs,rfl,rfl,hH,hB,hz,q⟩:=h
 cases rx
 cases ry
 obtain ⟨z,its,n,r,hl,e⟩:=I.lstM hH
 obtain ⟨z2,its2,n2,r2,hl2,e2⟩:=I.lstM hB
 refine PySem.P.add_list e e2 ?_ (by rw [List.size_toArray,List.size_toArray];omega)
 have ea:its.toArray++its2.toArray=(its++its2).toArray:=by simp
 rw [ea]
 exact ⟨.ref _,_,I.lnew (t':=s.toks) (r.append r2) (by rw [List.length_append];omega),rfl,q _ I.fresh⟩
end
section
variable {prog:Program} {w:World} {A:Around} {E:Value→Shared→Prop} {s:Shared}
end
section
variable {X:Cx}
end
end L2
namespace Att
open PySem PySem.W PySem.Calls PyProof.Rows
theorem qDz {P:Params} {h:Heap}:∀ (ns:List Int) (vs:List Value),WellAll P h vs (ns.map WData.int)→IntsAre vs ns:=by
 intro ns
 induction ns with
 | nil =>
  intro vs w
  rw [List.map_nil] at w
  cases w
  exact .nil
 | cons n ns ih =>
  intro vs w
  rw [List.map_cons] at w
  cases w with
  | cons a b =>
   cases a
   exact .cons _ _ (ih _ b)
theorem qIT {l:OpenLaw} {n:Nat} (hn:l.most=some n) {P:Params} {h:Heap} {args:List WData} {vals:List Value}
    (hpre:l.row.toRowW.claim.pre args=true) (hwl:WellAll P h vals args) :
    ∃ a vs ns,vals=[Value.ref a]∧args=[WData.list (ns.map WData.int)]∧h.get? a=some { cls:=.type "list",data:=.seq vs.toArray }∧IntsAre vs ns∧ns.length≤n:=by
  have hsh:WShape.hasAll [] args [.list .int]=true:=(pre_splitW hpre).1
  have hc:l.pre.holds [] { args:=args }=true:=(pre_splitW hpre).2
  obtain ⟨d,r,rfl,h1,h2⟩:=hasAllW_cons hsh
  obtain rfl:=hasAllW_nil h2
  obtain ⟨xs,rfl,h3⟩:=hasW_list h1
  obtain ⟨ns,rfl⟩:=items_int h3
  have hlen:ns.length≤n:=by
    unfold OpenLaw.pre at hc
    have h4:(WTm.not (.lt (.lit (.int (n:Int))) (.len (.arg 0)))).holds [] { args:=[.list (ns.map .int)] }=true:=by
      have h4:=(holds_andW hc).1
      rw [hn] at h4
      exact h4
    have h5:=condW_of h4 (w_not (w_lt w_lit (w_len_list (w_arg rfl))))
    rw [List.length_map] at h5
    refine Nat.le_of_not_lt fun q=>?_
    have q':(n:Int)<((ns.length:Nat):Int):=by omega
    first
      | (rw [decide_eq_true q'] at h5;exact absurd h5 (by decide))
      | (simp at h5;omega)
  cases hwl with
  | cons w1 w2 =>
    cases w2
    cases w1 with
    | list ho hall=>exact ⟨_,_,ns,rfl,rfl,ho,qDz ns _ hall,hlen⟩
theorem qIa (l:OpenLaw) (args:List WData):l.row.toRowW.claim.post args (.bool true) args=true :=
 postW_of (r:=l.row.toRowW) (X:=(true == true))
  (show WShape.has [] (.bool true) .bool=true by first | rfl | decide | simp [WShape.has,WShape.arms,WShape.armsAll])
  (show (WTm.eq .res (.lit (.bool true))).value [] { args:=args,res:=some (.bool true),after:=args }=some (.bool (true == true)) from w_eq_bool (w_res rfl) w_lit) rfl
theorem attach_call {l:OpenLaw} {n:Nat} {q:Program} {loose:List Str} {XP:(Str→Option Value)→Heap→Prop} {YP:World→Heap→Prop} {d:DefRec}
    (hn:l.most=some n) (hdf:d.params.defaults=[])
    (call:∀ (w:World) (s₀ s₁:Shared) (mg mb:Str→Option Value) (fa:Addr) (o:Obj) (pm cd doc:Value) (a:Addr) (vs:List Value) (ns:List Int),
      Ground q loose [] XP w s₀ mg mb s₁.heap→YP w s₁.heap →
      s₁.heap.get? fa=some o→o.data=.func (docDef d.name d.params d.body d.scope pm cd doc)→s₁.heap.CodeRec cd d.name→mg d.name=some (.ref fa) →
      s₁.heap.get? a=some { cls:=.type "list",data:=.seq vs.toArray }→IntsAre vs ns→ns.length≤n→s₁.gens=#[] →
      codeAny (model l.prog w) callerA (.call (.ref fa) ⟨[.ref a],[]⟩) (fun r s'=>r=.ok (.ret (.bool true))∧OldK s₁.heap s'.heap∧s'.os=s₁.os∧AllBare s'.gens) s₁) :
    WalkO q loose XP YP l.row.toRowW d [] (fun f vs=>PySem.call f vs):=by
  intro w s₀ s₁ mg mb G Y fa o pm cd doc dV kV ho hd hcd hD hmg hg args vals as hpre hlay hrd hwl hlo
  obtain rfl:dV=.none:=Dflts.none hD hdf
  obtain rfl:kV=.none:=Dflts.noKw hD
  obtain ⟨a,vs,ns,rfl,rfl,hobj,hints,hlen⟩:=qIT hn hpre hwl
  refine enter_call (codeAny_mono (call w s₀ s₁ mg mb fa o pm cd doc a vs ns G Y ho (fd_plain hd) hcd hmg hobj hints hlen hg) fun r s' hq=>?_)
  obtain ⟨rfl,h2,h3,h4⟩:=hq
  exact ⟨.inl ⟨.bool true,.bool true,[],rfl,fun _=>rfl,.bool true,qIa l _,fun _=>⟨List.Pairwise.nil,fun _ hm=>(nomatch hm)⟩⟩,h2,h3,h4⟩
section
variable {prog:Program} {w:World} {A:Around} {E:Value→Shared→Prop} {s:Shared} {K:Frag}
noncomputable def qPQ (h:Heap) (L d:Addr):List (Addr × Obj):=(List.range h.objs.size).filterMap fun a=>if a=L∨a=d then none else (h.get? a).map fun o=>(a,o)
end
end Att
namespace L2
open PySem PySem.Spec PyProof.Rows
theorem vals_ints:∀ {vs:List Value} {ns:List Int},IntsAre vs ns→Vals (ns.map V.int) vs
 | _,_,.nil=>.nil
 | _,_,.cons n t h=>.cons ⟨t,rfl⟩ (vals_ints h)
noncomputable def Only (H:Hp):Prop:=∀ b,H b=none∨∃ o xs,H b=some (.frz o (.lst xs))
theorem qKX {P:Program} {w:World} {K:PySem.W.Frag} {mg mb:Str→Option Value} {CX:CXT} {k:Nat} {fa a:Addr} {fd:FuncData} {x:Str} {sp:Sp} {s₁:Shared} {vs:List Value} {ns:List Int}
    (KX:K.In s₁.heap) (hns:s₁.heap.Ns mainGlobals mg) (hb:s₁.heap.Ns builtinsNs mb) (hbb:∀ x:Str,x≠"__name__"→mb x=bootBuiltins x) (hlim:s₁.heap.NoLimit) (hg:s₁.gens=#[])
    (ha:s₁.heap.get? a=some { cls:=.type "list",data:=.seq vs.toArray }) (hi:IntsAre vs ns) (hl:ns.length≤sizeLine) (hr:Room k callerA)
    (F:∀ base:Heap,K.In base→base.Ns mainGlobals mg→FnOk P w K mg base CX k fa fd [x] sp) (hbind:∀ (s:Shared) (u:Value),BindsTo s fd ⟨[u],[]⟩ [(x,u)])
    (hsp:∀ H:Hp,Only H→SqL K H a (ns.map V.int)→sp [.ref a] H (fun v _=>v=.bl true) fun _ _ _=>False)
    (hCX:∀ H e s',CX [] H s₁ (fun _ _ _=>False) e s'→False) :
    codeAny (model P w) callerA (.call (.ref fa) ⟨[.ref a],[]⟩) (fun r s'=>r=.ok (.ret (.bool true))∧OldK s₁.heap s'.heap∧s'.os=s₁.os∧AllBare s'.gens) s₁:=by
  have rv:=vals_ints hi
  have lenV:=hi.length
  have core:∀ H:Hp,Only H→SqL K H a (ns.map V.int)→HOk P w H s₁.heap→(∀ b,H b≠none→b=a)→(H a≠none→K.lookup a=none) →
      codeAny (model P w) callerA (.call (.ref fa) ⟨[.ref a],[]⟩) (fun r s'=>r=.ok (.ret (.bool true))∧OldK s₁.heap s'.heap∧s'.os=s₁.os∧AllBare s'.gens) s₁:=by
    intro H hO hS hok hA hK
    have base_of:∀ {b:Addr} {o:Obj},s₁.heap.get? b=some o→H b=none→(hidT s₁.heap H).get? b=some o:=fun e n=>qKa e n
    have noA:∀ {b:Addr} {o:Obj} {es:Array DictEntry} {ep:Nat},s₁.heap.get? b=some o→o.data=.dict es ep→H b=none:=fun {b o es ep} e d=>by
      cases q:H b with
      | none=>rfl
      | some u =>
        have e':b=a:=hA b (by rw [q];simp)
        subst e'
        rw [ha] at e;cases e
        have d':Data.seq vs.toArray _=Data.dict es ep:=d
        cases d'
    have nsK:∀ {b:Addr} {m:Str→Option Value},s₁.heap.Ns b m→(hidT s₁.heap H).Ns b m:=fun {b m} ⟨o,es,ep,e,d,r⟩=>⟨o,es,ep,base_of e (noA e d),d,r⟩
    have hKb:K.In (hidT s₁.heap H):=fun b o e=>base_of (KX b o e) (by
      cases q:H b with
      | none=>rfl
      | some u =>
        have e':b=a:=hA b (by rw [q];simp)
        subst e'
        rw [hK (by rw [q];simp)] at e;cases e)
    have hM:Mod K mg (hidT s₁.heap H):=⟨hKb,nsK hns,⟨mb,nsK hb,hbb⟩,let ⟨mc,h1,h2⟩:=hlim;⟨mc,nsK h1,h2⟩⟩
    have e0:Env0 P w K mg (hidT s₁.heap H) callerA [] s₁ H:=⟨rfl,hM,fun b o e=>qLz e,Nat.le_of_eq (qJK _ _),trivial,fun b hb=>absurd (show b∈([]:List Addr) from hb) (by simp),hok,.of_eq hg⟩
    refine codeAny_mono ((F _ hKb (nsK hns)).run callerA [] s₁ H ⟨[.ref a],[]⟩ [.ref a] [.ref a] _ _ hr e0 (hbind s₁ (.ref a)) (.cons rfl .nil) (hsp H hO hS)) fun r s' h=>?_
    cases r with
    | error e=>exact (hCX H e s' h).elim
    | ok fl =>
      cases fl with
      | next=>exact False.elim h
      | brk=>exact False.elim h
      | cont=>exact False.elim h
      | ret u =>
        obtain ⟨v,H',os,bare,un,hok',r',q⟩:=h
        have q':v=.bl true:=q
        subst q'
        obtain rfl:u=Value.bool true:=r'
        refine ⟨rfl,OldK.of_keep fun b o e=>?_,os,bare⟩
        cases q:H b with
        | none=>exact un.keep b o e q (by intro z;exact absurd (show b∈([]:List Addr) from z) (by simp)) (by simp)
        | some u =>
          rcases hO b with z | ⟨ob,xs,z⟩
          · rw [q] at z;cases z
          · have z2:=un.frzs b ob _ z
            obtain ⟨e1,_⟩:=hok b _ z
            obtain ⟨e2,_⟩:=hok' b _ z2
            rw [e] at e1;cases e1
            exact e2
  cases hk:K.lookup a with
  | some o =>
    have e:=KX a o hk
    rw [ha] at e
    cases e
    refine core (fun _=>none) (fun _=>.inl rfl) (.inr ⟨_,vs.toArray,_,hk,rfl,rfl,rfl,by rw [List.size_toArray,lenV];exact hl,by simpa using rv⟩) (fun b u z=>by have z':(none:Option HO)=some u:=z;cases z') (fun b z=>absurd rfl z) fun z=>absurd rfl z
  | none =>
    refine core (fun b=>if b=a then some (.frz { cls:=.type "list",data:=.seq vs.toArray } (.lst (ns.map V.int))) else none) (fun b=>?_) (.inl (.inr ⟨{ cls:=.type "list",data:=.seq vs.toArray },if_pos rfl⟩)) (fun b u z=>?_) (fun b z=>?_) fun _=>hk
    · by_cases hb:b=a
      · exact .inr ⟨_,_,if_pos hb⟩
      · exact .inl (if_neg hb)
    · by_cases hb:b=a
      · have z':=(if_pos hb).symm.trans z
        cases z'
        subst hb
        exact ⟨ha,by rw [List.length_map];exact hl,vs,_,rv,ha⟩
      · have z':=(if_neg hb).symm.trans z
        cases z'
    · by_cases hb:b=a
      · exact hb
      · exact absurd (if_neg hb) z
end L2
namespace L2
open PySem PySem.Spec PyProof.Rows
noncomputable abbrev KOf {K:PySem.W.Frag} {h:Heap} (_:K.In h):PySem.W.Frag:=K
theorem walk_of {l:PySem.W.OpenLaw} {n k:Nat} {q:Program} {loose:List Str} {XP:(Str→Option Value)→Heap→Prop} {YP:World→Heap→Prop} {d:DefRec} {K:Params→PySem.W.Frag} {CX:World→CXT} {sp:World→Sp} {x:Str}
    (hn:l.most=some n) (hn2:n≤sizeLine) (hdf:d.params.defaults=[]) (hr:Room k callerA)
    (hY:∀ (w:World) (h:Heap),YP w h→(K w.params).In h)
    (F:∀ (w:World) (mg:Str→Option Value) (fa:Addr) (h:Heap),(K w.params).In h→h.Ns mainGlobals mg→mg d.name=some (.ref fa) →
      ∃ fd:FuncData,(∀ (s:Shared) (u:Value),BindsTo s fd ⟨[u],[]⟩ [(x,u)]) ∧
        ∀ base:Heap,(K w.params).In base→base.Ns mainGlobals mg→FnOk l.prog w (K w.params) mg base (CX w) k fa fd [x] (sp w))
    (hsp:∀ (w:World) (H:Hp) (a:Addr) (ns:List Int),ns.length≤n→Only H→SqL (K w.params) H a (ns.map V.int)→sp w [.ref a] H (fun v _=>v=.bl true) fun _ _ _=>False)
    (hCX:∀ (w:World) (H:Hp) (s:Shared) (e:Value) (s':Shared),CX w [] H s (fun _ _ _=>False) e s'→False) :
    PySem.W.WalkO q loose XP YP l.row.toRowW d [] (fun f vs=>PySem.call f vs):=by
  refine Att.attach_call hn hdf fun w s₀ s₁ mg mb fa o pm cd doc a vs ns G Y ho hd hcd hmg hobj hints hlen hg=>?_
  have KX:=hY w _ Y
  obtain ⟨fd,hb,hF⟩:=F w mg fa _ KX G.T.g hmg
  exact qKX KX G.T.g G.T.b G.T.builtins G.T.nolimit hg hobj hints (Nat.le_trans hlen hn2) hr hF hb (fun H hO hS=>hsp w H a ns hlen hO hS) fun H e s'=>hCX w H s₁ e s'
end L2
namespace L2
open PySem PySem.Spec PyProof.Rows
noncomputable def defArgs (s:Stmt):Arguments:=match s with
 | .FunctionDef _ a _ _ _ _ _ _ _ _=>a
 | _=>{ posonlyargs:=[],args:=[],vararg:=none,kwonlyargs:=[],kw_defaults:=[],kwarg:=none,defaults:=[] }
noncomputable def defBody (s:Stmt):List Stmt:=match s with
 | .FunctionDef _ _ b _ _ _ _ _ _ _=>b
 | _=>[]
noncomputable def defScope (s:Stmt):Scope:=match s with
 | .FunctionDef _ _ _ _ _ _ sc _ _ _=>sc
 | _=>{ kind:=.function,names:=[],isGenerator:=false,isCoroutine:=false }
noncomputable abbrev CX0:CXT:=fun _ _ _ _ _ _=>False
structure Fun (K:PySem.W.Frag) (x qual:Str) (st:Stmt) (f:Addr) (fd:FuncData):Prop where
 ex:∃ (oc:Value) (od:Option Addr) (kV doc pm:Value) (an:Option Addr) (cdv ct:Value) (osl:Array (Option Value)),
  fd=PySem.W.fnOf x qual (defArgs st) (defBody st) (defScope st) .none kV doc pm an cdv ct∧K.lookup f=some ⟨oc,od,.func fd,osl⟩∧PySem.W.codeIn K cdv qual=true
 kp:PySem.W.keepIn K (.ref f)=true
section
variable {P:Program} {w:World} {K:PySem.W.Frag} {mg:Str→Option Value} {base:Heap}
theorem Fun.ok {x qual:Str} {st:Stmt} {f:Addr} {fd:FuncData} {N ps:List Str} {k:Nat} {sp:Sp} (F:Fun K x qual st f fd) (S:FnScope N ps (defScope st)) (len:∀ vs H Q E,sp vs H Q E→vs.length=ps.length)
    (hbody:∀ (cdv:Value) (A:Around) (outer:List Env) (s:Shared) (H:Hp) (vs:List V) (Q:VK) (E:XK),Room k (A.deeper (envOfC qual (defScope st) s.heap.objs.size f cdv))→sp vs H Q E →
      ∃ t,PSs (cxOf CX0 P w K mg base N qual (defScope st) f cdv A outer s H E).nox (defBody st) t∧t { nx:=fun _ H'=>Q .non H',rt:=Q } (start N vs) H):FnOk P w K mg base CX0 (k+1) f fd ps sp:=by
  obtain ⟨oc,od,kV,doc,pm,an,cdv,ct,osl,rfl,lk,hcd⟩:=F.ex
  refine fn_of lk hcd S len fun A outer s H vs Q E hr hsp=>?_
  obtain ⟨t,h,q⟩:=hbody cdv A outer s H vs Q E hr hsp
  exact ⟨t,h.nox,q⟩
theorem Fun.binds {x qual:Str} {st:Stmt} {f:Addr} {fd:FuncData} {ps:List Str} (F:Fun K x qual st f fd)
    (h:∀ (kV doc pm:Value) (an:Option Addr) (cdv ct:Value) (us:List Value),us.length=ps.length→bindArgs (PySem.W.fnOf x qual (defArgs st) (defBody st) (defScope st) .none kV doc pm an cdv ct) ⟨us,[]⟩=pure (ps.zip us)):Binds K fd ps []:=by
  obtain ⟨oc,od,kV,doc,pm,an,cdv,ct,osl,rfl,lk,hcd⟩:=F.ex
  exact .all (h kV doc pm an cdv ct)
theorem fun_mk {x qual:Str} {st:Stmt} {f:Addr} {oc:Value} {od an:Option Addr} {osl:Array (Option Value)} {kV doc pm cdv ct:Value} (l:K.lookup f=some ⟨oc,od,.func (PySem.W.fnOf x qual (defArgs st) (defBody st) (defScope st) .none kV doc pm an cdv ct),osl⟩)
    (c:PySem.W.codeIn K cdv qual=true) (k:PySem.W.keepIn K (.ref f)=true):Fun K x qual st f (PySem.W.fnOf x qual (defArgs st) (defBody st) (defScope st) .none kV doc pm an cdv ct):=⟨⟨oc,od,kV,doc,pm,an,cdv,ct,osl,rfl,l,c⟩,k⟩
end
section
variable {X:Cx}
theorem pv (i:Nat) {x:Str} {pos:Pos} (hN:X.N[i]?=some x:=by rfl) (hv:Vis X.env.scope x:=by first | exact Or.inl rfl | exact Or.inr (Or.inl rfl) | exact Or.inr (Or.inr rfl)) (hd:(x == ("__debug__":Str))=false:=by decide)
    (hcd:(x == ("__classdict__":Str))=false:=by decide):PE X (.Name x pos) (tVar i):=pe_var hN hv hd hcd
end
theorem iteF {A B:Prop} (h:B):if false=true then A else B:=by
 rw [if_neg Bool.false_ne_true]
 exact h
theorem iteT {A B:Prop} (h:A):if true=true then A else B:=by
 rw [if_pos rfl]
 exact h
noncomputable def Same (H H':Hp):Prop:=∀ b o,H b=some o→H' b=some o
theorem Same.refl (H:Hp):Same H H:=fun _ _ h=>h
theorem Same.trans {H H1 H2:Hp} (a:Same H H1) (b:Same H1 H2):Same H H2:=fun c o h=>b c o (a c o h)
theorem Same.free {H H':Hp} (e:Same H H') {l:Addr} (h:H' l=Option.none):H l=Option.none:=by
 cases q:H l with
 | none=>rfl
 | some o =>
  rw [e l o q] at h
  cases h
theorem Same.seq {K:PySem.W.Frag} {H H':Hp} {a:Addr} {xs:List V} (e:Same H H') (h:SqL K H a xs):SqL K H' a xs:=by
 rcases h with (h | ⟨o,h⟩) | h
 ·exact .inl (.inl (e _ _ h))
 ·exact .inl (.inr ⟨o,e _ _ h⟩)
 ·exact .inr h
end L2
namespace L2
open PySem PySem.Spec PyProof.Rows
section
variable {κ:Type} [DecidableEq κ]
noncomputable def valV (kvs:List (κ × V)) (k:κ):Option V:=(kvs.find? fun kv=>decide (kv.1=k)).map (·.2)
noncomputable def putK (kvs:List (κ × V)) (k:κ) (v:V):List (κ × V) :=
 if (kvs.any fun kv=>decide (kv.1=k))=true then kvs.map (fun kv=>if kv.1=k then (kv.1,v) else kv) else kvs++[(k,v)]
noncomputable def dropK (kvs:List (κ × V)) (k:κ):List (κ × V):=kvs.filter fun kv=>decide (kv.1≠k)
theorem valV_pos {p:κ × V} {r:List (κ × V)} {k:κ} (e:p.1=k):valV (p::r) k=some p.2:=by simp [valV,List.find?_cons,e]
theorem valV_neg {p:κ × V} {r:List (κ × V)} {k:κ} (e:¬ p.1=k):valV (p::r) k=valV r k:=by simp [valV,List.find?_cons,e]
theorem qG2 (k:κ):∀ kvs:List (κ × V),(kvs.any fun kv=>decide (kv.1=k))=(valV kvs k).isSome
 | []=>rfl
 | p::r=>by
  rw [List.any_cons]
  by_cases e:p.1=k
  ·simp only [valV_pos e,decide_eq_true e,Bool.true_or,Option.isSome_some]
  ·rw [valV_neg e,decide_eq_false e,Bool.false_or];exact qG2 k r
theorem length_putK (kvs:List (κ × V)) (k:κ) (v:V):(putK kvs k v).length≤kvs.length+1:=by
 unfold putK
 split
 ·rw [List.length_map];omega
 ·rw [List.length_append,List.length_cons,List.length_nil];omega
theorem RelO.isSome_eq {o:Option V} {u:Option Value} (r:RelO o u):o.isSome=u.isSome:=by
 cases o with
 | none=>cases u with
  | none=>rfl
  | some _=>exact (show False from r).elim
 | some _=>cases u with
  | none=>exact (show False from r).elim
  | some _=>rfl
theorem RelO.getD {o:Option V} {u:Option Value} {d:V} {d':Value} (r:RelO o u) (rd:RelV d d'):RelV (o.getD d) (u.getD d'):=by
 cases o with
 | none=>cases u with
  | none=>exact rd
  | some _=>exact (show False from r).elim
 | some _=>cases u with
  | none=>exact (show False from r).elim
  | some _=>exact r
theorem KV.val {kvs:List (κ × V)} {vs:List (κ × Value)} (r:KV kvs vs) (k:κ):RelO (valV kvs k) (valueAt vs k):=by
 unfold KV at r
 induction r with
 | nil=>exact True.intro
 | @cons p q ps qs h t ih =>
  obtain ⟨h1,h2⟩:=h
  by_cases e:p.1=k
  ·have e':q.1=k:=h1.symm.trans e
   have b:valueAt (q::qs) k=some q.2:=by simp [valueAt,List.find?_cons,e']
   rw [valV_pos e,b];exact h2
  ·have e':¬ q.1=k:=fun z=>e (h1.trans z)
   have b:valueAt (q::qs) k=valueAt qs k:=by simp [valueAt,List.find?_cons,e']
   rw [valV_neg e,b];exact ih
theorem KV.any {kvs:List (κ × V)} {vs:List (κ × Value)} (r:KV kvs vs) (k:κ):(kvs.any fun kv=>decide (kv.1=k))=vs.any fun kv=>decide (kv.1=k):=by
 unfold KV at r
 induction r with
 | nil=>rfl
 | cons h t ih=>rw [List.any_cons,List.any_cons,ih,h.1]
theorem KV.repl {kvs:List (κ × V)} {vs:List (κ × Value)} (r:KV kvs vs) (k:κ) {y:V} {u:Value} (ry:RelV y u) :
    KV (kvs.map fun kv=>if kv.1=k then (kv.1,y) else kv) (vs.map fun kv=>if kv.1=k then (kv.1,u) else kv):=by
  unfold KV at r ⊢
  induction r with
  | nil=>exact .nil
  | @cons p q ps qs h t ih =>
    rw [List.map_cons,List.map_cons]
    refine .cons ?_ ih
    obtain ⟨h1,h2⟩:=h
    by_cases e:p.1=k
    · rw [if_pos e,if_pos (h1.symm.trans e)];exact ⟨h1,ry⟩
    · rw [if_neg e,if_neg (fun z=>e (h1.trans z))];exact ⟨h1,h2⟩
theorem KV.put {kvs:List (κ × V)} {vs:List (κ × Value)} (r:KV kvs vs) (k:κ) {y:V} {u:Value} (ry:RelV y u):KV (putK kvs k y) (stored vs k u):=by
 unfold putK stored
 rw [r.any k]
 by_cases e:(vs.any fun kv=>decide (kv.1=k))=true
 ·rw [if_pos e,if_pos e];exact r.repl k ry
 ·rw [if_neg e,if_neg e];exact Paired.snoc r ⟨rfl,ry⟩
theorem KV.drop {kvs:List (κ × V)} {vs:List (κ × Value)} (r:KV kvs vs) (k:κ):KV (dropK kvs k) (without vs k):=by
 unfold KV at r ⊢
 unfold dropK without
 induction r with
 | nil=>exact .nil
 | @cons p q ps qs h t ih =>
  obtain ⟨h1,h2⟩:=h
  rw [List.filter_cons,List.filter_cons]
  by_cases e:p.1=k
  ·have a:¬ decide (p.1≠k)=true:=by simp [e]
   have b:¬ decide (q.1≠k)=true:=by simp [h1.symm.trans e]
   rw [if_neg a,if_neg b];exact ih
  ·have e':¬ q.1=k:=fun z=>e (h1.trans z)
   have a:decide (p.1≠k)=true:=by simp [e]
   have b:decide (q.1≠k)=true:=by simp [e']
   rw [if_pos a,if_pos b];exact .cons ⟨h1,h2⟩ ih
theorem KV.length {kvs:List (κ × V)} {vs:List (κ × Value)} (r:KV kvs vs):kvs.length=vs.length:=Paired.length r
end
theorem kV_is {P:Program} {w:World} {k:Key} {u:Value} (r:RelV (kV k) u):(qBV P w).is k u=true:=by
 cases k with
 | inl i=>obtain ⟨t,e⟩:=(show ∃ t,u=Value.int i t from r);subst e;exact qGP P w i t
 | inr x=>obtain ⟨t,e⟩:=(show ∃ t,u=Value.str x t from r);subst e;exact qGO P w x t
noncomputable abbrev KT (H:Hp):List (List Key × V)→List (List Key × Addr × Value)→Prop:=Paired fun p q=>p.1=q.1∧H q.2.1=some (.tup (p.1.map kV))∧RelV p.2 q.2.2
theorem KT.val {H:Hp} {kvs:List (List Key × V)} {xs:List (List Key × Addr × Value)} (r:KT H kvs xs) (k:List Key):RelO (valV kvs k) ((atKey xs k).map (·.2)):=by
 induction r with
 | nil=>exact True.intro
 | @cons p q ps qs h t ih =>
  obtain ⟨h1,_,h2⟩:=h
  by_cases e:p.1=k
  ·have e':q.1=k:=h1.symm.trans e
   have b:atKey (q::qs) k=some q.2:=by simp [atKey,List.find?_cons,e']
   rw [valV_pos e,b];exact h2
  ·have e':¬ q.1=k:=fun z=>e (h1.trans z)
   have b:atKey (q::qs) k=atKey qs k:=by simp [atKey,List.find?_cons,e']
   rw [valV_neg e,b];exact ih
theorem KT.repl {H:Hp} {kvs:List (List Key × V)} {xs:List (List Key × Addr × Value)} (r:KT H kvs xs) (k:List Key) {y:V} {u:Value} (ry:RelV y u) :
    KT H (kvs.map fun kv=>if kv.1=k then (kv.1,y) else kv) (xs.map (putAt k u)):=by
  induction r with
  | nil=>exact .nil
  | @cons p q ps qs h t ih =>
    rw [List.map_cons,List.map_cons]
    refine .cons ?_ ih
    obtain ⟨h1,h2,h3⟩:=h
    unfold putAt
    by_cases e:p.1=k
    · rw [if_pos e,if_pos (h1.symm.trans e)];exact ⟨h1,h2,ry⟩
    · rw [if_neg e,if_neg (fun z=>e (h1.trans z))];exact ⟨h1,h2,h3⟩
theorem KT.put {H:Hp} {kvs:List (List Key × V)} {xs:List (List Key × Addr × Value)} (r:KT H kvs xs) (k:List Key) {b:Addr} {y:V} {u:Value} (hb:H b=some (.tup (k.map kV))) (ry:RelV y u) :
    KT H (putK kvs k y) (storedH xs k b u):=by
  have e:(kvs.any fun kv=>decide (kv.1=k))=(atKey xs k).isSome:=by
    rw [qG2,(r.val k).isSome_eq,Option.isSome_map]
  unfold putK storedH
  rw [e]
  by_cases q:(atKey xs k).isSome=true
  · rw [if_pos q,if_pos q];exact r.repl k ry
  · rw [if_neg q,if_neg q];exact Paired.snoc r ⟨rfl,hb,ry⟩
theorem KT.keeps {H H':Hp} {kvs:List (List Key × V)} {xs:List (List Key × Addr × Value)} (r:KT H kvs xs) (ht:∀ b ys,H b=some (.tup ys)→H' b=some (.tup ys)):KT H' kvs xs :=
 Paired.mapP r fun _ _ z=>⟨z.1,ht _ _ z.2.1,z.2.2⟩
section
variable {P:Program} {w:World} {H:Hp} {h:Heap} {a:Addr}
theorem rd_of {u:HO} (ok:HOk P w H h) (e:Rd H a u):ObjOk P w H h a u:=e.ok ok
theorem dk_rd {kvs:List (Key × V)} (ok:HOk P w H h) (e:Rd H a (.dK kvs)):kvs.length≤sizeLine∧(a == sysModules)=false∧∃ vs,KV kvs vs∧h.DictOf (qBV P w) a vs :=
 show ObjOk P w H h a (.dK kvs) from rd_of ok e
theorem dk_of {kvs:List (Key × V)} (ok:HOk P w H h) (e:H a=some (.dK kvs)):kvs.length≤sizeLine∧(a == sysModules)=false∧∃ vs,KV kvs vs∧h.DictOf (qBV P w) a vs:=dk_rd ok (.inl e)
end
section
variable {X:Cx} {pins:List (Addr × Obj)} {σ:St} {H:Hp} {s:Shared} {a:Addr} {y v:V} {u r:Value} {o:Option V} {A:Around} {E:Value→Shared→Prop}
theorem Inv.big (I:Inv X pins σ H s):sysModules<s.heap.objs.size:=by
 have h:mainGlobals<s.heap.objs.size:=(I.mod.glob.keeps I.bk).lt
 exact Nat.lt_trans (by decide) h
theorem d_write {h':Heap} {t':Nat} {ob:HO} (I:Inv X pins σ H s) (mu:Mut (H a)) (hs:Heap.SameBut a s.heap h') (he:∃ q,h'.get? a=some q) (new:ObjOk X.prog X.w (upd H a ob) h' a ob) :
    Inv X pins σ (upd H a ob) { s with heap:=h',toks:=t' } :=
  I.write (x:=a) (e:=a) mu (.inl rfl) (fun b q hb z=>(hs.2 b hb).trans z) he new
theorem dk_new {P:Program} {w:World} {H':Hp} {h':Heap} {kvs:List (Key × V)} {vs:List (Key × Value)} (z:kvs.length≤sizeLine) (hd:(a == sysModules)=false) (rel:KV kvs vs) (dd:h'.DictOf (qBV P w) a vs) :
    ObjOk P w H' h' a (.dK kvs):=⟨z,hd,vs,rel,dd⟩
end
section
variable {X:Cx} {pins:List (Addr × Obj)} {σ:St} {H:Hp} {s:Shared} {a:Addr} {kvs:List (Key × V)} {k:Key} {u:Value} {A:Around} {E:Value→Shared→Prop}
end
theorem qHQ {P:Program} {w:World} {H:Hp} (h:Heap) (hb:sysModules<h.objs.size):ObjOk P w H (h.push { cls:=.type "dict",data:=.dict #[] }) h.objs.size (.dK []) :=
 ⟨Nat.zero_le _,beq_eq_false_iff_ne.mpr (Ne.symm (Nat.ne_of_lt hb)),[],.nil,Heap.DictOf.new h⟩
noncomputable def qNg:TE:=fun _ H Q=>∀ p,H p=none→Q (.ref p) (upd H p (.dK []))
section
variable {X:Cx} {pos:Pos}
theorem pe_dnewK:PE X (.Dict [] [] pos) qNg:=fun pins s σ H Q I h =>
 wpAny_Dict_empty ⟨.ref s.heap.objs.size,_,I.laid (a:=s.heap.objs.size) (o:=.dK []) (t':=s.toks) (fun _ _ q=>Heap.get?_push_of_some _ q) (Nat.le_refl _) (qHQ s.heap I.big),rfl,h _ (I.hok.fresh (Nat.le_refl _))⟩
end
noncomputable def tPairs:List (TE × TE)→St→Hp→(List (V × V)→Hp→Prop)→Prop
 | [],_,H,Q=>Q [] H
 | (tk,tv)::r,σ,H,Q=>tk σ H fun x H1=>tv σ H1 fun y H2=>tPairs r σ H2 fun ps H3=>Q ((x,y)::ps) H3
noncomputable abbrev VV:List (V × V)→List (Value × Value)→Prop:=Paired fun p q=>RelV p.1 q.1∧RelV p.2 q.2
noncomputable def PPs (X:Cx) (pos:Pos) (keys:List (Option Expr)) (values:List Expr) (trs:List (TE × TE)):Prop :=
 ∀ (pins:List (Addr × Obj)) (s:Shared) (σ:St) (H:Hp) (Q:List (V × V)→Hp→Prop),Inv X pins σ H s→tPairs trs σ H Q →
  wpAny (model X.prog X.w) X.A (evalPairs (pairTrees keys values X.env pos)) (fun vs s'=>∃ ps H',Inv X pins σ H' s'∧VV ps vs∧Q ps H') X.xe s
theorem pps_nil {X:Cx} {pos:Pos}:PPs X pos [] [] []:=fun pins s σ H Q I h=>pairTrees_nil_walk ⟨[],H,I,.nil,h⟩
theorem pps_cons {X:Cx} {pos:Pos} {k v:Expr} {ks:List (Option Expr)} {vs:List Expr} {tk tv:TE} {trs:List (TE × TE)} (hk:PE X k tk) (hv:PE X v tv) (hr:PPs X pos ks vs trs) :
    PPs X pos (some k::ks) (v::vs) ((tk,tv)::trs):=fun pins s σ H Q I h =>
  pairTrees_cons_walk (thn (hk pins s σ H _ I h) fun u s1 ⟨x,H1,I1,rx,q1⟩=>thn (hv pins s1 σ H1 _ I1 q1) fun w2 s2 ⟨y,H2,I2,ry,q2⟩ =>
    thn (hr pins s2 σ H2 _ I2 q2) fun ws s3 ⟨ps,H3,I3,rel,q3⟩=>⟨(x,y)::ps,H3,I3,.cons ⟨rx,ry⟩ rel,q3⟩)
noncomputable def mergeK (kvs more:List (Key × V)):List (Key × V):=more.foldl (fun acc kv=>putK acc kv.1 kv.2) kvs
theorem KV.merge:∀ {more:List (Key × V)} {rs:List (Key × Value)} {kvs:List (Key × V)} {vs:List (Key × Value)},KV more rs→KV kvs vs→KV (mergeK kvs more) (merged vs rs):=by
 intro more rs kvs vs r
 unfold KV at r
 induction r generalizing kvs vs with
 | nil=>intro q;exact q
 | @cons p q ps qs h t ih =>
  intro r0
  have e:KV (putK kvs p.1 p.2) (stored vs q.1 q.2):=by
   have:=r0.put p.1 h.2
   rw [← h.1];exact this
  exact ih e
theorem qCq:∀ (more kvs:List (Key × V)),(mergeK kvs more).length≤kvs.length+more.length
 | [],kvs=>by show kvs.length≤kvs.length+0;omega
 | p::r,kvs=>by
  have h1:=qCq r (putK kvs p.1 p.2)
  have h2:=length_putK kvs p.1 p.2
  show (mergeK (putK kvs p.1 p.2) r).length≤_
  rw [List.length_cons];omega
theorem qEh {P:Program} {w:World}:∀ {kvs:List (Key × V)} {ws:List (Value × Value)},VV (kvs.map fun kv=>(kV kv.1,kv.2)) ws→∃ rs,Carries (qBV P w) ws rs∧KV kvs rs
 | [],_,r=>by rw [List.map_nil] at r;cases r;exact ⟨[],True.intro,.nil⟩
 | p::kvs,_,r=>by
  rw [List.map_cons] at r
  cases r with
  | @cons a b as bs h t =>
   obtain ⟨rs,c,q⟩:=qEh (P:=P) (w:=w) t
   obtain ⟨b1,b2⟩:=b
   exact ⟨(p.1,b2)::rs,⟨kV_is h.1,rfl,c⟩,.cons ⟨rfl,h.2⟩ q⟩
noncomputable def tDisp (trs:List (TE × TE)):TE:=fun σ H Q=>∀ p,H p=none→tPairs trs σ (upd H p (.dK [])) fun ps H2=>H2 p=some (.dK [])∧∃ kvs:List (Key × V),ps=kvs.map (fun kv=>(kV kv.1,kv.2))∧kvs.length≤15∧Q (.ref p) (upd H2 p (.dK (mergeK [] kvs)))
theorem pe_disp {X:Cx} {pos:Pos} {keys:List (Option Expr)} {values:List Expr} {trs:List (TE × TE)} (h:PPs X pos keys values trs) (hall:keys.all (·.isSome)=true) (hl:keys.length=values.length) (h0:keys≠[])
    (h15:keys.length≤15):PE X (.Dict keys values pos) (tDisp trs):=by
  intro pins s σ H Q I q
  have hn:=I.hok.fresh (Nat.le_refl s.heap.objs.size)
  have I1:=I.laid (a:=s.heap.objs.size) (o:=.dK []) (h':=s.heap.push { cls:=.type "dict",data:=.dict #[] }) (t':=s.toks) (fun _ _ q=>Heap.get?_push_of_some _ q) (Nat.le_refl _) (qHQ s.heap I.big)
  refine wpAny_Dict_walk (knd:=qBV X.prog X.w) hall hl h0 h15 (thn (h pins _ σ _ _ I1 (q _ hn)) fun ws s2 ⟨ps,H2,I2,rel,e,kvs,ep,lk,q2⟩=>?_)
  subst ep
  obtain ⟨rs,c,rk⟩:=qEh (P:=X.prog) (w:=X.w) rel
  obtain ⟨z,hd,vs0,r0,dd⟩:=dk_of I2.hok e
  cases r0
  refine ⟨rs,c,dd,fun h' dd' hs=>⟨.ref s.heap.objs.size,_,?_,rfl,q2⟩⟩
  have hz:(mergeK [] kvs).length≤sizeLine:=by
    have h1:=qCq kvs []
    rw [List.length_nil] at h1
    rw [sizeLine_eq];omega
  have he:∃ q,h'.get? s.heap.objs.size=some q:=let ⟨q,_,_,hq,_⟩:=dd';⟨q,hq⟩
  exact d_write I2 (by rw [e];exact True.intro) hs he (dk_new hz hd (rk.merge .nil) dd')
end L2
set_option Elab.async false
set_option linter.all false
set_option genSizeOf false
set_option genSizeOfSpec false
set_option genInjectivity false
namespace Fy
open PySem
noncomputable abbrev Tx:=List Nat
inductive D where
 | non | bl (b:Bool) | int (i:Int) | str (x:Tx) | tup (xs:List D) | ref (i:Nat)
 deriving Inhabited
inductive Ky where
 | int (i:Int) | str (x:Tx)
 deriving DecidableEq
inductive O where
 | lst (xs:List D) | rol (xs:List D) | ins (c:Nat) (fs:List (Nat × D)) | dct (kvs:List (Ky × D)) | xc (c:Nat)
 deriving Inhabited
noncomputable def nmGo:Nat→Nat→List Nat→List Nat
 | 0,_,acc=>acc
 | f+1,n,acc=>if n=0 then acc else nmGo f (n / 256) (n % 256::acc)
noncomputable def nmOf (n:Nat):Str:=⟨(nmGo 60 n []).toArray⟩
noncomputable abbrev AH:=List O
noncomputable abbrev Env:=List (Option D)
inductive R (α:Type) where
 | ok (a:α) (h:AH) | exc (c:Nat) (h:AH) | bad
noncomputable abbrev M (α:Type):=AH→R α
noncomputable def R.bind {α β:Type}:R α→(α→AH→R β)→R β
 | .ok a h,f=>f a h
 | .exc c h,_=>.exc c h
 | .bad,_=>.bad
noncomputable def M.bind {α β:Type} (m:M α) (f:α→M β):M β:=fun h=>(m h).bind f
noncomputable def R.calm {α:Type}:R α→R α
 | .exc _ _=>.bad
 | r=>r
noncomputable def M.calm {α:Type} (m:M α):M α:=fun h=>(m h).calm
noncomputable def M.ret {α:Type} (a:α):M α:=fun h=>.ok a h
noncomputable def M.bad {α:Type}:M α:=fun _=>.bad
noncomputable def M.when {α:Type} (c:Prop) [Decidable c] (m:M α):M α:=fun h=>if c then m h else .bad
noncomputable def qLR (o:O):M D:=fun h=>.ok (.ref h.length) (h++[o])
noncomputable def getL (h:AH) (i:Nat):Option (List D):=match h[i]? with
 | some (.lst xs)=>some xs
 | some (.rol xs)=>some xs
 | _=>none
noncomputable def liveN (h:AH) (i:Nat):Nat:=((getL h i).getD []).length+1
noncomputable def newL (xs:List D):M D:=M.when (xs.length≤16777216) (qLR (.lst xs))
inductive Ty where
 | int | str | bool | list | tuple
 deriving DecidableEq
inductive Un where
 | neg | len | str | int | ord | tuple | list | all | any | isN | notN | isB (b:Bool) | isi (t:Ty) | fmt | upper | sum | clear | isx (cs xl:List Nat) | fld (k:Nat) | nsB (b:Bool) | rev | sorted | lrng
 deriving DecidableEq
inductive Bi where
 | add | sub | mul | fdiv | mod | pow | eq | ne | lt | le | gt | ge | isin | notin | ix | min2 | max2 | find | split | join | append | zfill | remove | get | pop | starts | index | part | rpart | lpop | lrng
 deriving DecidableEq
noncomputable def b2i (b:Bool):Int:=if b then 1 else 0
noncomputable def isiD (h:AH) (t:Ty) (d:D):Option Bool:=match d with
 | .non=>some false
 | .bl _=>some (t == .bool || t == .int)
 | .int _=>some (t == .int)
 | .str _=>some (t == .str)
 | .tup _=>some (t == .tuple)
 | .ref i=>(getL h i).map fun _=>t == .list
noncomputable def txI (i:Int):Tx:=(toString i).toList.map Char.toNat
noncomputable def truth (d:D):M Bool:=fun h=>match d with
 | .non=>.ok false h
 | .bl b=>.ok b h
 | .int i=>.ok (i != 0) h
 | .str x=>if x.length≤16777216 then .ok (!x.isEmpty) h else .bad
 | .tup xs=>.ok (!xs.isEmpty) h
 | .ref i=>match getL h i with
  | some xs=>.ok (!xs.isEmpty) h
  | none=>.bad
noncomputable def qBI:List D→Option (List Bool)
 | []=>some []
 | .bl b::r=>(qBI r).map (b::·)
 | _::_=>none
noncomputable def allB (xs:List D):Option Bool:=(qBI xs).map (·.all id)
noncomputable def anyB (xs:List D):Option Bool:=(qBI xs).map (·.any id)
noncomputable def eqW (f:D→D→Option Bool):List D→List D→Option Bool
 | [],[]=>some true
 | [],_::_=>some false
 | _::_,[]=>some false
 | x::xs,y::ys=>match f x y,eqW f xs ys with
  | some a,some b=>some (a&&b)
  | _,_=>none
noncomputable def eqD (h:AH):Nat→D→D→Option Bool
 | _,.non,.non=>some true
 | _,.bl a,.bl b=>some (a == b)
 | _,.int a,.int b=>some (a == b)
 | _,.str a,.str b=>some (a == b)
 | _,.bl a,.int b=>some (b2i a == b)
 | _,.int a,.bl b=>some (a == b2i b)
 | n+1,.tup xs,.tup ys=>eqW (eqD h n) xs ys
 | n+1,.ref i,.ref j=>match getL h i,getL h j with
  | some xs,some ys=>eqW (eqD h n) xs ys
  | _,_=>none
 | _,_,_=>none
noncomputable def ixN (n:Nat) (i:Int):Option Nat:=if 0≤i then (if i<n then some i.toNat else none) else if -(n:Int)≤i then some (i+n).toNat else none
noncomputable def cutN (n d:Nat):Option Int→Nat
 | none=>d
 | some v=>if v<0 then (v+n).toNat else min v.toNat n
noncomputable def cutX {α:Type} (xs:List α) (lo hi:Option Int):List α:=(xs.drop (cutN xs.length 0 lo)).take (cutN xs.length xs.length hi-cutN xs.length 0 lo)
noncomputable def isDig (x:Tx):Bool:=x.all fun c=>decide (48≤c∧c≤57)
noncomputable def digV (x:Tx):Nat:=x.foldl (fun acc c=>acc*10+(c-48)) 0
noncomputable def upC (c:Nat):Nat:=if 97≤c∧c≤122 then c-32 else c
noncomputable def getN (k:Nat):List (Nat × D)→Option D
 | []=>none
 | (g,x)::r=>if g == k then some x else getN k r
noncomputable def putN (k:Nat) (d:D):List (Nat × D)→List (Nat × D)
 | []=>[(k,d)]
 | (g,x)::r=>if g == k then (g,d)::r else (g,x)::putN k d r
noncomputable def tbN:List (Nat × Nat)→Nat→Option Nat
 | [],_=>none
 | (g,x)::r,k=>if g == k then some x else tbN r k
noncomputable def qAr:List D→Option (List Int)
 | []=>some []
 | .int x::r=>(qAr r).map (x::·)
 | _::_=>none
noncomputable def insZ (x:Int):List Int→List Int
 | []=>[x]
 | y::r=>if x≤y then x::y::r else y::insZ x r
noncomputable def sortZ:List Int→List Int
 | []=>[]
 | x::r=>insZ x (sortZ r)
noncomputable def qAE (i:Int):Prop:=-4611686018427387904≤i∧i<4611686018427387904
instance (i:Int):Decidable (qAE i):=by unfold qAE;exact inferInstance
noncomputable def qAK (lo:Int) (n:Nat):List D:=(List.range n).map fun (k:Nat)=>D.int (lo+k)
noncomputable def unD (o:Un) (d:D):M D:=fun h=>match o,d with
 | .neg,.int i=>.ok (.int (-i)) h
 | .len,.str x=>if x.length≤16777216 then .ok (.int x.length) h else .bad
 | .len,.tup xs=>.ok (.int xs.length) h
 | .len,.ref i=>match getL h i with
  | some xs=>.ok (.int xs.length) h
  | none=>.bad
 | .str,.int i=>if i.natAbs.log2<1920 then .ok (.str (txI i)) h else .bad
 | .int,.int i=>.ok (.int i) h
 | .int,.bl b=>.ok (.int (b2i b)) h
 | .int,.str x=>if x≠[]∧x.length≤640∧isDig x=true then .ok (.int (digV x)) h else .bad
 | .ord,.str x=>match x with
  | [c]=>.ok (.int c) h
  | _=>.bad
 | .tuple,.tup xs=>.ok (.tup xs) h
 | .tuple,.ref i=>match getL h i with
  | some xs=>.ok (.tup xs) h
  | none=>.bad
 | .list,.tup xs=>newL xs h
 | .list,.ref i=>match getL h i with
  | some xs=>newL xs h
  | none=>.bad
 | .all,.ref i=>match (getL h i).bind allB with
  | some b=>.ok (.bl b) h
  | none=>.bad
 | .any,.ref i=>match (getL h i).bind anyB with
  | some b=>.ok (.bl b) h
  | none=>.bad
 | .sum,.ref i=>match (getL h i).bind qAr with
  | some xs=>.ok (.int xs.sum) h
  | none=>.bad
 | .sorted,.ref i=>match (getL h i).bind qAr with
  | some xs=>if xs.length<64 then newL ((sortZ xs).map .int) h else .bad
  | none=>.bad
 | .lrng,.int j=>if qAE j then newL (qAK 0 j.toNat) h else .bad
 | .rev,.ref i=>match getL h i with
  | some xs=>newL xs.reverse h
  | none=>.bad
 | .clear,.ref i=>match h[i]? with
  | some (.lst _)=>.ok .non (h.set i (.lst []))
  | _=>.bad
 | .fld k,.ref i=>match h[i]? with
  | some (.ins _ fs)=>match getN k fs with
   | some d=>.ok d h
   | none=>.bad
  | _=>.bad
 | .isx cs xl,.ref i=>match h[i]? with
  | some (.xc c)=>if xl.contains c then .ok (.bl (cs.contains c)) h else .bad
  | _=>.bad
 | .upper,.str x=>if x.length≤1000000∧x.all (fun c=>decide (c<128))=true then .ok (.str (x.map upC)) h else .bad
 | .isN,d=>.ok (.bl (match d with | .non=>true | _=>false)) h
 | .notN,d=>.ok (.bl (match d with | .non=>false | _=>true)) h
 | .isB b,.bl c=>.ok (.bl (b == c)) h
 | .isB _,.non=>.ok (.bl false) h
 | .isB _,.int _=>.ok (.bl false) h
 | .isB _,.str _=>.ok (.bl false) h
 | .nsB b,.bl c=>.ok (.bl (!(b == c))) h
 | .nsB _,.non=>.ok (.bl true) h
 | .nsB _,.int _=>.ok (.bl true) h
 | .nsB _,.str _=>.ok (.bl true) h
 | .isi t,d=>match isiD h t d with
  | some b=>.ok (.bl b) h
  | none=>.bad
 | _,_=>.bad
noncomputable def mulOk (i j:Int):Prop:=(-18446744073709551616<i∧i<18446744073709551616)∨(-18446744073709551616<j∧j<18446744073709551616)
instance (i j:Int):Decidable (mulOk i j):=by unfold mulOk;exact inferInstance
noncomputable def eqTop (h:AH) (x y:D):Option Bool:=eqD h 40 x y
noncomputable def inTx (x y:Tx):Option Bool:=match x with
 | [c]=>some (y.contains c)
 | _=>none
noncomputable def findC (a:Tx) (c:Nat):Int:=match a.findIdx? (· == c) with
  | some i=>i
  | none=>-1
noncomputable def posC (c:Nat):Nat→Tx→List Nat
 | _,[]=>[]
 | k,x::r=>if x=c then k::posC c (k+1) r else posC c (k+1) r
noncomputable def lastC (c:Nat):Nat→Tx→Option Nat
 | _,[]=>none
 | k,x::r=>match lastC c (k+1) r with
  | some i=>some i
  | none=>if x=c then some k else none
noncomputable def qHB (a:Tx) (cuts:List Nat):List Tx:=((0::cuts.map (·+1)).zip (cuts++[a.length])).map fun p=>(a.drop p.1).take (p.2-p.1)
noncomputable def partT (a:Tx) (c:Nat):List Tx:=match posC c 0 a with
 | i::_=>[a.take i,[c],a.drop (i+1)]
 | []=>[a,[],[]]
noncomputable def qK3 (a:Tx) (c:Nat):List Tx:=match lastC c 0 a with
 | some i=>[a.take i,[c],a.drop (i+1)]
 | none=>[[],[],a]
noncomputable def qAs:List D→Option (List Tx)
 | []=>some []
 | .str x::r=>(qAs r).map (x::·)
 | _::_=>none
noncomputable def joinT (sep:Tx):List Tx→Tx
 | []=>[]
 | [x]=>x
 | x::y::r=>x++sep++joinT sep (y::r)
noncomputable def joinN (sep:Tx) (xs:List Tx):Nat:=(xs.map List.length).sum+xs.length*sep.length
noncomputable def remD (f:D→Option Bool):List D→Option (List D)
 | []=>none
 | x::xs=>match f x with
  | some true=>some xs
  | some false=>(remD f xs).map (x::·)
  | none=>none
noncomputable def anyD (f:D→Option Bool):List D→Option Bool
 | []=>some false
 | x::xs=>match f x,anyD f xs with
  | some a,some b=>some (a || b)
  | _,_=>none
noncomputable def valY (kvs:List (Ky × D)) (k:Ky):Option D:=(kvs.find? fun kv=>decide (kv.1=k)).map (·.2)
noncomputable def putY (kvs:List (Ky × D)) (k:Ky) (d:D):List (Ky × D):=if (kvs.any fun kv=>decide (kv.1=k))=true then kvs.map (fun kv=>if kv.1=k then (kv.1,d) else kv) else kvs++[(k,d)]
noncomputable def qHI (kvs more:List (Ky × D)):List (Ky × D):=more.foldl (fun acc kv=>putY acc kv.1 kv.2) kvs
noncomputable def ixK (k:Nat) (y:Ky):M D:=fun h=>match h[k]? with
 | some (.dct kvs)=>match valY kvs y with
  | some d=>.ok d h
  | none=>.bad
 | _=>.bad
noncomputable def hasK (k:Nat) (y:Ky):M D:=fun h=>match h[k]? with
 | some (.dct kvs)=>.ok (.bl (valY kvs y).isSome) h
 | _=>.bad
noncomputable def putKD (d:D) (k:Nat) (y:Ky):M Unit:=fun h=>match h[k]? with
 | some (.dct kvs)=>if kvs.length<16777216 then .ok () (h.set k (.dct (putY kvs y d))) else .bad
 | _=>.bad
noncomputable def getK (k:Nat) (y:Ky):M D:=fun h=>match h[k]? with
 | some (.dct kvs)=>.ok ((valY kvs y).getD .non) h
 | _=>.bad
noncomputable def dropY (kvs:List (Ky × D)) (k:Ky):List (Ky × D):=kvs.filter fun kv=>decide (kv.1≠k)
noncomputable def popK (k:Nat) (y:Ky):M D:=fun h=>match h[k]? with
 | some (.dct kvs)=>match valY kvs y with
  | some d=>.ok d (h.set k (.dct (dropY kvs y)))
  | none=>.bad
 | _=>.bad
noncomputable def lpopK (k:Nat) (i:Int):M D:=fun h=>match h[k]? with
 | some (.lst xs)=>if xs.length≤16777216 then (match ixN xs.length i with
  | some j=>(match xs[j]? with
   | some d=>.ok d (h.set k (.lst (xs.eraseIdx j)))
   | none=>.bad)
  | none=>.bad) else .bad
 | _=>.bad
noncomputable def setdK (k:Nat) (y:Ky) (d:D):M D:=fun h=>match h[k]? with
 | some (.dct kvs)=>match valY kvs y with
  | some x=>.ok x h
  | none=>if kvs.length<16777216 then .ok d (h.set k (.dct (putY kvs y d))) else .bad
 | _=>.bad
noncomputable def setdD (x y z:D):M D:=match x,y with
 | .ref k,.int i=>setdK k (.int i) z
 | _,_=>M.bad
noncomputable def splmD (x y z:D):M D:=fun h=>match x,y,z with
 | .str a,.str b,.int k=>match b with
  | [c]=>if (c<256∧a.length≤1000000)∧0≤k∧k≤1000000 then newL ((qHB a ((posC c 0 a).take k.toNat)).map .str) h else .bad
  | _=>.bad
 | _,_,_=>.bad
noncomputable def dispD (ks:List Ky) (ds:List D) (p:Nat):M D:=fun h=>match h[p]? with
 | some (.dct [])=>if ks.length=ds.length∧ks.length≤15 then .ok (.ref p) (h.set p (.dct (qHI [] (ks.zip ds)))) else .bad
 | _=>.bad
noncomputable def biD (o:Bi) (x y:D):M D:=fun h=>match o,x,y with
  | .add,.int i,.int j=>.ok (.int (i+j)) h
  | .add,.str a,.str b=>if a.length+b.length≤16777216 then .ok (.str (a++b)) h else .bad
  | .add,.tup a,.tup b=>if a.length+b.length≤16777216 then .ok (.tup (a++b)) h else .bad
  | .add,.ref i,.ref j=>match h[i]?,h[j]? with
    | some (.lst xs),some (.lst ys)=>newL (xs++ys) h
    | _,_=>.bad
  | .sub,.int i,.int j=>.ok (.int (i-j)) h
  | .mul,.int i,.int j=>if mulOk i j then .ok (.int (i*j)) h else .bad
  | .mul,.str x,.int n=>if 0≤n∧n≤1000000∧x≠[]∧x.length*n.toNat≤16777216 then .ok (.str (List.replicate n.toNat x).flatten) h else .bad
  | .fdiv,.int i,.int j=>if 0<j∧j<1073741824 then .ok (.int (i / j)) h else .bad
  | .mod,.int i,.int j=>if 0<j then .ok (.int (i % j)) h else .bad
  | .pow,.int i,.int j=>if 0≤j∧j≤1000000∧i.natAbs<18446744073709551616 then .ok (.int (i ^ j.toNat)) h else .bad
  | .eq,x,y=>match eqTop h x y with
    | some b=>.ok (.bl b) h
    | none=>.bad
  | .ne,x,y=>match eqTop h x y with
    | some b=>.ok (.bl (!b)) h
    | none=>.bad
  | .lt,.int i,.int j=>.ok (.bl (decide (i<j))) h
  | .le,.int i,.int j=>.ok (.bl (decide (i≤j))) h
  | .gt,.int i,.int j=>.ok (.bl (decide (j<i))) h
  | .ge,.int i,.int j=>.ok (.bl (decide (j≤i))) h
  | .isin,.str a,.str b=>match inTx a b with
    | some r=>.ok (.bl r) h
    | none=>.bad
  | .isin,.int a,.ref i=>match (getL h i).bind qAr with
    | some xs=>.ok (.bl (xs.contains a)) h
    | none=>hasK i (.int a) h
  | .isin,.str a,.tup xs=>match qAs xs with
    | some ys=>.ok (.bl (ys.contains a)) h
    | none=>.bad
  | .isin,.tup a,.ref i=>match (getL h i).bind (anyD fun x=>eqTop h x (.tup a)) with
    | some b=>.ok (.bl b) h
    | none=>.bad
  | .notin,.int a,.ref i=>match (getL h i).bind qAr with
    | some xs=>.ok (.bl (!xs.contains a)) h
    | none=>.bad
  | .notin,.str a,.str b=>match inTx a b with
    | some r=>.ok (.bl (!r)) h
    | none=>.bad
  | .ix,.tup xs,.int i=>match (ixN xs.length i).bind (xs[·]?) with
    | some d=>.ok d h
    | none=>.bad
  | .ix,.str x,.int i=>if x.length≤16777216 then match (ixN x.length i).bind (x[·]?) with
    | some c=>.ok (.str [c]) h
    | none=>.bad
    else .bad
  | .ix,.ref k,.int i=>match (getL h k).bind fun xs=>(ixN xs.length i).bind (xs[·]?) with
    | some d=>.ok d h
    | none=>ixK k (.int i) h
  | .ix,.ref k,.str x=>ixK k (.str x) h
  | .min2,.int i,.int j=>.ok (.int (if j<i then j else i)) h
  | .max2,.int i,.int j=>.ok (.int (if j > i then j else i)) h
  | .find,.str a,.str b=>match b with
    | [c]=>.ok (.int (findC a c)) h
    | _=>.bad
  | .zfill,.str x,.int n=>if 0≤n∧n≤1000∧isDig x=true∧x.length≤1000 then .ok (.str (List.replicate (n.toNat-x.length) 48++x)) h else .bad
  | .join,.str x,.ref i=>match (getL h i).bind qAs with
    | some xs=>if joinN x xs≤16777216 then .ok (.str (joinT x xs)) h else .bad
    | none=>.bad
  | .append,.ref k,d=>match h[k]? with
    | some (.lst xs)=>if xs.length<16777216 then .ok .non (h.set k (.lst (xs++[d]))) else .bad
    | _=>.bad
  | .remove,.ref k,d=>match h[k]? with
    | some (.lst xs)=>match remD (fun x=>eqTop h x d) xs with
      | some ys=>.ok .non (h.set k (.lst ys))
      | none=>.bad
    | _=>.bad
  | .split,.str a,.str b=>match b with
    | [c]=>if c<256∧a.length≤1000000 then newL ((qHB a (posC c 0 a)).map .str) h else .bad
    | _=>.bad
  | .part,.str a,.str b=>match b with
    | [c]=>if a.length≤1000000 then .ok (.tup ((partT a c).map .str)) h else .bad
    | _=>.bad
  | .rpart,.str a,.str b=>match b with
    | [c]=>if a.length≤1000000 then .ok (.tup ((qK3 a c).map .str)) h else .bad
    | _=>.bad
  | .get,.ref k,.int i=>getK k (.int i) h
  | .pop,.ref k,.int i=>popK k (.int i) h
  | .lpop,.ref k,.int i=>lpopK k i h
  | .lrng,.int i,.int j=>if qAE i∧qAE j then newL (qAK i (j-i).toNat) h else .bad
  | .starts,.str a,.str b=>.ok (.bl (b.isPrefixOf a)) h
  | .index,.ref k,.bl b=>match (getL h k).bind qBI with
    | some bs=>if bs.findIdx (· == b)<bs.length then .ok (.int (bs.findIdx (· == b))) h else .bad
    | none=>.bad
  | _,_,_=>.bad
noncomputable def slD (x:D) (l u:Option Int):M D:=fun h=>match x with
 | .str x=>if x.length≤16777216 then .ok (.str (cutX x l u)) h else .bad
 | .tup xs=>.ok (.tup (cutX xs l u)) h
 | .ref i=>match getL h i with
  | some xs=>newL (cutX xs l u) h
  | none=>.bad
 | _=>.bad
noncomputable def meOk (o:Bi) (x:D):M Unit:=fun h=>match o,x with
 | .append,.ref i=>match getL h i with
  | some _=>.ok () h
  | none=>.bad
 | .remove,.ref i=>match getL h i with
  | some _=>.ok () h
  | none=>.bad
 | .lpop,.ref i=>match getL h i with
  | some _=>.ok () h
  | none=>.bad
 | .find,.str _=>.ok () h
 | .split,.str _=>.ok () h
 | .part,.str _=>.ok () h
 | .rpart,.str _=>.ok () h
 | .join,.str _=>.ok () h
 | .zfill,.str _=>.ok () h
 | .starts,.str _=>.ok () h
 | .get,.ref i=>match h[i]? with
  | some (.dct _)=>.ok () h
  | _=>.bad
 | .pop,.ref i=>match h[i]? with
  | some (.dct _)=>.ok () h
  | _=>.bad
 | .index,.ref i=>match getL h i with
  | some _=>.ok () h
  | none=>.bad
 | _,_=>.bad
noncomputable def mclsD (m:Nat) (x:D):M Nat:=fun h=>match x with
 | .ref i=>match h[i]? with
  | some (.ins c fs)=>if (getN m fs).isNone then .ok c h else .bad
  | _=>.bad
 | _=>.bad
noncomputable def setFD (k:Nat) (cs:List Nat) (d x:D):M Unit:=fun h=>match x with
 | .ref i=>match h[i]? with
  | some (.ins c fs)=>if cs.contains c=true∧fs.length<1000 then .ok () (h.set i (.ins c (putN k d fs))) else .bad
  | _=>.bad
 | _=>.bad
noncomputable def qEX (d x y:D):M Unit:=fun h=>match x,y with
 | .ref k,.int j=>match h[k]? with
  | some (.lst xs)=>match ixN xs.length j with
   | some p=>.ok () (h.set k (.lst (xs.set p d)))
   | none=>.bad
  | _=>putKD d k (.int j) h
 | .ref k,.str x=>putKD d k (.str x) h
 | _,_=>.bad
noncomputable def makeD (F:Nat→List D→M D) (c f:Nat) (xs:List D):M D:=fun h=>(F f (.ref h.length::xs) (h++[.ins c []])).bind fun d h'=>match d with
 | .non=>.ok (.ref h.length) h'
 | _=>.bad
noncomputable def intD (d:D):M (Option Int):=fun h=>match d with
 | .int i=>.ok (some i) h
 | _=>.bad
mutual
inductive CE where
 | lit (d:D) | var (i:Nat) | un (o:Un) (a:CE) | bi (o:Bi) (a b:CE) | sl (a:CE) (lo hi:CP)
 | and (a b:CE) | or (a b:CE) | not (a:CE) | ite (c:CT) (a b:CE) | chain (o p:Bi) (a b c:CE) | me (o:Bi) (a b:CE) | setd (a b c:CE) | splm (a b c:CE)
 | tup (es:CL) | lst (es:CL) | disp (ks:List Ky) (es:CL) | call (f:Nat) (es:CL) | meth (m:Nat) (tb:List (Nat × Nat)) (a:CE) (es:CL) | make (c f:Nat) (es:CL) | comp (elt:CE) (it:CI) | compIf (elt:CE) (c:CT) (it:CI)
inductive CT where
 | val (e:CE) | and (a b:CT) | or (a b:CT) | not (a:CT)
inductive CL where
 | nil | cons (e:CE) (r:CL)
inductive CI where
 | of (e:CE) | rng1 (e:CE) | rng2 (a b:CE) | rng3 (a b c:CE)
inductive CP where
 | no | at (e:CE)
end
inductive TG where
 | nm (i:Nat) | two (i j:Nat)
mutual
inductive CS where
 | skip | opq | seq (a b:CS) | set (t:TG) (e:CE) | exp (e:CE) | ret (e:CE) | retN | ite (c:CT) (a b:CS)
 | fori (t:TG) (it:CI) (b:CS) | whil (c:CT) (b:CS) | brk | cnt | raise (c:Nat) | setF (a:CE) (k:Nat) (cs:List Nat) (e:CE) | setIx (a i e:CE) | tryx (b:CS) (hs:CH)
inductive CH where
 | nil | cons (cs:List Nat) (k:CS) (r:CH) | as (cs:List Nat) (i:Nat) (k:CS) (r:CH)
end
inductive It where
 | row (xs:List D) | live (i:Nat)
noncomputable def nS (i j k:Int):Nat:=if i<j then ((j-i-1) / k+1).toNat else 0
noncomputable def qNy (lo st:Int) (n:Nat):List D:=(List.range n).map fun (k:Nat)=>D.int (lo+k*st)
noncomputable def itOf (d:D):M It:=fun h=>match d with
 | .str x=>.ok (.row (x.map fun c=>.str [c])) h
 | .tup xs=>.ok (.row xs) h
 | .ref i=>match getL h i with
  | some _=>.ok (.live i) h
  | none=>.bad
 | _=>.bad
noncomputable def compF (m:Env→M D) (σ:Env) (x:D):M (Option D):=(m (σ++[some x])).calm.bind fun y=>M.ret (some y)
noncomputable def qFB (m:Env→M D) (c:Env→M Bool) (σ:Env) (x:D):M (Option D):=(c (σ++[some x])).calm.bind fun k=>if k then (m (σ++[some x])).calm.bind fun y=>M.ret (some y) else M.ret none
noncomputable def qA4 (f:D→M (Option D)):List D→M (List D)
 | []=>M.ret []
 | x::xs=>(f x).bind fun y=>(qA4 f xs).bind fun ys=>M.ret (match y with | some y=>y::ys | none=>ys)
noncomputable def qAN (f:D→M (Option D)) (i:Nat):Nat→Nat→M (List D)
 | 0,_=>M.bad
 | n+1,k=>fun h=>match getL h i with
  | none=>.bad
  | some xs=>match xs[k]? with
   | none=>.ok [] h
   | some x=>((f x).bind fun y=>(qAN f i n (k+1)).bind fun ys=>M.ret (match y with | some y=>y::ys | none=>ys)) h
noncomputable def mapIt (f:D→M (Option D)):It→M (List D)
 | .row xs=>M.when (xs.length<16777216) (qA4 f xs)
 | .live i=>fun h=>M.when (liveN h i<16777216) (qAN f i (liveN h i) 0) h
section
variable (F:Nat→List D→M D)
mutual
noncomputable def den:CE→Env→M D
 | .lit d,_=>M.ret d
 | .var i,σ=>fun h=>match σ[i]? with
  | some (some d)=>.ok d h
  | _=>.bad
 | .un o a,σ=>(den a σ).bind (unD o)
 | .bi o a b,σ=>(den a σ).bind fun x=>(den b σ).bind fun y=>biD o x y
 | .sl a lo hi,σ=>(den a σ).bind fun x=>(denP lo σ).bind fun l=>(denP hi σ).bind fun u=>slD x l u
 | .and a b,σ=>(den a σ).bind fun x=>match x with
  | .bl true=>den b σ
  | .bl false=>M.ret (.bl false)
  | _=>M.bad
 | .or a b,σ=>(den a σ).bind fun x=>match x with
  | .bl true=>M.ret (.bl true)
  | .bl false=>den b σ
  | _=>M.bad
 | .not a,σ=>((den a σ).bind truth).bind fun b=>M.ret (.bl (!b))
 | .ite c a b,σ=>(denT c σ).bind fun k=>if k then den a σ else den b σ
 | .chain o p a b c,σ=>(den a σ).bind fun x=>(den b σ).bind fun y=>(biD o x y).bind fun z=>match z with
  | .bl true=>(den c σ).bind fun w=>biD p y w
  | .bl false=>M.ret (.bl false)
  | _=>M.bad
 | .me o a b,σ=>(den a σ).bind fun x=>(meOk o x).bind fun _=>(den b σ).bind fun y=>biD o x y
 | .setd a b c,σ=>(den a σ).bind fun x=>(meOk .get x).bind fun _=>(den b σ).bind fun y=>(den c σ).bind fun z=>setdD x y z
 | .splm a b c,σ=>(den a σ).bind fun x=>(meOk .split x).bind fun _=>(den b σ).bind fun y=>(den c σ).bind fun z=>splmD x y z
 | .tup es,σ=>(denL es σ).bind fun xs=>M.when (xs.length≤16777216) (M.ret (.tup xs))
 | .lst es,σ=>(denL es σ).bind newL
 | .disp ks es,σ=>fun h=>(denL es σ (h++[.dct []])).bind fun ds=>dispD ks ds h.length
 | .call f es,σ=>(denL es σ).bind (F f)
 | .meth m tb a es,σ=>(den a σ).bind fun x=>(mclsD m x).bind fun c=>match tbN tb c with
  | some f=>(denL es σ).bind fun xs=>F f (x::xs)
  | none=>M.bad
 | .make c f es,σ=>(denL es σ).bind (makeD F c f)
 | .comp e it,σ=>(denI it σ).bind fun r=>(mapIt (compF (den e) σ) r).bind newL
 | .compIf e c it,σ=>(denI it σ).bind fun r=>(mapIt (qFB (den e) (denT c) σ) r).bind newL
noncomputable def denL:CL→Env→M (List D)
 | .nil,_=>M.ret []
 | .cons e r,σ=>(den e σ).bind fun x=>(denL r σ).bind fun xs=>M.ret (x::xs)
noncomputable def denI:CI→Env→M It
 | .of e,σ=>(den e σ).bind itOf
 | .rng1 e,σ=>(den e σ).bind fun x=>match x with
  | .int j=>M.when (qAE j) (M.ret (.row (qAK 0 j.toNat)))
  | _=>M.bad
 | .rng2 a b,σ=>(den a σ).bind fun x=>(den b σ).bind fun y=>match x,y with
  | .int i,.int j=>M.when (qAE i∧qAE j) (M.ret (.row (qAK i (j-i).toNat)))
  | _,_=>M.bad
 | .rng3 a b c,σ=>(den a σ).bind fun x=>(den b σ).bind fun y=>(den c σ).bind fun z=>match x,y,z with
  | .int i,.int j,.int k=>M.when ((qAE i∧qAE j)∧0<k∧k<1073741824) (M.ret (.row (qNy i k (nS i j k))))
  | _,_,_=>M.bad
noncomputable def denP:CP→Env→M (Option Int)
 | .no,_=>M.ret none
 | .at e,σ=>(den e σ).bind intD
noncomputable def denT:CT→Env→M Bool
 | .val e,σ=>(den e σ).bind truth
 | .and a b,σ=>(denT a σ).bind fun x=>if x then denT b σ else M.ret false
 | .or a b,σ=>(denT a σ).bind fun x=>if x then M.ret true else denT b σ
 | .not a,σ=>(denT a σ).bind fun b=>M.ret (!b)
end
end
inductive SR where
 | nx (σ:Env) (h:AH) | rt (d:D) (h:AH) | bk (σ:Env) (h:AH) | ct (σ:Env) (h:AH) | exc (c:Nat) (σ:Env) (h:AH) | bad
noncomputable def SR.ofR {α:Type} (σ:Env):R α→(α→AH→SR)→SR
 | .ok a h,f=>f a h
 | .exc c h,_=>.exc c σ h
 | .bad,_=>.bad
noncomputable def SR.andThen:SR→(Env→AH→SR)→SR
 | .nx σ h,f=>f σ h
 | r,_=>r
noncomputable def tgSet (t:TG) (d:D) (σ:Env):Option Env:=match t with
 | .nm i=>some (σ.set i (some d))
 | .two i j=>match d with
  | .tup [a,b]=>some ((σ.set i (some a)).set j (some b))
  | _=>none
noncomputable def SR.calm:SR→SR
 | .exc _ _ _=>.bad
 | r=>r
noncomputable def SR.rtO:SR→SR
 | .rt d h=>.rt d h
 | _=>.bad
noncomputable def SR.catch:SR→(Nat→Env→AH→SR)→SR
 | .exc c σ h,f=>f c σ h
 | r,_=>r
noncomputable def SR.turn:SR→(Env→AH→SR)→SR
 | .nx σ h,f=>f σ h
 | .ct σ h,f=>f σ h
 | .bk σ h,_=>.nx σ h
 | .exc _ _ _,_=>.bad
 | r,_=>r
noncomputable def qAL (t:TG) (b:Env→AH→SR) (x:D) (σ:Env) (h:AH):SR:=match tgSet t x σ with
 | some σ'=>b σ' h
 | none=>.bad
noncomputable def qBi (step:D→Env→AH→SR):List D→Env→AH→SR
 | [],σ,h=>.nx σ h
 | x::xs,σ,h=>(step x σ h).turn (qBi step xs)
noncomputable def qAH (step:D→Env→AH→SR) (i:Nat):Nat→Nat→Env→AH→SR
 | 0,_,_,_=>.bad
 | n+1,k,σ,h=>match getL h i with
  | none=>.bad
  | some xs=>match xs[k]? with
   | none=>.nx σ h
   | some x=>(step x σ h).turn (qAH step i n (k+1))
noncomputable def forIt (step:D→Env→AH→SR):It→Env→AH→SR
 | .row xs,σ,h=>qBi step xs σ h
 | .live i,σ,h=>qAH step i (liveN h i) 0 σ h
noncomputable def qKy (c:Env→M Bool) (step:Env→AH→SR):Nat→Env→AH→SR
 | 0,_,_=>.bad
 | n+1,σ,h=>match c σ h with
  | .ok b h1=>if b then (step σ h1).turn (qKy c step n) else .nx σ h1
  | _=>.bad
section
variable (F:Nat→List D→M D) (B:Nat)
mutual
noncomputable def denS:CS→Env→AH→SR
 | .skip,σ,h=>.nx σ h
 | .opq,_,_=>.bad
 | .seq a b,σ,h=>(denS a σ h).andThen (denS b)
 | .set t e,σ,h=>SR.ofR σ (den F e σ h) fun d h1=>match tgSet t d σ with
  | some σ'=>.nx σ' h1
  | none=>.bad
 | .exp e,σ,h=>SR.ofR σ (den F e σ h) fun _ h1=>.nx σ h1
 | .ret e,σ,h=>SR.ofR σ (den F e σ h) fun d h1=>.rt d h1
 | .retN,_,h=>.rt .non h
 | .ite c a b,σ,h=>SR.ofR σ (denT F c σ h) fun k h1=>if k then denS a σ h1 else denS b σ h1
 | .fori t it b,σ,h=>SR.ofR σ (denI F it σ h).calm fun r h1=>forIt (qAL t (denS b)) r σ h1
 | .whil c b,σ,h=>qKy (denT F c) (denS b) B σ h
 | .brk,σ,h=>.bk σ h
 | .cnt,σ,h=>.ct σ h
 | .raise c,σ,h=>.exc c σ h
 | .setF a k cs e,σ,h=>SR.ofR σ (den F e σ h) fun d h1=>SR.ofR σ ((den F a σ).bind (setFD k cs d) h1) fun _ h2=>.nx σ h2
 | .setIx a i e,σ,h=>SR.ofR σ (den F e σ h) fun d h1=>SR.ofR σ ((den F a σ).bind (fun x=>(den F i σ).bind fun y=>qEX d x y) h1) fun _ h2=>.nx σ h2
 | .tryx b hs,σ,h=>(denS b σ h).catch fun c σ' h'=>denH hs c σ' h'
noncomputable def denH:CH→Nat→Env→AH→SR
 | .nil,_,_,_=>.bad
 | .cons cs k r,c,σ,h=>if cs.contains c then (denS k σ h).calm else denH r c σ h
 | .as cs i k r,c,σ,h=>if cs.contains c then (denS k (σ.set i (some (.ref h.length))) (h++[.xc c])).rtO else denH r c σ h
end
end
structure Fn where
 ar:Nat
 sl:Nat
 body:CS
noncomputable def fin:SR→R D
 | .nx _ h'=>.ok .non h'
 | .rt d h'=>.ok d h'
 | .exc c _ h'=>.exc c h'
 | _=>.bad
noncomputable def runFn (F:Nat→List D→M D) (B:Nat) (f:Fn) (as:List D):M D:=fun h =>
 if as.length=f.ar then fin (denS F B f.body (as.map some++List.replicate (f.sl-f.ar) none) h) else .bad
noncomputable def callN (fs:List Fn) (B:Nat):Nat→Nat→List D→M D
 | 0,_,_=>M.bad
 | n+1,f,as=>match fs[f]? with
  | some fn=>runFn (callN fs B n) B fn as
  | none=>M.bad
end Fy
set_option Elab.async false
set_option linter.all false
namespace Fy
theorem M.bind_eq {α β:Type} (m:M α) (f:α→M β) (h:AH):M.bind m f h=(m h).bind f:=(rfl)
theorem R.bind_ok {α β:Type} (a:α) (h:AH) (f:α→AH→R β):R.bind (.ok a h) f=f a h:=(rfl)
theorem R.bind_exc {α β:Type} (c:Nat) (h:AH) (f:α→AH→R β):R.bind (.exc c h) f=.exc c h:=(rfl)
theorem R.bind_bad {α β:Type} (f:α→AH→R β):R.bind .bad f=.bad:=(rfl)
theorem M.ret_eq {α:Type} (a:α) (h:AH):M.ret a h=.ok a h:=(rfl)
theorem M.bad_eq {α:Type} (h:AH):(M.bad:M α) h=.bad:=(rfl)
theorem qFf {α:Type} (σ:Env) (a:α) (h:AH) (f:α→AH→SR):SR.ofR σ (.ok a h) f=f a h:=(rfl)
theorem qL0 {α:Type} (σ:Env) (c:Nat) (h:AH) (f:α→AH→SR):SR.ofR σ (.exc c h) f=.exc c σ h:=(rfl)
theorem qL1 {α:Type} (σ:Env) (f:α→AH→SR):SR.ofR σ .bad f=.bad:=(rfl)
theorem qF9 {α:Type} (c:Prop) [Decidable c] (m:M α) (h:AH):M.when c m h=if c then m h else .bad:=(rfl)
end Fy
namespace Fy
end Fy
namespace Fy
theorem qG0 (f:Env→AH→SR):SR.andThen .bad f=.bad:=(rfl)
theorem qA6 (σ:Env) (h:AH) (f:Env→AH→SR):SR.andThen (.nx σ h) f=f σ h:=(rfl)
theorem qH8 (d:D) (h:AH) (f:Env→AH→SR):SR.andThen (.rt d h) f=.rt d h:=(rfl)
theorem qIA (σ:Env) (h:AH) (f:Env→AH→SR):SR.andThen (.bk σ h) f=.bk σ h:=(rfl)
theorem qH9 (σ:Env) (h:AH) (f:Env→AH→SR):SR.andThen (.ct σ h) f=.ct σ h:=(rfl)
theorem qGz (c:Nat) (σ:Env) (h:AH) (f:Env→AH→SR):SR.andThen (.exc c σ h) f=.exc c σ h:=(rfl)
theorem qEl (σ:Env) (h:AH) (f:Env→AH→SR):SR.turn (.nx σ h) f=f σ h:=(rfl)
theorem qLZ (σ:Env) (h:AH) (f:Env→AH→SR):SR.turn (.ct σ h) f=f σ h:=(rfl)
theorem qLa (σ:Env) (h:AH) (f:Env→AH→SR):SR.turn (.bk σ h) f=.nx σ h:=(rfl)
theorem qLY (d:D) (h:AH) (f:Env→AH→SR):SR.turn (.rt d h) f=.rt d h:=(rfl)
theorem qJy (c:Nat) (σ:Env) (h:AH) (f:Env→AH→SR):SR.turn (.exc c σ h) f=.bad:=(rfl)
theorem qAT (i:Nat) (b:Env→AH→SR) (x:D) (σ:Env) (h:AH):qAL (.nm i) b x σ h=b (σ.set i (some x)) h:=(rfl)
theorem qHZ (i j:Nat) (b:Env→AH→SR) (x y:D) (σ:Env) (h:AH):qAL (.two i j) b (.tup [x,y]) σ h=b ((σ.set i (some x)).set j (some y)) h:=(rfl)
theorem qIo {i j:Int} (h:-18446744073709551616<j∧j<18446744073709551616):mulOk i j:=.inr h
theorem qGN {i j:Int} (h:-18446744073709551616<i∧i<18446744073709551616):mulOk i j:=.inl h
theorem qAG {h:AH} {i:Nat} {xs:List D} (g:AH) (e:getL h i=some xs):getL (h++g) i=some xs:=by
 unfold getL at e ⊢
 cases q:h[i]? with
 | none=>rw [q] at e;cases e
 | some o =>
  have hl:=(List.getElem?_eq_some_iff.mp q).1
  rw [List.getElem?_append_left hl,q]
  rw [q] at e
  exact e
end Fy
namespace Fy
theorem qJ7 (σ:Env) (h:AH):SR.calm (.nx σ h)=.nx σ h:=(rfl)
theorem qJ6 (d:D) (h:AH):SR.calm (.rt d h)=.rt d h:=(rfl)
theorem qIs (m i:Nat) (h:AH):mclsD m (.ref i) h=(match h[i]? with | some (.ins c fs)=>if (getN m fs).isNone then .ok c h else .bad | _=>.bad):=(rfl)
theorem qIS (k:Nat) (cs:List Nat) (d:D) (i:Nat) (h:AH):setFD k cs d (.ref i) h=(match h[i]? with | some (.ins c fs)=>if cs.contains c=true∧fs.length<1000 then .ok () (h.set i (.ins c (putN k d fs))) else .bad | _=>.bad):=(rfl)
theorem qHd (d:D) (k:Nat) (j:Int) (h:AH):qEX d (.ref k) (.int j) h=(match h[k]? with | some (.lst xs)=>(match ixN xs.length j with | some p=>.ok () (h.set k (.lst (xs.set p d))) | none=>.bad) | _=>putKD d k (.int j) h):=(rfl)
theorem qHc (d:D) (k:Nat) (x:Tx) (h:AH):qEX d (.ref k) (.str x) h=putKD d k (.str x) h:=(rfl)
theorem qNx (d:D) (h:AH):SR.rtO (.rt d h)=.rt d h:=(rfl)
theorem qKs (σ:Env) (h:AH) (f:Nat→Env→AH→SR):SR.catch (.nx σ h) f=.nx σ h:=(rfl)
theorem qKr (d:D) (h:AH) (f:Nat→Env→AH→SR):SR.catch (.rt d h) f=.rt d h:=(rfl)
theorem qJc (c:Nat) (σ:Env) (h:AH) (f:Nat→Env→AH→SR):SR.catch (.exc c σ h) f=f c σ h:=(rfl)
theorem qMk:fin .bad=.bad:=(rfl)
theorem qOx (σ:Env) (h:AH):fin (.nx σ h)=.ok .non h:=(rfl)
theorem qOw (d:D) (h:AH):fin (.rt d h)=.ok d h:=(rfl)
theorem qMj (c:Nat) (σ:Env) (h:AH):fin (.exc c σ h)=.exc c h:=(rfl)
end Fy
namespace Fy
theorem qBh (I:Nat→Env→AH→Prop) (step:D→Env→AH→SR):∀ (xs:List D) (k:Nat) (σ:Env) (h:AH),I k σ h →
    (∀ j x σ h,xs[j]?=some x→I (k+j) σ h→∃ σ' h',step x σ h=.nx σ' h'∧I (k+j+1) σ' h')→∃ σ' h',qBi step xs σ h=.nx σ' h'∧I (k+xs.length) σ' h'
  | [],k,σ,h,i0,_=>⟨σ,h,rfl,i0⟩
  | x::xs,k,σ,h,i0,H=>by
    obtain ⟨σ1,h1,e1,i1⟩:=H 0 x σ h rfl i0
    obtain ⟨σ2,h2,e2,i2⟩:=qBh I step xs (k+1) σ1 h1 i1 fun j y σ h hy i=>by
      have:=H (j+1) y σ h (by simpa using hy) (by rw [show k+(j+1)=k+1+j by omega];exact i)
      rwa [show k+(j+1)=k+1+j by omega] at this
    refine ⟨σ2,h2,?_,by rw [List.length_cons,show k+(xs.length+1)=k+1+xs.length by omega];exact i2⟩
    rw [qBi,e1]
    exact e2
theorem qEe (I:Nat→Env→AH→Prop) (step:D→Env→AH→SR) (i:Nat) (xs:List D) (hg:∀ k σ h,I k σ h→getL h i=some xs)
    (H:∀ j x σ h,xs[j]?=some x→I j σ h→∃ σ' h',step x σ h=.nx σ' h'∧I (j+1) σ' h') :
    ∀ (n k:Nat) (σ:Env) (h:AH),n+k=xs.length+1→k≤xs.length→I k σ h→∃ σ' h',qAH step i n k σ h=.nx σ' h'∧I xs.length σ' h'
  | 0,k,σ,h,hn,hk,i0=>by omega
  | n+1,k,σ,h,hn,hk,i0=>by
    unfold qAH
    rw [hg k σ h i0]
    simp only
    by_cases hlt:k<xs.length
    · have e:xs[k]?=some xs[k]:=by simp [hlt]
      rw [e]
      simp only
      obtain ⟨σ1,h1,e1,i1⟩:=H k _ σ h e i0
      rw [e1]
      exact qEe I step i xs hg H n (k+1) σ1 h1 (by omega) hlt i1
    · have e:k=xs.length:=by omega
      subst e
      have e2:xs[xs.length]?=none:=by simp
      rw [e2]
      exact ⟨σ,h,rfl,i0⟩
theorem qHy (I:Nat→Env→AH→Prop) (step:D→Env→AH→SR) (i:Nat) (xs:List D) (σ:Env) (h:AH) (i0:I 0 σ h) (hg:∀ k σ h,I k σ h→getL h i=some xs)
    (H:∀ j x σ h,xs[j]?=some x→I j σ h→∃ σ' h',step x σ h=.nx σ' h'∧I (j+1) σ' h'):∃ σ' h',qAH step i (liveN h i) 0 σ h=.nx σ' h'∧I xs.length σ' h':=by
  unfold liveN
  rw [hg 0 σ h i0]
  exact qEe I step i xs hg H _ 0 σ h rfl (Nat.zero_le _) i0
theorem qB1 {lo:Int} {n j:Nat} {x:D} (h:(qAK lo n)[j]?=some x):j<n∧x=.int (lo+j):=by
 unfold qAK at h
 rw [List.getElem?_map] at h
 by_cases hj:j<n
 ·rw [List.getElem?_range hj] at h
  exact ⟨hj,(Option.some.inj h).symm⟩
 ·rw [List.getElem?_eq_none (by simp;omega)] at h
  cases h
theorem qAe (lo:Int) (n:Nat):(qAK lo n).length=n:=by
 unfold qAK
 simp
end Fy
namespace Fy
theorem qDn (f:D→M (Option D)) (g:D→D) (h:AH):∀ xs:List D,(∀ x∈xs,f x h=.ok (some (g x)) h)→qA4 f xs h=.ok (xs.map g) h
 | [],_=>rfl
 | x::xs,H=>by
  have h1:=H x (List.mem_cons_self ..)
  have h2:=qDn f g h xs fun y hy=>H y (List.mem_cons_of_mem _ hy)
  unfold qA4
  simp only [M.bind_eq,h1,R.bind_ok,h2,M.ret_eq,List.map_cons]
theorem qKc (h:AH) (xs:List D):getL (h++[.lst xs]) h.length=some xs:=by
 unfold getL
 simp
theorem qGm {α:Type} (f:α→Bool) (xs:List α):qBI (xs.map fun c=>.bl (f c))=some (xs.map f):=by
 induction xs with
 | nil=>rfl
 | cons x xs ih=>simp only [List.map_cons,qBI,ih,Option.map_some]
theorem qKw {α:Type} (f:α→Bool) (xs:List α):allB (xs.map fun c=>.bl (f c))=some (xs.all f):=by
 unfold allB
 rw [qGm,Option.map_some,List.all_map]
 rfl
end Fy
namespace Fy
theorem qIu (f:D→M (Option D)) (xs:List D) (h:AH):mapIt f (.row xs) h=if xs.length<16777216 then qA4 f xs h else .bad:=(rfl)
theorem qEZ (f:D→M (Option D)) (i:Nat) (h:AH):mapIt f (.live i) h=if liveN h i<16777216 then qAN f i (liveN h i) 0 h else .bad:=(rfl)
theorem qKm (m:Env→M D) (σ:Env) (x:D) (h:AH):compF m σ x h=R.bind (m (σ++[some x]) h).calm fun y h'=>.ok (some y) h':=(rfl)
theorem qJe {α:Type} (a:α) (h:AH):(R.ok a h).calm=.ok a h:=(rfl)
theorem qM1 {α:Type} (m:M α) (h:AH):M.calm m h=(m h).calm:=(rfl)
theorem qBT (a c:Nat):decide ((a:Int)≤(c:Int))=decide (a≤c):=by
 rw [Bool.eq_iff_iff]
 simp
theorem qHu (a c:Nat):decide ((a:Int)<(c:Int))=decide (a<c):=by
 rw [Bool.eq_iff_iff]
 simp
theorem qC7 (a c:Nat):((a:Int) == (c:Int))=decide (a=c):=by
 rw [Bool.eq_iff_iff]
 simp
 omega
end Fy
namespace Fy
theorem qAb {n k:Nat} (h:k<n):ixN n (k:Int)=some k:=by
 unfold ixN
 rw [if_pos (by omega),if_pos (by omega),Int.toNat_natCast]
end Fy
set_option Elab.async false
set_option linter.all false
namespace Fy
theorem qNK (i:Int) (h:AH):unD .neg (.int i) h=(.ok (.int (-i)) h):=(rfl)
theorem qNN (x:Tx) (h:AH):unD .len (.str x) h=(if x.length≤16777216 then .ok (.int x.length) h else .bad):=(rfl)
theorem qNM (xs:List D) (h:AH):unD .len (.tup xs) h=(.ok (.int xs.length) h):=(rfl)
theorem qNL (i:Nat) (h:AH):unD .len (.ref i) h=(match getL h i with | some xs=>.ok (.int xs.length) h | none=>.bad):=(rfl)
theorem qND (i:Int) (h:AH):unD .str (.int i) h=(if i.natAbs.log2<1920 then .ok (.str (txI i)) h else .bad):=(rfl)
theorem qNX (i:Int) (h:AH):unD .int (.int i) h=(.ok (.int i) h):=(rfl)
theorem qNW (b:Bool) (h:AH):unD .int (.bl b) h=(.ok (.int (b2i b)) h):=(rfl)
theorem qNV (x:Tx) (h:AH):unD .int (.str x) h=(if x≠[]∧x.length≤640∧isDig x=true then .ok (.int (digV x)) h else .bad):=(rfl)
theorem qNF (c:Nat) (h:AH):unD .ord (.str [c]) h=(.ok (.int c) h):=(rfl)
theorem qJw (xs:List D) (h:AH):unD .tuple (.tup xs) h=(.ok (.tup xs) h):=(rfl)
theorem qJv (i:Nat) (h:AH):unD .tuple (.ref i) h=(match getL h i with | some xs=>.ok (.tup xs) h | none=>.bad):=(rfl)
theorem qLX (xs:List D) (h:AH):unD .list (.tup xs) h=(newL xs h):=(rfl)
theorem qLW (i:Nat) (h:AH):unD .list (.ref i) h=(match getL h i with | some xs=>newL xs h | none=>.bad):=(rfl)
theorem qNa (i:Nat) (h:AH):unD .all (.ref i) h=(match (getL h i).bind allB with | some b=>.ok (.bl b) h | none=>.bad):=(rfl)
theorem qNZ (i:Nat) (h:AH):unD .any (.ref i) h=(match (getL h i).bind anyB with | some b=>.ok (.bl b) h | none=>.bad):=(rfl)
theorem qJu (x:Tx) (h:AH):unD .upper (.str x) h=(if x.length≤1000000∧x.all (fun c=>decide (c<128))=true then .ok (.str (x.map upC)) h else .bad):=(rfl)
theorem qNC (i:Nat) (h:AH):unD .sum (.ref i) h=(match (getL h i).bind qAr with | some xs=>.ok (.int xs.sum) h | none=>.bad):=(rfl)
theorem qIE (i:Nat) (h:AH):unD .sorted (.ref i) h=(match (getL h i).bind qAr with | some xs=>if xs.length<64 then newL ((sortZ xs).map .int) h else .bad | none=>.bad):=(rfl)
theorem qLV (j:Int) (h:AH):unD .lrng (.int j) h=(if qAE j then newL (qAK 0 j.toNat) h else .bad):=(rfl)
theorem qNE (i:Nat) (h:AH):unD .rev (.ref i) h=(match getL h i with | some xs=>newL xs.reverse h | none=>.bad):=(rfl)
theorem qJx (i:Nat) (h:AH):unD .clear (.ref i) h=(match h[i]? with | some (.lst _)=>.ok .non (h.set i (.lst [])) | _=>.bad):=(rfl)
theorem qNO (cs xl:List Nat) (i:Nat) (h:AH):unD (.isx cs xl) (.ref i) h=(match h[i]? with | some (.xc c)=>if xl.contains c then .ok (.bl (cs.contains c)) h else .bad | _=>.bad):=(rfl)
theorem qNY (k i:Nat) (h:AH):unD (.fld k) (.ref i) h=(match h[i]? with | some (.ins _ fs)=>(match getN k fs with | some d=>.ok d h | none=>.bad) | _=>.bad):=(rfl)
theorem qNQ (d:D) (h:AH):unD .isN d h=(.ok (.bl (match d with | .non=>true | _=>false)) h):=(rfl)
theorem qLU (d:D) (h:AH):unD .notN d h=(.ok (.bl (match d with | .non=>false | _=>true)) h):=(rfl)
theorem qNU (b c:Bool) (h:AH):unD (.isB b) (.bl c) h=(.ok (.bl (b == c)) h):=(rfl)
theorem qNT (b:Bool) (h:AH):unD (.isB b) (.non) h=(.ok (.bl false) h):=(rfl)
theorem qNS (b:Bool) (i:Int) (h:AH):unD (.isB b) (.int i) h=(.ok (.bl false) h):=(rfl)
theorem qNR (b:Bool) (x:Tx) (h:AH):unD (.isB b) (.str x) h=(.ok (.bl false) h):=(rfl)
theorem qNJ (b c:Bool) (h:AH):unD (.nsB b) (.bl c) h=(.ok (.bl (!(b == c))) h):=(rfl)
theorem qNI (b:Bool) (h:AH):unD (.nsB b) (.non) h=(.ok (.bl true) h):=(rfl)
theorem qNH (b:Bool) (i:Int) (h:AH):unD (.nsB b) (.int i) h=(.ok (.bl true) h):=(rfl)
theorem qNG (b:Bool) (x:Tx) (h:AH):unD (.nsB b) (.str x) h=(.ok (.bl true) h):=(rfl)
theorem qNP (t:Ty) (d:D) (h:AH):unD (.isi t) d h=(match isiD h t d with | some b=>.ok (.bl b) h | none=>.bad):=(rfl)
theorem qOO (i j:Int) (h:AH):biD .add (.int i) (.int j) h=(.ok (.int (i+j)) h):=(rfl)
theorem qON (a b:Tx) (h:AH):biD .add (.str a) (.str b) h=(if a.length+b.length≤16777216 then .ok (.str (a++b)) h else .bad):=(rfl)
theorem qOM (a b:List D) (h:AH):biD .add (.tup a) (.tup b) h=(if a.length+b.length≤16777216 then .ok (.tup (a++b)) h else .bad):=(rfl)
theorem qOL (i j:Nat) (h:AH):biD .add (.ref i) (.ref j) h=(match h[i]?,h[j]? with | some (.lst xs),some (.lst ys)=>newL (xs++ys) h | _,_=>.bad):=(rfl)
theorem qOE (i j:Int) (h:AH):biD .sub (.int i) (.int j) h=(.ok (.int (i-j)) h):=(rfl)
theorem qOI (i j:Int) (h:AH):biD .mul (.int i) (.int j) h=(if mulOk i j then .ok (.int (i*j)) h else .bad):=(rfl)
theorem qOH (x:Tx) (n:Int) (h:AH):biD .mul (.str x) (.int n) h=(if 0≤n∧n≤1000000∧x≠[]∧x.length*n.toNat≤16777216 then .ok (.str (List.replicate n.toNat x).flatten) h else .bad):=(rfl)
theorem qKC (a:Tx) (c:Nat) (h:AH):biD .split (.str a) (.str [c]) h=(if c<256∧a.length≤1000000 then newL ((qHB a (posC c 0 a)).map .str) h else .bad):=(rfl)
theorem qL2 (a:Tx) (c:Nat) (h:AH):biD .part (.str a) (.str [c]) h=(if a.length≤1000000 then .ok (.tup ((partT a c).map .str)) h else .bad):=(rfl)
theorem qKD (a:Tx) (c:Nat) (h:AH):biD .rpart (.str a) (.str [c]) h=(if a.length≤1000000 then .ok (.tup ((qK3 a c).map .str)) h else .bad):=(rfl)
theorem qOK (k:Nat) (i:Int) (h:AH):biD .get (.ref k) (.int i) h=(getK k (.int i) h):=(rfl)
theorem qOG (k:Nat) (i:Int) (h:AH):biD .pop (.ref k) (.int i) h=(popK k (.int i) h):=(rfl)
theorem qL5 (i j:Int) (h:AH):biD .lrng (.int i) (.int j) h=(if qAE i∧qAE j then newL (qAK i (j-i).toNat) h else .bad):=(rfl)
theorem qL6 (k:Nat) (i:Int) (h:AH):biD .lpop (.ref k) (.int i) h=(lpopK k i h):=(rfl)
theorem qIj (a b:Tx) (h:AH):biD .starts (.str a) (.str b) h=(.ok (.bl (b.isPrefixOf a)) h):=(rfl)
theorem qKG (k:Nat) (b:Bool) (h:AH):biD .index (.ref k) (.bl b) h=(match (getL h k).bind qBI with | some bs=>if bs.findIdx (· == b)<bs.length then .ok (.int (bs.findIdx (· == b))) h else .bad | none=>.bad):=(rfl)
theorem qMD (i j:Int) (h:AH):biD .fdiv (.int i) (.int j) h=(if 0<j∧j<1073741824 then .ok (.int (i / j)) h else .bad):=(rfl)
theorem qOJ (i j:Int) (h:AH):biD .mod (.int i) (.int j) h=(if 0<j then .ok (.int (i % j)) h else .bad):=(rfl)
theorem qOF (i j:Int) (h:AH):biD .pow (.int i) (.int j) h=(if 0≤j∧j≤1000000∧i.natAbs<18446744073709551616 then .ok (.int (i ^ j.toNat)) h else .bad):=(rfl)
theorem o_eq1 (x y:D) (h:AH):biD .eq x y h=(match eqTop h x y with | some b=>.ok (.bl b) h | none=>.bad):=(rfl)
theorem o_ne1 (x y:D) (h:AH):biD .ne x y h=(match eqTop h x y with | some b=>.ok (.bl (!b)) h | none=>.bad):=(rfl)
theorem o_lt1 (i j:Int) (h:AH):biD .lt (.int i) (.int j) h=(.ok (.bl (decide (i<j))) h):=(rfl)
theorem o_le1 (i j:Int) (h:AH):biD .le (.int i) (.int j) h=(.ok (.bl (decide (i≤j))) h):=(rfl)
theorem o_gt1 (i j:Int) (h:AH):biD .gt (.int i) (.int j) h=(.ok (.bl (decide (j<i))) h):=(rfl)
theorem o_ge1 (i j:Int) (h:AH):biD .ge (.int i) (.int j) h=(.ok (.bl (decide (j≤i))) h):=(rfl)
theorem qMB (c:Nat) (b:Tx) (h:AH):biD .isin (.str [c]) (.str b) h=(.ok (.bl (b.contains c)) h):=(rfl)
theorem qMA (a:Int) (i:Nat) (h:AH):biD .isin (.int a) (.ref i) h=(match (getL h i).bind qAr with | some xs=>.ok (.bl (xs.contains a)) h | none=>hasK i (.int a) h):=(rfl)
theorem qL9 (a:Tx) (xs:List D) (h:AH):biD .isin (.str a) (.tup xs) h=(match qAs xs with | some ys=>.ok (.bl (ys.contains a)) h | none=>.bad):=(rfl)
theorem qL8 (a:List D) (i:Nat) (h:AH):biD .isin (.tup a) (.ref i) h=(match (getL h i).bind (anyD fun x=>eqTop h x (.tup a)) with | some b=>.ok (.bl b) h | none=>.bad):=(rfl)
theorem qKF (a:Int) (i:Nat) (h:AH):biD .notin (.int a) (.ref i) h=(match (getL h i).bind qAr with | some xs=>.ok (.bl (!xs.contains a)) h | none=>.bad):=(rfl)
theorem qKE (c:Nat) (b:Tx) (h:AH):biD .notin (.str [c]) (.str b) h=(.ok (.bl (!b.contains c)) h):=(rfl)
theorem o_ix1 (xs:List D) (i:Int) (h:AH):biD .ix (.tup xs) (.int i) h=(match (ixN xs.length i).bind (xs[·]?) with | some d=>.ok d h | none=>.bad):=(rfl)
theorem o_ix2 (x:Tx) (i:Int) (h:AH):biD .ix (.str x) (.int i) h=(if x.length≤16777216 then (match (ixN x.length i).bind (x[·]?) with | some c=>.ok (.str [c]) h | none=>.bad) else .bad):=(rfl)
theorem o_ix3 (k:Nat) (i:Int) (h:AH):biD .ix (.ref k) (.int i) h=(match (getL h k).bind fun xs=>(ixN xs.length i).bind (xs[·]?) with | some d=>.ok d h | none=>ixK k (.int i) h):=(rfl)
theorem o_ix4 (k:Nat) (x:Tx) (h:AH):biD .ix (.ref k) (.str x) h=(ixK k (.str x) h):=(rfl)
theorem qL3 (i j:Int) (h:AH):biD .min2 (.int i) (.int j) h=(.ok (.int (if j<i then j else i)) h):=(rfl)
theorem qL4 (i j:Int) (h:AH):biD .max2 (.int i) (.int j) h=(.ok (.int (if j > i then j else i)) h):=(rfl)
theorem qMC (a:Tx) (c:Nat) (h:AH):biD .find (.str a) (.str [c]) h=(.ok (.int (findC a c)) h):=(rfl)
theorem qKB (x:Tx) (n:Int) (h:AH):biD .zfill (.str x) (.int n) h=(if 0≤n∧n≤1000∧isDig x=true∧x.length≤1000 then .ok (.str (List.replicate (n.toNat-x.length) 48++x)) h else .bad):=(rfl)
theorem qL7 (x:Tx) (i:Nat) (h:AH):biD .join (.str x) (.ref i) h=(match (getL h i).bind qAs with | some xs=>if joinN x xs≤16777216 then .ok (.str (joinT x xs)) h else .bad | none=>.bad):=(rfl)
theorem qIl (k:Nat) (d:D) (h:AH):biD .append (.ref k) d h=(match h[k]? with | some (.lst xs)=>if xs.length<16777216 then .ok .non (h.set k (.lst (xs++[d]))) else .bad | _=>.bad):=(rfl)
theorem qIk (k:Nat) (d:D) (h:AH):biD .remove (.ref k) d h=(match h[k]? with | some (.lst xs)=>(match remD (fun x=>eqTop h x d) xs with | some ys=>.ok .non (h.set k (.lst ys)) | none=>.bad) | _=>.bad):=(rfl)
theorem t_non  (h:AH):truth .non h=(.ok false h):=(rfl)
theorem t_bl (b:Bool) (h:AH):truth (.bl b) h=(.ok b h):=(rfl)
theorem t_int (i:Int) (h:AH):truth (.int i) h=(.ok (i != 0) h):=(rfl)
theorem t_str (x:Tx) (h:AH):truth (.str x) h=(if x.length≤16777216 then .ok (!x.isEmpty) h else .bad):=(rfl)
theorem t_tup (xs:List D) (h:AH):truth (.tup xs) h=(.ok (!xs.isEmpty) h):=(rfl)
theorem t_ref (i:Nat) (h:AH):truth (.ref i) h=(match getL h i with | some xs=>.ok (!xs.isEmpty) h | none=>.bad):=(rfl)
theorem qOl (x:Tx) (h:AH):itOf (.str x) h=(.ok (.row (x.map fun c=>.str [c])) h):=(rfl)
theorem qOk (xs:List D) (h:AH):itOf (.tup xs) h=(.ok (.row xs) h):=(rfl)
theorem qLI (i:Nat) (h:AH):itOf (.ref i) h=(match getL h i with | some _=>.ok (.live i) h | none=>.bad):=(rfl)
theorem qLm (x:Tx) (l u:Option Int) (h:AH):slD (.str x) l u h=(if x.length≤16777216 then .ok (.str (cutX x l u)) h else .bad):=(rfl)
theorem qLl (x:List D) (l u:Option Int) (h:AH):slD (.tup x) l u h=(.ok (.tup (cutX x l u)) h):=(rfl)
theorem qLo (i:Nat) (l u:Option Int) (h:AH):slD (.ref i) l u h=(match getL h i with | some xs=>newL (cutX xs l u) h | none=>.bad):=(rfl)
theorem qIr (i:Nat) (h:AH):meOk .append (.ref i) h=(match getL h i with | some _=>.ok () h | none=>.bad):=(rfl)
theorem qIq (i:Nat) (h:AH):meOk .remove (.ref i) h=(match getL h i with | some _=>.ok () h | none=>.bad):=(rfl)
theorem qKO (x:Tx) (h:AH):meOk .zfill (.str x) h=.ok () h:=(rfl)
theorem qMM (x:Tx) (h:AH):meOk .join (.str x) h=.ok () h:=(rfl)
theorem qMN (x:Tx) (h:AH):meOk .find (.str x) h=.ok () h:=(rfl)
theorem qOT (i:Nat) (h:AH):meOk .get (.ref i) h=(match h[i]? with | some (.dct _)=>.ok () h | _=>.bad):=(rfl)
theorem qOS (i:Nat) (h:AH):meOk .pop (.ref i) h=(match h[i]? with | some (.dct _)=>.ok () h | _=>.bad):=(rfl)
theorem qML (i:Nat) (h:AH):meOk .lpop (.ref i) h=(match getL h i with | some _=>.ok () h | none=>.bad):=(rfl)
theorem qIp (x:Tx) (h:AH):meOk .starts (.str x) h=.ok () h:=(rfl)
theorem qKR (i:Nat) (h:AH):meOk .index (.ref i) h=(match getL h i with | some _=>.ok () h | none=>.bad):=(rfl)
theorem qKP (x:Tx) (h:AH):meOk .split (.str x) h=.ok () h:=(rfl)
theorem qMK (x:Tx) (h:AH):meOk .part (.str x) h=.ok () h:=(rfl)
theorem qKQ (x:Tx) (h:AH):meOk .rpart (.str x) h=.ok () h:=(rfl)
theorem qJ5 (a:Tx) (c:Nat) (k:Int) (h:AH):splmD (.str a) (.str [c]) (.int k) h=(if (c<256∧a.length≤1000000)∧0≤k∧k≤1000000 then newL ((qHB a ((posC c 0 a).take k.toNat)).map .str) h else .bad):=(rfl)
theorem qIR (k:Nat) (i:Int) (d:D) (h:AH):setdD (.ref k) (.int i) d h=setdK k (.int i) d h:=(rfl)
theorem qKZ (i:Int) (h:AH):intD (.int i) h=.ok (some i) h:=(rfl)
theorem qMY (t:Ty)  (h:AH):isiD h t .non=(some false):=(rfl)
theorem qOo (t:Ty) (b:Bool) (h:AH):isiD h t (.bl b)=(some (t == .bool || t == .int)):=(rfl)
theorem qMZ (t:Ty) (i:Int) (h:AH):isiD h t (.int i)=(some (t == .int)):=(rfl)
theorem qMW (t:Ty) (x:Tx) (h:AH):isiD h t (.str x)=(some (t == .str)):=(rfl)
theorem qMV (t:Ty) (xs:List D) (h:AH):isiD h t (.tup xs)=(some (t == .tuple)):=(rfl)
theorem qMX (t:Ty) (i:Nat) (h:AH):isiD h t (.ref i)=((getL h i).map fun _=>t == .list):=(rfl)
theorem qJT  (h:AH):eqTop h .non .non=(some true):=(rfl)
theorem qMl (b1:Bool) (b2:Bool) (h:AH):eqTop h (.bl b1) (.bl b2)=(some (b1 == b2)):=(rfl)
theorem qKf (b1:Bool) (i2:Int) (h:AH):eqTop h (.bl b1) (.int i2)=(some (b2i b1 == i2)):=(rfl)
theorem qKe (i1:Int) (b2:Bool) (h:AH):eqTop h (.int i1) (.bl b2)=(some (i1 == b2i b2)):=(rfl)
theorem qJU (i1:Int) (i2:Int) (h:AH):eqTop h (.int i1) (.int i2)=(some (i1 == i2)):=(rfl)
theorem qJR (x1:Tx) (x2:Tx) (h:AH):eqTop h (.str x1) (.str x2)=(some (x1 == x2)):=(rfl)
theorem qJQ (t1:List D) (t2:List D) (h:AH):eqTop h (.tup t1) (.tup t2)=(eqW (eqD h 39) t1 t2):=(rfl)
end Fy
set_option Elab.async false
set_option linter.all false
set_option maxRecDepth 100000
set_option maxHeartbeats 4000000
namespace Fy
open PySem PySem.Spec PyProof.Rows
open L2 (V Hp HO VK TE TT TA TS TI Cx Inv RelV Vals SqL SqT Rd upd qAB qAC PE PT PA PS PSs EP)
mutual
noncomputable def RepV (K:PySem.W.Frag) (ρ:List Addr) (H:Hp):D→V→Prop
 | .non,v=>v=.non
 | .bl b,v=>v=.bl b
 | .int i,v=>v=.int i
 | .str x,v=>v=.str ⟨x.toArray⟩
 | .tup xs,v=>∃ a vs,v=.ref a∧SqT K H a vs∧RepL K ρ H xs vs
 | .ref i,v=>∃ a,ρ[i]?=some a∧v=.ref a
noncomputable def RepL (K:PySem.W.Frag) (ρ:List Addr) (H:Hp):List D→List V→Prop
 | [],vs=>vs=[]
 | x::xs,vs=>∃ v r,vs=v::r∧RepV K ρ H x v∧RepL K ρ H xs r
end
noncomputable def KL (K:PySem.W.Frag) (a:Addr) (xs:List V):Prop :=
 ∃ (o:Obj) (its:Array Value) (n:Nat),K.lookup a=some o∧o.cls=.type "list"∧o.dict=none∧o.data=.seq its n∧its.size≤sizeLine∧Vals xs its.toList
noncomputable def ClsAt (K:PySem.W.Frag) (c:Nat) (C:Addr):Prop:=PySem.W.nsIn K mainGlobals (nmOf c)=some (some (.ref C))
noncomputable def xcO (a C:Addr):HO:=.ext fun h=>∃ o,h.get? a=some o∧o.cls=.ref C
noncomputable def RepF (K:PySem.W.Frag) (ρ:List Addr) (H:Hp) (C:Addr):List (Nat × D)→List (Str × V)→Prop
 | [],vs=>vs=[]
 | x::xs,vs=>∃ v r,vs=(nmOf x.1,v)::r∧x.1<256 ^ 60∧L2.NoAttr K C (nmOf x.1)∧RepV K ρ H x.2 v∧RepF K ρ H C xs r
noncomputable def kyV:Ky→L2.Key
 | .int i=>.inl i
 | .str x=>.inr ⟨x.toArray⟩
noncomputable def RepK (K:PySem.W.Frag) (ρ:List Addr) (H:Hp):List (Ky × D)→List (L2.Key × V)→Prop
 | [],vs=>vs=[]
 | x::xs,vs=>∃ v r,vs=(kyV x.1,v)::r∧RepV K ρ H x.2 v∧RepK K ρ H xs r
noncomputable def RepO (K:PySem.W.Frag) (ρ:List Addr) (H:Hp):O→Addr→Prop
 | .lst xs,a=>∃ vs,H a=some (.lst vs)∧RepL K ρ H xs vs
 | .rol xs,a=>∃ vs,((∃ o,H a=some (.frz o (.lst vs)))∨KL K a vs)∧RepL K ρ H xs vs
 | .ins c fs,a=>∃ C dx vs,ClsAt K c C∧L2.Cls K C∧H a=some (.ins C dx vs)∧RepF K ρ H C fs vs
 | .dct kvs,a=>∃ vs,H a=some (.dK vs)∧RepK K ρ H kvs vs
 | .xc c,a=>∃ C,ClsAt K c C∧H a=some (xcO a C)
noncomputable def mutO:O→Bool
 | .rol _=>false
 | .xc _=>false
 | _=>true
structure RepH (K:PySem.W.Frag) (ρ:List Addr) (h:AH) (H:Hp):Prop where
 len:ρ.length=h.length
 obj:∀ (i:Nat) (o:O),h[i]?=some o→∃ a,ρ[i]?=some a∧RepO K ρ H o a
 inj:∀ (i j:Nat) (a:Addr) (o o':O),h[i]?=some o→h[j]?=some o'→mutO o=true→mutO o'=true→ρ[i]?=some a→ρ[j]?=some a→i=j
noncomputable def Imm:HO→Bool
 | .tup _=>true
 | .frz _ _=>true
 | .ext _=>true
 | _=>false
structure Step (ρ:List Addr) (H:Hp) (ρ':List Addr) (H':Hp):Prop where
 pre:ρ <+: ρ'
 new:∀ a∈ρ',a∈ρ∨H a=none
 keep:∀ a o,H a=some o→(Imm o=true∨a∉ρ)→H' a=some o
theorem Step.refl (ρ:List Addr) (H:Hp):Step ρ H ρ H:=⟨List.prefix_refl _,fun _ h=>.inl h,fun _ _ h _=>h⟩
theorem Step.trans {ρ ρ1 ρ2:List Addr} {H H1 H2:Hp} (a:Step ρ H ρ1 H1) (b:Step ρ1 H1 ρ2 H2):Step ρ H ρ2 H2:=by
 refine ⟨a.pre.trans b.pre,fun x hx=>?_,fun x o h c=>b.keep x o (a.keep x o h c) (c.imp id fun n m=>?_)⟩
 ·rcases b.new x hx with h | h
  ·exact a.new x h
  ·by_cases m:x∈ρ
   ·exact .inl m
   ·cases q:H x with
    | none=>exact .inr rfl
    | some o =>
     rw [a.keep x o q (.inr m)] at h
     cases h
 ·rcases a.new x m with z | z
  ·exact n z
  ·rw [h] at z
   cases z
theorem Step.tup {ρ ρ':List Addr} {H H':Hp} (e:Step ρ H ρ' H') {a:Addr} {vs:List V} (h:Rd H a (.tup vs)):Rd H' a (.tup vs):=by
 rcases h with h | ⟨o,h⟩
 ·exact .inl (e.keep _ _ h (.inl rfl))
 ·exact .inr ⟨o,e.keep _ _ h (.inl rfl)⟩
theorem Step.sqt {K:PySem.W.Frag} {ρ ρ':List Addr} {H H':Hp} {a:Addr} {vs:List V} (e:Step ρ H ρ' H') (h:SqT K H a vs):SqT K H' a vs:=h.imp e.tup id
theorem qC4 {ρ ρ':List Addr} (p:ρ <+: ρ') {i:Nat} {a:Addr} (h:ρ[i]?=some a):ρ'[i]?=some a:=by
 obtain ⟨t,rfl⟩:=p
 rw [List.getElem?_append_left (List.getElem?_eq_some_iff.mp h).1]
 exact h
section
variable {K:PySem.W.Frag} {ρ ρ':List Addr} {H H':Hp} {a:Addr}
mutual
theorem RepV.mono (e:Step ρ H ρ' H'):∀ (d:D) (v:V),RepV K ρ H d v→RepV K ρ' H' d v
 | .non,_,h=>h
 | .bl _,_,h=>h
 | .int _,_,h=>h
 | .str _,_,h=>h
 | .tup xs,v,⟨a,vs,h1,h2,h3⟩=>⟨a,vs,h1,e.sqt h2,RepL.mono e xs vs h3⟩
 | .ref _,_,⟨a,h1,h2⟩=>⟨a,qC4 e.pre h1,h2⟩
theorem RepL.mono (e:Step ρ H ρ' H'):∀ (ds:List D) (vs:List V),RepL K ρ H ds vs→RepL K ρ' H' ds vs
 | [],_,h=>h
 | d::ds,_,⟨v,r,h1,h2,h3⟩=>⟨v,r,h1,RepV.mono e d v h2,RepL.mono e ds r h3⟩
end
theorem RepL.length:∀ {ds:List D} {vs:List V},RepL K ρ H ds vs→vs.length=ds.length
 | [],_,h=>by cases h;rfl
 | d::ds,_,⟨v,r,h1,_,h3⟩=>by subst h1;simp [RepL.length h3]
theorem RepL.get:∀ {ds:List D} {vs:List V} {i:Nat} {d:D},RepL K ρ H ds vs→ds[i]?=some d→∃ v,vs[i]?=some v∧RepV K ρ H d v
 | [],_,_,_,_,e=>by simp at e
 | x::ds,_,0,d,⟨v,r,h1,h2,_⟩,e=>by
  subst h1
  simp at e
  subst e
  exact ⟨v,rfl,h2⟩
 | x::ds,_,i+1,d,⟨v,r,h1,_,h3⟩,e=>by
  subst h1
  simpa using RepL.get (i:=i) h3 (by simpa using e)
theorem RepL.append:∀ {ds es:List D} {vs ws:List V},RepL K ρ H ds vs→RepL K ρ H es ws→RepL K ρ H (ds++es) (vs++ws)
 | [],_,_,_,h,k=>by cases h;exact k
 | x::ds,es,_,ws,⟨v,r,h1,h2,h3⟩,k=>by subst h1;exact ⟨v,r++ws,rfl,h2,RepL.append h3 k⟩
theorem RepL.drop:∀ {ds:List D} {vs:List V} (n:Nat),RepL K ρ H ds vs→RepL K ρ H (ds.drop n) (vs.drop n)
 | _,_,0,h=>h
 | [],_,n+1,h=>by cases h;exact rfl
 | x::ds,_,n+1,⟨v,r,h1,_,h3⟩=>by subst h1;exact RepL.drop n h3
theorem RepL.take:∀ {ds:List D} {vs:List V} (n:Nat),RepL K ρ H ds vs→RepL K ρ H (ds.take n) (vs.take n)
 | _,_,0,h=>by simp [RepL]
 | [],_,n+1,h=>by cases h;simp [RepL]
 | x::ds,_,n+1,⟨v,r,h1,h2,h3⟩=>by subst h1;exact ⟨v,r.take n,rfl,h2,RepL.take n h3⟩
theorem Step.fresh {p:Addr} {o:HO} (hp:H p=none):Step ρ H ρ (upd H p o) :=
 ⟨List.prefix_refl _,fun _ h=>.inl h,fun a ob h _=>by rw [qAC (L2.ne_of_none h hp)];exact h⟩
theorem Step.new1 {p:Addr} {o:HO} (hp:H p=none):Step ρ H (ρ++[p]) (upd H p o) :=
 ⟨List.prefix_append _ _,fun a h=>(List.mem_append.mp h).imp id fun z=>by rw [List.mem_singleton.mp z];exact hp,fun a ob h _=>by rw [qAC (L2.ne_of_none h hp)];exact h⟩
theorem Step.turn {p:Addr} {o o':HO} (hp:H p=some o) (hi:Imm o=false) (hm:p∈ρ):Step ρ H ρ (upd H p o'):=by
 refine ⟨List.prefix_refl _,fun _ h=>.inl h,fun a ob h c=>?_⟩
 rw [qAC]
 ·exact h
 ·intro z
  subst z
  rcases c with c | c
  ·rw [hp] at h
   cases h
   rw [hi] at c
   cases c
  ·exact c hm
theorem RepF.mono {C:Addr} (e:Step ρ H ρ' H'):∀ (ds:List (Nat × D)) (vs:List (Str × V)),RepF K ρ H C ds vs→RepF K ρ' H' C ds vs
 | [],_,h=>h
 | d::ds,_,⟨v,r,h1,hb,hn,h2,h3⟩=>⟨v,r,h1,hb,hn,RepV.mono e _ v h2,RepF.mono e ds r h3⟩
theorem RepK.mono (e:Step ρ H ρ' H'):∀ (ds:List (Ky × D)) (vs:List (L2.Key × V)),RepK K ρ H ds vs→RepK K ρ' H' ds vs
 | [],_,h=>h
 | d::ds,_,⟨v,r,h1,h2,h3⟩=>⟨v,r,h1,RepV.mono e _ v h2,RepK.mono e ds r h3⟩
theorem RepO.mono (e:Step ρ H ρ' H') {o:O} (l:mutO o=true→∀ u,H a=some u→H' a=some u) (h:RepO K ρ H o a):RepO K ρ' H' o a:=by
 cases o with
 | lst xs =>
  obtain ⟨vs,h1,h2⟩:=h
  exact ⟨vs,l rfl _ h1,RepL.mono e _ _ h2⟩
 | rol xs =>
  obtain ⟨vs,h1,h2⟩:=h
  refine ⟨vs,?_,RepL.mono e _ _ h2⟩
  rcases h1 with ⟨ob,h1⟩ | h1
  ·exact .inl ⟨ob,e.keep _ _ h1 (.inl rfl)⟩
  ·exact .inr h1
 | ins c fs =>
  obtain ⟨C,dx,vs,h1,hc,h2,h3⟩:=h
  exact ⟨C,dx,vs,h1,hc,l rfl _ h2,RepF.mono e _ _ h3⟩
 | dct kvs =>
  obtain ⟨vs,h1,h2⟩:=h
  exact ⟨vs,l rfl _ h1,RepK.mono e _ _ h2⟩
 | xc c =>
  obtain ⟨C,h1,h2⟩:=h
  exact ⟨C,h1,e.keep _ _ h2 (.inl rfl)⟩
theorem RepO.there {o:O} (h:RepO K ρ H o a) (m:mutO o=true):∃ u,H a=some u:=by
 cases o with
 | lst xs=>obtain ⟨vs,h1,_⟩:=h;exact ⟨_,h1⟩
 | rol xs=>cases m
 | ins c fs=>obtain ⟨C,dx,vs,_,_,h1,_⟩:=h;exact ⟨_,h1⟩
 | dct kvs=>obtain ⟨vs,h1,_⟩:=h;exact ⟨_,h1⟩
 | xc c=>cases m
theorem RepH.fresh {h:AH} {p:Addr} {o:HO} (r:RepH K ρ h H) (hp:H p=none):RepH K ρ h (upd H p o) :=
 ⟨r.len,fun i ob hi=>let ⟨a,h1,h2⟩:=r.obj i ob hi;⟨a,h1,h2.mono (Step.fresh hp) (fun _ u z=>by rw [qAC (L2.ne_of_none z hp)];exact z)⟩,r.inj⟩
theorem RepH.newO {h:AH} (r:RepH K ρ h H) {p:Addr} {o:O} {u:HO} (hp:H p=none) (ho:RepO K (ρ++[p]) (upd H p u) o p) :
    RepH K (ρ++[p]) (h++[o]) (upd H p u):=by
  have e:Step ρ H (ρ++[p]) (upd H p u):=Step.new1 hp
  refine ⟨by simp [r.len],fun i ob hi=>?_,fun i j a o1 o2 hi hj m1 m2 hai haj=>?_⟩
  · by_cases hlt:i<h.length
    · rw [List.getElem?_append_left hlt] at hi
      obtain ⟨a,h1,h2⟩:=r.obj i ob hi
      exact ⟨a,qC4 e.pre h1,h2.mono e (fun _ u z=>by rw [qAC (L2.ne_of_none z hp)];exact z)⟩
    · have hi':=(List.getElem?_eq_some_iff.mp hi).1
      simp at hi'
      have e':i=h.length:=by omega
      subst e'
      rw [List.getElem?_append_right (Nat.le_refl _)] at hi
      simp at hi
      subst hi
      refine ⟨p,?_,ho⟩
      rw [← r.len,List.getElem?_append_right (Nat.le_refl _)]
      simp
  · have key:∀ (i:Nat) (z:O),mutO z=true→(h++[o])[i]?=some z→(ρ++[p])[i]?=some a→(i<h.length∧h[i]?=some z∧ρ[i]?=some a∧a≠p)∨(i=h.length∧a=p):=fun i z mz hi hai=>by
      by_cases hlt:i<h.length
      · rw [List.getElem?_append_left hlt] at hi
        rw [List.getElem?_append_left (by rw [r.len];exact hlt)] at hai
        refine .inl ⟨hlt,hi,hai,fun q=>?_⟩
        obtain ⟨b,h1,h2⟩:=r.obj i _ hi
        rw [hai] at h1
        cases h1
        obtain ⟨w,h3⟩:=h2.there mz
        rw [q,hp] at h3
        cases h3
      · have hi':=(List.getElem?_eq_some_iff.mp hi).1
        simp at hi'
        have e':i=h.length:=by omega
        subst e'
        rw [← r.len,List.getElem?_append_right (Nat.le_refl _)] at hai
        simp at hai
        exact .inr ⟨rfl,hai.symm⟩
    rcases key i _ m1 hi hai with ⟨h1,h2,h3,h4⟩ | ⟨h1,h2⟩ <;> rcases key j _ m2 hj haj with ⟨k1,k2,k3,k4⟩ | ⟨k1,k2⟩
    · exact r.inj i j a _ _ h2 k2 m1 m2 h3 k3
    · exact absurd k2 h4
    · exact absurd h2 k4
    · omega
theorem RepH.setO {h:AH} (r:RepH K ρ h H) {k:Nat} {p:Addr} {o o':O} {u u':HO} (hk:h[k]?=some o) (m:mutO o=true) (m':mutO o'=true) (hr:ρ[k]?=some p) (hp:H p=some u) (hi':Imm u=false) (hx:RepO K ρ (upd H p u') o' p) :
    RepH K ρ (h.set k o') (upd H p u'):=by
  have e:Step ρ H ρ (upd H p u'):=Step.turn hp hi' (List.mem_of_getElem? hr)
  have hkl:=(List.getElem?_eq_some_iff.mp hk).1
  refine ⟨by simp [r.len],fun i ob hi=>?_,fun i j a o1 o2 hi hj m1 m2 hai haj=>?_⟩
  · rw [List.getElem?_set] at hi
    by_cases hik:k=i
    · rw [if_pos hik,if_pos (by omega)] at hi
      cases hi
      subst hik
      exact ⟨p,hr,hx⟩
    · rw [if_neg hik] at hi
      obtain ⟨a,h1,h2⟩:=r.obj i ob hi
      refine ⟨a,h1,h2.mono e fun mo w hw=>?_⟩
      rw [qAC fun z=>hik (r.inj k i p _ _ hk hi m mo hr (by rw [← z];exact h1))]
      exact hw
  · have key:∀ (i:Nat) (z:O),mutO z=true→(h.set k o')[i]?=some z→∃ z',h[i]?=some z'∧mutO z'=true:=fun i z mz hi=>by
      rw [List.getElem?_set] at hi
      by_cases hik:k=i
      · subst hik
        exact ⟨_,hk,m⟩
      · rw [if_neg hik] at hi
        exact ⟨_,hi,mz⟩
    obtain ⟨_,hi',n1⟩:=key i _ m1 hi
    obtain ⟨_,hj',n2⟩:=key j _ m2 hj
    exact r.inj i j a _ _ hi' hj' n1 n2 hai haj
theorem RepH.newList {h:AH} (r:RepH K ρ h H) {p:Addr} {xs:List D} {vs:List V} (hp:H p=none) (hx:RepL K ρ H xs vs) :
    RepH K (ρ++[p]) (h++[.lst xs]) (upd H p (.lst vs)):=r.newO hp ⟨vs,qAB,RepL.mono (Step.new1 hp) _ _ hx⟩
theorem RepH.setList {h:AH} (r:RepH K ρ h H) {k:Nat} {p:Addr} {xs ys:List D} {us vs:List V} (hk:h[k]?=some (.lst xs)) (hr:ρ[k]?=some p) (hp:H p=some (.lst us)) (hx:RepL K ρ H ys vs) :
    RepH K ρ (h.set k (.lst ys)) (upd H p (.lst vs)):=r.setO hk rfl rfl hr hp rfl ⟨vs,qAB,RepL.mono (Step.turn hp rfl (List.mem_of_getElem? hr)) _ _ hx⟩
theorem RepH.list {h:AH} (r:RepH K ρ h H) {i:Nat} {xs:List D} (hi:getL h i=some xs):∃ a vs,ρ[i]?=some a∧SqL K H a vs∧RepL K ρ H xs vs:=by
 unfold getL at hi
 cases e:h[i]? with
 | none=>rw [e] at hi;cases hi
 | some o =>
  rw [e] at hi
  obtain ⟨a,h1,h2⟩:=r.obj i o e
  cases o with
  | lst ys =>
   cases hi
   obtain ⟨vs,h3,h4⟩:=h2
   exact ⟨a,vs,h1,L2.SqL.of h3,h4⟩
  | rol ys =>
   cases hi
   obtain ⟨vs,h3,h4⟩:=h2
   refine ⟨a,vs,h1,?_,h4⟩
   rcases h3 with ⟨ob,h3⟩ | h3
   ·exact .inl (.inr ⟨ob,h3⟩)
   ·exact .inr h3
  | _=>cases hi
end
noncomputable def RepS (K:PySem.W.Frag) (ρ:List Addr) (H:Hp) (env:Env) (σ:L2.St):Prop:=env.length=σ.length∧∀ (i:Nat) (d:D),env[i]?=some (some d)→∃ v,σ[i]?=some (some v)∧RepV K ρ H d v
theorem RepS.mono {K:PySem.W.Frag} {ρ ρ':List Addr} {H H':Hp} {env:Env} {σ:L2.St} (s:RepS K ρ H env σ) (e:Step ρ H ρ' H'):RepS K ρ' H' env σ :=
 ⟨s.1,fun i d h=>let ⟨v,h1,h2⟩:=s.2 i d h;⟨v,h1,h2.mono e _ _⟩⟩
theorem RepS.set {K:PySem.W.Frag} {ρ:List Addr} {H:Hp} {env:Env} {σ:L2.St} (s:RepS K ρ H env σ) (k:Nat) {d:D} {v:V} (r:RepV K ρ H d v):RepS K ρ H (env.set k (some d)) (σ.set k (some v)):=by
 refine ⟨by simp [s.1],fun i d' h=>?_⟩
 rw [List.getElem?_set] at h ⊢
 by_cases hk:k=i
 ·subst hk
  rw [if_pos rfl] at h ⊢
  by_cases hl:k<env.length
  ·rw [if_pos hl] at h
   cases h
   rw [if_pos (by rw [← s.1];exact hl)]
   exact ⟨v,rfl,r⟩
  ·rw [if_neg hl] at h
   cases h
 ·rw [if_neg hk] at h ⊢
  exact s.2 i d' h
noncomputable abbrev WX:=Nat→L2.St→Hp→Prop
noncomputable abbrev W1:=Nat→Hp→Prop
noncomputable abbrev WX.at (W:WX) (σ:L2.St):W1:=fun c H=>W c σ H
noncomputable def Post {α:Type} (K:PySem.W.Frag) (w:W1) (rep:List Addr→Hp→α→Prop) (ρ:List Addr) (H:Hp):R α→Prop
 | .ok a h=>∀ (ρ':List Addr) (H':Hp),Step ρ H ρ' H'→RepH K ρ' h H'→rep ρ' H' a
 | .exc c h=>∀ (ρ':List Addr) (H':Hp),Step ρ H ρ' H'→RepH K ρ' h H'→w c H'
 | .bad=>False
noncomputable abbrev PostV (K:PySem.W.Frag) (w:W1) (Q:VK) (ρ:List Addr) (H:Hp) (r:R D):Prop:=Post K w (fun ρ' H' d=>∀ v,RepV K ρ' H' d v→Q v H') ρ H r
theorem Post.mono {α:Type} {K:PySem.W.Frag} {w:W1} {rep:List Addr→Hp→α→Prop} {ρ ρ1:List Addr} {H H1:Hp} {r:R α} (p:Post K w rep ρ H r) (e:Step ρ H ρ1 H1):Post K w rep ρ1 H1 r:=by
 cases r with
 | ok a h=>exact fun ρ' H' e' rh=>p ρ' H' (e.trans e') rh
 | exc _ _=>exact fun ρ' H' e' rh=>p ρ' H' (e.trans e') rh
 | bad=>exact p
noncomputable def tD (K:PySem.W.Frag) (W:WX) (m:Env→M D):TE:=fun σ H Q=>∃ ρ env h,RepS K ρ H env σ∧RepH K ρ h H∧PostV K (W.at σ) Q ρ H (m env h)
noncomputable def tDT (K:PySem.W.Frag) (W:WX) (m:Env→M Bool):TT:=fun σ H Q=>∃ ρ env h,RepS K ρ H env σ∧RepH K ρ h H∧Post K (W.at σ) (fun _ H' b=>Q b H') ρ H (m env h)
noncomputable def tDL (K:PySem.W.Frag) (W:WX) (m:Env→M (List D)):TA:=fun σ H Q=>∃ ρ env h,RepS K ρ H env σ∧RepH K ρ h H∧Post K (W.at σ) (fun ρ' H' ds=>∀ vs,RepL K ρ' H' ds vs→Q vs H') ρ H (m env h)
theorem PE.imp {X:Cx} {e:Expr} {t t':TE} (h:PE X e t) (i:∀ σ H Q,t' σ H Q→t σ H Q):PE X e t':=fun pins s σ H Q I q=>h pins s σ H Q I (i σ H Q q)
theorem PT.imp {X:Cx} {e:Expr} {t t':TT} (h:PT X e t) (i:∀ σ H Q,t' σ H Q→t σ H Q):PT X e t':=fun pins s σ H Q I q=>h pins s σ H Q I (i σ H Q q)
theorem PA.imp {X:Cx} {e:List Expr} {t t':TA} (h:PA X e t) (i:∀ σ H Q,t' σ H Q→t σ H Q):PA X e t':=fun pos pins s σ H Q I q=>h pos pins s σ H Q I (i σ H Q q)
theorem PS.imp {X:Cx} {e:Stmt} {t t':TS} (h:PS X e t) (i:∀ D σ H,t' D σ H→t D σ H):PS X e t':=fun pins s σ H D I q=>h pins s σ H D I (i D σ H q)
theorem PSs.imp {X:Cx} {e:List Stmt} {t t':TS} (h:PSs X e t) (i:∀ D σ H,t' D σ H→t D σ H):PSs X e t':=fun pins s σ H D I q=>h pins s σ H D I (i D σ H q)
end Fy
set_option Elab.async false
set_option linter.all false
set_option maxRecDepth 100000
set_option maxHeartbeats 4000000
namespace Fy
open PySem PySem.Spec PyProof.Rows
open L2 (V Hp HO VK TE TT TA TS TI Cx Inv RelV Vals SqL SqT Rd upd qAB qAC PE PT PA PS PSs EP OpR CallR IxR MtR SlR PO TO)
theorem szEq:sizeLine=16777216:=sizeLine_eq
theorem qGD (a b:Tx):((⟨a.toArray⟩:Str)++(⟨b.toArray⟩:Str))=⟨(a++b).toArray⟩:=by
 show Str.append _ _=_
 unfold Str.append
 simp
theorem qAd (a:Tx):(⟨a.toArray⟩:Str).length=a.length:=by
 unfold Str.length
 simp
section
variable {X:Cx} {K:PySem.W.Frag} {ρ:List Addr} {H:Hp} {Q:VK} {h:AH} {w:W1}
theorem PostV.ite {c:Prop} [Decidable c] {r:R D} (p:PostV K w Q ρ H (if c then r else .bad)):c∧PostV K w Q ρ H r:=by
 by_cases hc:c
 ·rw [if_pos hc] at p
  exact ⟨hc,p⟩
 ·rw [if_neg hc] at p
  exact False.elim p
theorem PostV.now {d:D} {v:V} (p:PostV K w Q ρ H (.ok d h)) (r:RepH K ρ h H) (hv:RepV K ρ H d v):Q v H:=p ρ H (Step.refl ρ H) r v hv
theorem PostV.newL {xs:List D} {vs:List V} (p:PostV K w Q ρ H (newL xs h)) (r:RepH K ρ h H) (hv:RepL K ρ H xs vs):vs.length≤sizeLine∧∀ l,H l=none→Q (.ref l) (upd H l (.lst vs)):=by
 obtain ⟨hc,p⟩:=PostV.ite (c:=xs.length≤16777216) p
 refine ⟨by rw [hv.length,szEq];exact hc,fun l hl=>?_⟩
 refine p (ρ++[l]) _ (Step.new1 hl) (r.newList hl hv) _ ⟨l,?_,rfl⟩
 rw [← r.len,List.getElem?_append_right (Nat.le_refl _)]
 simp
theorem PostV.newT {xs:List D} {vs:List V} (p:PostV K w Q ρ H (.ok (.tup xs) h)) (r:RepH K ρ h H) (hv:RepL K ρ H xs vs):∀ l,H l=none→Q (.ref l) (upd H l (.tup vs)):=fun l hl=>by
 have e:Step ρ H ρ (upd H l (.tup vs)):=Step.fresh hl
 exact p ρ _ e (r.fresh hl) _ ⟨l,vs,rfl,L2.SqT.of qAB,hv.mono e _ _⟩
noncomputable def rB (K:PySem.W.Frag) (o:Bi):L2.R2:=fun x y H Q=>∃ (w:W1),∃ ρ h d e,RepH K ρ h H∧RepV K ρ H d x∧RepV K ρ H e y∧PostV K w Q ρ H (biD o d e h)
theorem qLt:OpR X (binaryOp .Sub) (rB X.K .sub):=by
 rintro pins s σ H x y v u Q I rx ry ⟨w,ρ,h,d,e,r,hd,he,p⟩
 cases d with
 | int i =>
  cases e with
  | int j=>cases hd;cases he;exact L2.op_sub pins s σ H _ _ v u Q I rx ry ⟨i,j,rfl,rfl,p.now r rfl⟩
  | _=>exact (show False from p).elim
 | _=>exact (show False from p).elim
theorem qHO:∀ (n:Nat) (x acc:Array Nat),((List.replicate n x).foldl (·++·) acc).toList=acc.toList++(List.replicate n x.toList).flatten
  | 0,x,acc=>by simp
  | n+1,x,acc=>by
    rw [List.replicate_succ,List.foldl_cons,qHO n x (acc++x),List.replicate_succ,List.flatten_cons,Array.toList_append,List.append_assoc]
theorem qIN (n:Nat) (x:Tx):(⟨(List.replicate n x.toArray).foldl (·++·) #[]⟩:Str)=⟨(List.replicate n x).flatten.toArray⟩:=by
  congr 1
  apply Array.toList_inj.mp
  rw [qHO]
  simp
theorem qLv:OpR X (binaryOp .Mult) (rB X.K .mul):=by
 rintro pins s σ H x y v u Q I rx ry ⟨w,ρ,h,d,e,r,hd,he,p⟩
 cases d with
 | int i =>
  cases e with
  | int j =>
   cases hd;cases he
   obtain ⟨hc,p⟩:=PostV.ite (c:=mulOk i j) p
   exact L2.op_mul pins s σ H _ _ v u Q I rx ry ⟨i,j,rfl,rfl,hc,p.now r rfl⟩
  | _=>exact (show False from p).elim
 | str x =>
  cases e with
  | int n =>
   cases hd;cases he
   obtain ⟨hc,p⟩:=PostV.ite (c:=0≤n∧n≤1000000∧x≠[]∧x.length*n.toNat≤16777216) p
   obtain ⟨h1,h2,h3,h4⟩:=hc
   obtain ⟨t,rfl⟩:=rx
   obtain ⟨t2,rfl⟩:=ry
   have hx:0<x.length:=List.length_pos_iff.mpr h3
   have hx0:((⟨x.toArray⟩:Str).length == 0)=false:=by
    rw [qAd]
    exact beq_eq_false_iff_ne.mpr (by omega)
   refine P.mul_str ?_ ?_ ?_ ?_
   ·rw [decide_eq_false (by omega),decide_eq_false (by omega)];rfl
   ·intro _ _
    rw [qAd]
    have:x.length≤16777216:=Nat.le_trans (Nat.le_mul_of_pos_right _ (by omega)) h4
    have h5:(16777216:Int)≤(2 ^ 63-1) / n:=by
     rw [Int.le_ediv_iff_mul_le (by omega)]
     omega
    omega
   ·intro _ _
    rw [qAd]
    exact decide_eq_false (by rw [szEq];omega)
   ·by_cases z:n<1
    ·obtain rfl:n=0:=by omega
     rw [if_pos z]
     exact ⟨by decide,⟨.str ⟨#[]⟩,H,I.tok _,⟨_,rfl⟩,p.now r rfl⟩⟩
    rw [if_neg z,hx0,Bool.or_false]
    by_cases z1:n=1
    ·subst z1
     rw [if_pos (show ((1:Int) == 1)=true from rfl)]
     exact ⟨.str ⟨x.toArray⟩,H,I,⟨_,rfl⟩,by have:=p.now r rfl;simpa using this⟩
    ·rw [if_neg (by simpa using z1)]
     refine ⟨?_,?_⟩
     ·rw [qIN,qAd,List.length_flatten,List.map_replicate,List.sum_replicate_nat,szEq,Nat.mul_comm];exact h4
     ·refine ⟨.str ⟨(List.replicate n.toNat x).flatten.toArray⟩,H,I.tok _,⟨_,by rw [← qIN]⟩,p.now r rfl⟩
  | _=>exact (show False from p).elim
 | _=>exact (show False from p).elim
theorem qKA:OpR X (binaryOp .FloorDiv) (rB X.K .fdiv):=by
 rintro pins s σ H x y v u Q I rx ry ⟨w,ρ,h,d,e,r,hd,he,p⟩
 cases d with
 | int i =>
  cases e with
  | int j =>
   cases hd;cases he
   obtain ⟨hc,p⟩:=PostV.ite (c:=0<j∧j<1073741824) p
   exact L2.op_fdiv pins s σ H _ _ v u Q I rx ry ⟨i,j,rfl,rfl,hc,p.now r rfl⟩
  | _=>exact (show False from p).elim
 | _=>exact (show False from p).elim
theorem qLw:OpR X (binaryOp .Mod) (rB X.K .mod):=by
 rintro pins s σ H x y v u Q I rx ry ⟨w,ρ,h,d,e,r,hd,he,p⟩
 cases d with
 | int i =>
  cases e with
  | int j =>
   cases hd;cases he
   obtain ⟨hc,p⟩:=PostV.ite (c:=0<j) p
   exact L2.op_mod pins s σ H _ _ v u Q I rx ry ⟨i,j,rfl,rfl,hc,p.now r rfl⟩
  | _=>exact (show False from p).elim
 | _=>exact (show False from p).elim
theorem qLu:OpR X (binaryOp .Pow) (rB X.K .pow):=by
 rintro pins s σ H x y v u Q I rx ry ⟨w,ρ,h,d,e,r,hd,he,p⟩
 cases d with
 | int i =>
  cases e with
  | int j =>
   cases hd;cases he
   obtain ⟨hc,p⟩:=PostV.ite (c:=0≤j∧j≤1000000∧i.natAbs<2 ^ 64) p
   exact L2.op_pow pins s σ H _ _ v u Q I rx ry ⟨i,j,rfl,rfl,hc,p.now r rfl⟩
  | _=>exact (show False from p).elim
 | _=>exact (show False from p).elim
theorem qN6:OpR X (compareOp .Lt) (rB X.K .lt):=by
 rintro pins s σ H x y v u Q I rx ry ⟨w,ρ,h,d,e,r,hd,he,p⟩
 cases d with
 | int i =>
  cases e with
  | int j=>cases hd;cases he;exact L2.op_lt pins s σ H _ _ v u Q I rx ry ⟨i,j,rfl,rfl,p.now r rfl⟩
  | _=>exact (show False from p).elim
 | _=>exact (show False from p).elim
theorem qN7:OpR X (compareOp .LtE) (rB X.K .le):=by
 rintro pins s σ H x y v u Q I rx ry ⟨w,ρ,h,d,e,r,hd,he,p⟩
 cases d with
 | int i =>
  cases e with
  | int j=>cases hd;cases he;exact L2.op_le pins s σ H _ _ v u Q I rx ry ⟨i,j,rfl,rfl,p.now r rfl⟩
  | _=>exact (show False from p).elim
 | _=>exact (show False from p).elim
theorem qN9:OpR X (compareOp .Gt) (rB X.K .gt):=by
 rintro pins s σ H x y v u Q I rx ry ⟨w,ρ,h,d,e,r,hd,he,p⟩
 cases d with
 | int i =>
  cases e with
  | int j=>cases hd;cases he;exact L2.op_gt pins s σ H _ _ v u Q I rx ry ⟨i,j,rfl,rfl,p.now r rfl⟩
  | _=>exact (show False from p).elim
 | _=>exact (show False from p).elim
theorem qOA:OpR X (compareOp .GtE) (rB X.K .ge):=by
 rintro pins s σ H x y v u Q I rx ry ⟨w,ρ,h,d,e,r,hd,he,p⟩
 cases d with
 | int i =>
  cases e with
  | int j=>cases hd;cases he;exact L2.op_ge pins s σ H _ _ v u Q I rx ry ⟨i,j,rfl,rfl,p.now r rfl⟩
  | _=>exact (show False from p).elim
 | _=>exact (show False from p).elim
theorem RepH.own {i:Nat} {xs:List D} (r:RepH K ρ h H) (e:h[i]?=some (.lst xs)) {v:V} (hv:RepV K ρ H (.ref i) v):∃ a vs,v=.ref a∧ρ[i]?=some a∧H a=some (.lst vs)∧RepL K ρ H xs vs:=by
 obtain ⟨a,h1,h2⟩:=hv
 obtain ⟨b,h3,vs,h4,h5⟩:=r.obj i _ e
 rw [h1] at h3
 cases h3
 exact ⟨a,vs,h2,h1,h4,h5⟩
theorem RepH.seen {i:Nat} {xs:List D} (r:RepH K ρ h H) (e:getL h i=some xs) {v:V} (hv:RepV K ρ H (.ref i) v):∃ a vs,v=.ref a∧SqL K H a vs∧RepL K ρ H xs vs:=by
 obtain ⟨a,h1,h2⟩:=hv
 obtain ⟨b,vs,h3,h4,h5⟩:=r.list e
 rw [h1] at h3
 cases h3
 exact ⟨a,vs,h2,h4,h5⟩
theorem qLx:OpR X (binaryOp .Add) (rB X.K .add):=by
 rintro pins s σ H x y v u Q I rx ry ⟨w,ρ,h,d,e,r,hd,he,p⟩
 cases d with
 | int i =>
  cases e with
  | int j=>cases hd;cases he;exact L2.op_add pins s σ H _ _ v u Q I rx ry ⟨i,j,rfl,rfl,p.now r rfl⟩
  | _=>exact (show False from p).elim
 | str a =>
  cases e with
  | str b =>
   cases hd;cases he
   obtain ⟨hc,p⟩:=PostV.ite (c:=a.length+b.length≤16777216) p
   exact L2.op_add_str pins s σ H _ _ v u Q I rx ry ⟨_,_,rfl,rfl,by rw [qAd,qAd,szEq];exact hc,by rw [qGD];exact p.now r rfl⟩
  | _=>exact (show False from p).elim
 | tup a =>
  cases e with
  | tup b =>
   obtain ⟨pa,va,rfl,ta,la⟩:=hd
   obtain ⟨pb,vb,rfl,tb,lb⟩:=he
   obtain ⟨hz,p⟩:=PostV.ite (c:=a.length+b.length≤16777216) p
   by_cases hc:a=[]
   ·subst hc
    have ev:va=[]:=List.eq_nil_of_length_eq_zero la.length
    subst ev
    cases rx
    cases ry
    obtain ⟨its,r1,p1,_⟩:=I.tuple ta
    obtain ⟨its2,r2,p2,_⟩:=I.tuple tb
    have ei:its=[]:=r1.nil_iff.mpr rfl
    subst ei
    obtain ⟨⟨cls,dd,data,sl⟩,ho,hc,n,hd⟩:=id p1
    obtain ⟨⟨cls2,dd2,data2,sl2⟩,ho2,hc2,n2,hd2⟩:=id p2
    simp only at hc hd hc2 hd2
    subst hc hd hc2 hd2
    exact concat_meets ⟨_,ho,rfl⟩ ⟨_,ho2,rfl⟩ noFill_tuple_add seq_tuple_add PySem.F.slot_tuple_add PySem.F.entry_tuple_add (PySem.F.args_tuple_add_2 _ _)
     (tuple_addW0 pa pb _ _ n n2 dd dd2 sl sl2 rfl) ⟨ho,ho2,⟨.ref pb,H,I,rfl,p.now r ⟨pb,vb,rfl,tb,lb⟩⟩⟩
   refine L2.op_catT pins s σ H _ _ v u Q I rx ry ⟨pa,pb,va,vb,rfl,rfl,ta,tb,fun z=>hc ?_,by rw [la.length,lb.length,szEq];exact hz,fun z=>?_,fun _=>p.newT r (la.append lb)⟩
   ·have:=la.length
    rw [z] at this
    exact List.eq_nil_of_length_eq_zero this.symm
   ·subst z
    have e:b=[]:=List.eq_nil_of_length_eq_zero lb.length.symm
    subst e
    rw [List.append_nil] at p
    exact p.now r ⟨pa,va,rfl,ta,la⟩
  | _=>exact (show False from p).elim
 | ref i =>
  cases e with
  | ref j =>
   have p:PostV X.K w Q ρ H (match h[i]?,h[j]? with | some (.lst xs),some (.lst ys)=>newL (xs++ys) h | _,_=>.bad):=p
   split at p
   ·rename_i xs ys e1 e2
    obtain ⟨a,va,rfl,_,ha,la⟩:=r.own e1 hd
    obtain ⟨b,vb,rfl,_,hb,lb⟩:=r.own e2 he
    obtain ⟨hz,q⟩:=p.newL r (la.append lb)
    exact L2.op_cat pins s σ H _ _ v u Q I rx ry ⟨a,b,va,vb,rfl,rfl,ha,hb,by rw [← List.length_append];exact hz,q⟩
   ·exact (show False from p).elim
  | _=>exact (show False from p).elim
 | _=>exact (show False from p).elim
end
end Fy
set_option Elab.async false
set_option linter.all false
set_option maxRecDepth 100000
set_option maxHeartbeats 4000000
namespace Fy
open PySem PySem.Spec PyProof.Rows
open L2 (V Hp HO VK TE TT TA TS TI Cx Inv RelV Vals SqL SqT Rd upd qAB qAC PE PT PA PS PSs EP OpR CallR IxR MtR SlR PO TO)
theorem Post.bind {α β:Type} {K:PySem.W.Frag} {w:W1} {rep:List Addr→Hp→β→Prop} {rep':List Addr→Hp→α→Prop} {ρ:List Addr} {H:Hp} {m:M α} {f:α→M β} {h:AH} (p:Post K w rep ρ H (M.bind m f h))
    (k:∀ ρ' h' a H',Step ρ H ρ' H'→RepH K ρ' h' H'→Post K w rep ρ' H' (f a h')→rep' ρ' H' a):Post K w rep' ρ H (m h):=by
  unfold M.bind at p
  cases e:m h with
  | ok a h1 =>
    rw [e] at p
    exact fun ρ1 H1 e1 r1=>k ρ1 h1 a H1 e1 r1 (Post.mono p e1)
  | exc c h1=>rw [e] at p;exact p
  | bad=>rw [e] at p;exact p
theorem Post.when {α:Type} {K:PySem.W.Frag} {w:W1} {rep:List Addr→Hp→α→Prop} {ρ:List Addr} {H:Hp} {c:Prop} [Decidable c] {m:M α} {h:AH} (p:Post K w rep ρ H (M.when c m h)):c∧Post K w rep ρ H (m h):=by
 unfold M.when at p
 by_cases hc:c
 ·rw [if_pos hc] at p
  exact ⟨hc,p⟩
 ·rw [if_neg hc] at p
  exact False.elim p
theorem Post.imp {α:Type} {K:PySem.W.Frag} {w:W1} {rep rep':List Addr→Hp→α→Prop} {ρ:List Addr} {H:Hp} {r:R α} (p:Post K w rep ρ H r) (k:∀ ρ' H' a,rep ρ' H' a→rep' ρ' H' a):Post K w rep' ρ H r:=by
 cases r with
 | ok a h=>exact fun ρ' H' e rh=>k ρ' H' a (p ρ' H' e rh)
 | exc _ _=>exact p
 | bad=>exact p
theorem Post.ret {α:Type} {K:PySem.W.Frag} {w:W1} {rep:List Addr→Hp→α→Prop} {ρ:List Addr} {H:Hp} {a:α} {h:AH} (p:Post K w rep ρ H (M.ret a h)) (r:RepH K ρ h H):rep ρ H a:=p ρ H (Step.refl ρ H) r
section
variable {X:Cx} {F:Nat→List D→M D} {W:WX} {w:W1}
theorem two {o:Bi} {ca cb:CE} {σ:L2.St} {H:Hp} {Q:VK} (t:tD X.K W (den F (.bi o ca cb)) σ H Q):L2.tOp (rB X.K o) (tD X.K W (den F ca)) (tD X.K W (den F cb)) σ H Q:=by
 obtain ⟨ρ,env,h,s,r,p⟩:=t
 rw [den] at p
 exact ⟨ρ,env,h,s,r,Post.bind p fun ρ1 h1 d H1 e1 r1 q v hv=>⟨ρ1,env,h1,s.mono e1,r1,Post.bind q fun ρ2 h2 d2 H2 e2 r2 q2 w hw=>⟨_,ρ2,h2,d,d2,r2,hv.mono e2 _ _,hw,q2⟩⟩⟩
noncomputable def rU (K:PySem.W.Frag) (o:Un):V→Hp→VK→Prop:=fun x H Q=>∃ (w:W1),∃ ρ h d,RepH K ρ h H∧RepV K ρ H d x∧PostV K w Q ρ H (unD o d h)
noncomputable def rC (K:PySem.W.Frag) (o:Un):List V→Hp→VK→Prop:=fun xs H Q=>∃ x,xs=[x]∧rU K o x H Q
noncomputable def rC2 (K:PySem.W.Frag) (o:Bi):List V→Hp→VK→Prop:=fun xs H Q=>∃ x y,xs=[x,y]∧rB K o x y H Q
theorem one {o:Un} {ca:CE} {σ:L2.St} {H:Hp} {Q:VK} (t:tD X.K W (den F (.un o ca)) σ H Q):tD X.K W (den F ca) σ H fun x H1=>rU X.K o x H1 Q:=by
 obtain ⟨ρ,env,h,s,r,p⟩:=t
 rw [den] at p
 exact ⟨ρ,env,h,s,r,Post.bind p fun ρ1 h1 d H1 e1 r1 q v hv=>⟨_,ρ1,h1,d,r1,hv,q⟩⟩
theorem d_lit {v:V} {e:Expr} {d:D} (he:PE X e (L2.tC v)) (hv:∀ ρ H,RepV X.K ρ H d v):PE X e (tD X.K W (den F (.lit d))):=PE.imp he fun σ H Q t=>by
 obtain ⟨ρ,env,h,s,r,p⟩:=t
 rw [den] at p
 exact Post.ret p r v (hv ρ H)
theorem d_var {i:Nat} {e:Expr} (he:PE X e (L2.tVar i)):PE X e (tD X.K W (den F (.var i))):=PE.imp he fun σ H Q t=>by
 obtain ⟨ρ,env,h,s,r,p⟩:=t
 rw [den] at p
 cases q:env[i]? with
 | none=>rw [q] at p;exact False.elim p
 | some o =>
  cases o with
  | none=>rw [q] at p;exact False.elim p
  | some d =>
   rw [q] at p
   obtain ⟨v,h1,h2⟩:=s.2 i d q
   exact ⟨v,h1,p ρ H (Step.refl ρ H) r v h2⟩
theorem qO8 {es:List Expr}:PA X [] (tDL X.K W (denL F .nil)):=PA.imp L2.pa_nil fun σ H Q t=>by
 obtain ⟨ρ,env,h,s,r,p⟩:=t
 rw [denL] at p
 exact Post.ret p r [] rfl
theorem qMu {e:Expr} {es:List Expr} {c:CE} {cl:CL} (he:PE X e (tD X.K W (den F c))) (hr:PA X es (tDL X.K W (denL F cl))) (hs:starEach (e::es) X.env=(false,eval e X.env)::starEach es X.env) :
    PA X (e::es) (tDL X.K W (denL F (.cons c cl))):=PA.imp (L2.pa_cons he hr hs) fun σ H Q t=>by
  obtain ⟨ρ,env,h,s,r,p⟩:=t
  rw [denL] at p
  refine ⟨ρ,env,h,s,r,Post.bind p fun ρ1 h1 d H1 e1 r1 q v hv=>⟨ρ1,env,h1,s.mono e1,r1,Post.bind q fun ρ2 h2 ds H2 e2 r2 q2 vs hvs=>?_⟩⟩
  exact Post.ret q2 r2 (v::vs) ⟨v,vs,rfl,hv.mono e2 _ _,hvs⟩
theorem d_and {a b:Expr} {rest:List Expr} {pos:Pos} {ca cb:CE} (ha:PE X a (tD X.K W (den F ca))) (hb:PE X (.BoolOp .And (b::rest) pos) (tD X.K W (den F cb))) :
    PE X (.BoolOp .And (a::b::rest) pos) (tD X.K W (den F (.and ca cb))):=PE.imp (L2.pe_and ha hb) fun σ H Q t=>by
  obtain ⟨ρ,env,h,s,r,p⟩:=t
  rw [den] at p
  refine ⟨ρ,env,h,s,r,Post.bind p fun ρ1 h1 d H1 e1 r1 q v hv=>?_⟩
  cases d with
  | bl c =>
    cases hv
    cases c with
    | true=>exact ⟨true,rfl,⟨ρ1,env,h1,s.mono e1,r1,q⟩⟩
    | false=>exact ⟨false,rfl,Post.ret q r1 _ rfl⟩
  | _=>exact False.elim q
theorem d_or {a b:Expr} {rest:List Expr} {pos:Pos} {ca cb:CE} (ha:PE X a (tD X.K W (den F ca))) (hb:PE X (.BoolOp .Or (b::rest) pos) (tD X.K W (den F cb))) :
    PE X (.BoolOp .Or (a::b::rest) pos) (tD X.K W (den F (.or ca cb))):=PE.imp (L2.pe_or ha hb) fun σ H Q t=>by
  obtain ⟨ρ,env,h,s,r,p⟩:=t
  rw [den] at p
  refine ⟨ρ,env,h,s,r,Post.bind p fun ρ1 h1 d H1 e1 r1 q v hv=>?_⟩
  cases d with
  | bl c =>
    cases hv
    cases c with
    | true=>exact ⟨true,rfl,Post.ret q r1 _ rfl⟩
    | false=>exact ⟨false,rfl,⟨ρ1,env,h1,s.mono e1,r1,q⟩⟩
  | _=>exact False.elim q
theorem TruV.of {ρ:List Addr} {H:Hp} {h:AH} {d:D} {v:V} {rep:List Addr→Hp→Bool→Prop} (r:RepH X.K ρ h H) (hv:RepV X.K ρ H d v) (p:Post X.K w rep ρ H (truth d h)):∃ k,L2.TruV X.K v H k∧rep ρ H k:=by
 cases d with
 | non=>cases hv;exact ⟨false,rfl,Post.ret (a:=false) p r⟩
 | bl b=>cases hv;exact ⟨b,rfl,Post.ret (a:=b) p r⟩
 | int i=>cases hv;exact ⟨i != 0,rfl,Post.ret (a:=i != 0) p r⟩
 | str x =>
  cases hv
  have p:Post X.K w rep ρ H (if x.length≤16777216 then .ok (!x.isEmpty) h else .bad):=p
  by_cases hc:x.length≤16777216
  ·rw [if_pos hc] at p
   refine ⟨!x.isEmpty,⟨by rw [qAd,szEq];exact hc,?_⟩,Post.ret (a:=!x.isEmpty) p r⟩
   rw [qAd]
   cases x with
   | nil=>rfl
   | cons c x=>simp;omega
  ·rw [if_neg hc] at p
   exact False.elim p
 | tup xs =>
  obtain ⟨a,vs,rfl,h1,h2⟩:=hv
  refine ⟨!xs.isEmpty,.inr (.inl ⟨vs,h1,?_⟩),Post.ret (a:=!xs.isEmpty) p r⟩
  have:=h2.length
  cases xs <;> cases vs <;> simp_all
 | ref i =>
  have p:Post X.K w rep ρ H (match getL h i with | some xs=>.ok (!xs.isEmpty) h | none=>.bad):=p
  cases e:getL h i with
  | none=>rw [e] at p;exact False.elim p
  | some xs =>
   rw [e] at p
   obtain ⟨a,vs,rfl,h1,h2⟩:=r.seen e hv
   refine ⟨!xs.isEmpty,.inl ⟨vs,h1,?_⟩,Post.ret (a:=!xs.isEmpty) p r⟩
   have:=h2.length
   cases xs <;> cases vs <;> simp_all
theorem qKg {e:Expr} {c:CE} (he:PE X e (tD X.K W (den F c))) (hi:∀ whole,isTrue e X.env whole=(do let v ← whole;standAt e.pos;holding [v] (truthy v))) :
    PT X e (tDT X.K W (denT F (.val c))):=PT.imp (L2.pt_truth he hi) fun σ H Q t=>by
  obtain ⟨ρ,env,h,s,r,p⟩:=t
  rw [denT] at p
  exact ⟨ρ,env,h,s,r,Post.bind p fun ρ1 h1 d H1 e1 r1 q v hv=>TruV.of r1 hv q⟩
noncomputable def isCmp:Bi→Bool
 | .eq | .ne | .lt | .le | .gt | .ge | .isin | .notin=>true
 | _=>false
theorem qOs {k:Nat} {y:Ky} {h h':AH} {r:D} (q:hasK k y h=.ok r h'):∃ b,r=.bl b:=by
 unfold hasK at q
 split at q
 ·cases q;exact ⟨_,rfl⟩
 ·cases q
theorem qLO {o:Bi} {d e r:D} {h h':AH} (hc:isCmp o=true) (q:biD o d e h=.ok r h'):∃ k,r=.bl k:=by
  cases o with
  | eq =>
    have q:(match eqTop h d e with | some b=>R.ok (D.bl b) h | none=>.bad)=.ok r h':=q
    split at q <;> cases q
    exact ⟨_,rfl⟩
  | ne =>
    have q:(match eqTop h d e with | some b=>R.ok (D.bl (!b)) h | none=>.bad)=.ok r h':=q
    split at q <;> cases q
    exact ⟨_,rfl⟩
  | lt=>cases d <;> first | cases q | (cases e <;> first | (cases q;exact ⟨_,rfl⟩) | cases q)
  | le=>cases d <;> first | cases q | (cases e <;> first | (cases q;exact ⟨_,rfl⟩) | cases q)
  | gt=>cases d <;> first | cases q | (cases e <;> first | (cases q;exact ⟨_,rfl⟩) | cases q)
  | ge=>cases d <;> first | cases q | (cases e <;> first | (cases q;exact ⟨_,rfl⟩) | cases q)
  | isin =>
    cases d <;> first | cases q | cases e <;> first
      | (rename_i x y
         have q:(match inTx x y with | some b=>R.ok (D.bl b) h | none=>.bad)=.ok r h':=q
         split at q <;> cases q
         exact ⟨_,rfl⟩)
      | (rename_i x y
         have q:(match (getL h y).bind qAr with | some xs=>R.ok (D.bl (xs.contains x)) h | none=>hasK y (.int x) h)=.ok r h':=q
         split at q
         · cases q;exact ⟨_,rfl⟩
         · exact qOs q)
      | (rename_i x y
         have q:(match qAs y with | some ys=>R.ok (D.bl (ys.contains x)) h | none=>.bad)=.ok r h':=q
         split at q <;> cases q
         exact ⟨_,rfl⟩)
      | (rename_i x y
         have q:(match (getL h y).bind (anyD fun z=>eqTop h z (.tup x)) with | some b=>R.ok (D.bl b) h | none=>.bad)=.ok r h':=q
         split at q <;> cases q
         exact ⟨_,rfl⟩)
      | cases q
  | notin =>
    cases d <;> first | cases q | cases e <;> first
      | (rename_i x y
         have q:(match inTx x y with | some b=>R.ok (D.bl (!b)) h | none=>.bad)=.ok r h':=q
         split at q <;> cases q
         exact ⟨_,rfl⟩)
      | (rename_i x y
         have q:(match (getL h y).bind qAr with | some xs=>R.ok (D.bl (!xs.contains x)) h | none=>.bad)=.ok r h':=q
         split at q <;> cases q
         exact ⟨_,rfl⟩)
      | cases q
  | _=>cases hc
theorem Post.cmp {o:Bi} {d e:D} {K:PySem.W.Frag} {w:W1} {ρ:List Addr} {H:Hp} {h:AH} {Q:Bool→Hp→Prop} (hc:isCmp o=true) (p:Post K w (fun _ H' b=>Q b H') ρ H (M.bind (biD o d e) truth h)) :
    PostV K w (fun x H'=>∃ k,x=.bl k∧Q k H') ρ H (biD o d e h):=by
  unfold M.bind at p
  cases q:biD o d e h with
  | ok r h' =>
    rw [q] at p
    obtain ⟨k,rfl⟩:=qLO hc q
    exact fun ρ' H' e' r' v hv=>⟨k,hv,p ρ' H' e' r'⟩
  | exc c h'=>rw [q] at p;exact p
  | bad=>rw [q] at p;exact p
theorem d_cmp {a b:Expr} {op:CmpOp} {o:Bi} {ca cb:CE} {pos:Pos} (ho:OpR X (compareOp op) (rB X.K o)) (ha:PE X a (tD X.K W (den F ca))) (hb:PE X b (tD X.K W (den F cb))) (hm:behindInMarks op b=false) :
    PE X (.Compare a [op] [b] pos) (tD X.K W (den F (.bi o ca cb))):=PE.imp (L2.pe_cmpR ho ha hb hm) fun _ _ _ t=>two t
theorem qAa {α β γ:Type} (m:M α) (f:α→M β) (g:β→M γ):M.bind (M.bind m f) g=M.bind m fun x=>M.bind (f x) g:=by
 funext h
 unfold M.bind
 cases m h <;> rfl
theorem qO5 {a b:Expr} {op:CmpOp} {o:Bi} {ca cb:CE} {pos:Pos} (hc:isCmp o=true) (ho:OpR X (compareOp op) (rB X.K o)) (ha:PE X a (tD X.K W (den F ca))) (hb:PE X b (tD X.K W (den F cb))) (hm:behindInMarks op b=false) :
    PT X (.Compare a [op] [b] pos) (tDT X.K W (denT F (.val (.bi o ca cb)))):=PT.imp (L2.pt_cmpR ho ha hb hm) fun σ H Q t=>by
  obtain ⟨ρ,env,h,s,r,p⟩:=t
  rw [denT,den,qAa] at p
  refine ⟨ρ,env,h,s,r,Post.bind p fun ρ1 h1 d H1 e1 r1 q v hv=>⟨ρ1,env,h1,s.mono e1,r1,?_⟩⟩
  have q:Post X.K (W.at σ) (fun _ H' b=>Q b H') ρ1 H1 (M.bind (M.bind (den F cb env) fun y=>biD o d y) truth h1):=q
  rw [qAa] at q
  exact Post.bind q fun ρ2 h2 d2 H2 e2 r2 q2 w hw=>⟨_,ρ2,h2,d,d2,r2,hv.mono e2 _ _,hw,Post.cmp hc q2⟩
theorem qLP {o o':Bi} {ca cb cc:CE} {σ:L2.St} {H:Hp} {Q:VK} (t:tD X.K W (den F (.chain o o' ca cb cc)) σ H Q):L2.tChain (rB X.K o) (rB X.K o') (tD X.K W (den F ca)) (tD X.K W (den F cb)) (tD X.K W (den F cc)) σ H Q:=by
 obtain ⟨ρ,env,h,s,r,p⟩:=t
 rw [den] at p
 refine ⟨ρ,env,h,s,r,Post.bind p fun ρ1 h1 d H1 e1 r1 q v hv=>⟨ρ1,env,h1,s.mono e1,r1,Post.bind q fun ρ2 h2 d2 H2 e2 r2 q2 w hw=>⟨_,ρ2,h2,d,d2,r2,hv.mono e2 _ _,hw,Post.bind q2 fun ρ3 h3 z H3 e3 r3 q3 zv hz=>?_⟩⟩⟩
 cases z with
 | bl k =>
  cases hz
  cases k with
  | true=>exact ⟨true,rfl,L2.iteT ⟨ρ3,env,h3,((s.mono e1).mono e2).mono e3,r3,Post.bind q3 fun ρ4 h4 d4 H4 e4 r4 q4 x hx=>⟨_,ρ4,h4,d2,d4,r4,(hw.mono e3 _ _).mono e4 _ _,hx,q4⟩⟩⟩
  | false=>exact ⟨false,rfl,L2.iteF (Post.ret q3 r3 _ rfl)⟩
 | _=>exact False.elim q3
theorem qMx {a b c:Expr} {op op':CmpOp} {o o':Bi} {ca cb cc:CE} {pos:Pos} (ho:OpR X (compareOp op) (rB X.K o)) (ho':OpR X (compareOp op') (rB X.K o')) (ha:PE X a (tD X.K W (den F ca))) (hb:PE X b (tD X.K W (den F cb))) (hc:PE X c (tD X.K W (den F cc)))
    (hm:lastMarks [op,op'] [b,c]=false):PE X (.Compare a [op,op'] [b,c] pos) (tD X.K W (den F (.chain o o' ca cb cc))):=PE.imp (L2.pe_chain ho ho' ha hb hc hm) fun σ H Q t=>qLP t
theorem valI {ce:CE} (hb:∀ env h d h',den F ce env h=.ok d h'→∃ k,d=.bl k) {σ:L2.St} {H:Hp} {Q:Bool→Hp→Prop} (t:tDT X.K W (denT F (.val ce)) σ H Q):tD X.K W (den F ce) σ H (fun x H'=>∃ k,x=.bl k∧Q k H'):=by
 obtain ⟨ρ,env,h,s,r,p⟩:=t
 rw [denT] at p
 refine ⟨ρ,env,h,s,r,?_⟩
 unfold M.bind at p
 cases q:den F ce env h with
 | ok d h' =>
  rw [q] at p
  obtain ⟨k,rfl⟩:=hb _ _ _ _ q
  exact fun ρ' H' e' r' v hv=>⟨k,hv,p ρ' H' e' r'⟩
 | exc c h'=>rw [q] at p;exact p
 | bad=>rw [q] at p;exact p
theorem bind_ok {α β:Type} {m:M α} {f:α→M β} {h h':AH} {b:β} (e:M.bind m f h=.ok b h'):∃ a h1,m h=.ok a h1∧f a h1=.ok b h':=by
 unfold M.bind at e
 cases q:m h with
 | ok a h1=>rw [q] at e;exact ⟨a,h1,rfl,e⟩
 | exc _ _=>rw [q] at e;cases e
 | bad=>rw [q] at e;cases e
theorem qKq {o o':Bi} {ca cb cc:CE} (h2:isCmp o'=true) (env:Env) (h:AH) (d:D) (h':AH) (e:den F (.chain o o' ca cb cc) env h=.ok d h'):∃ k,d=.bl k:=by
 rw [den] at e
 obtain ⟨x,g1,_,e⟩:=bind_ok e
 obtain ⟨y,g2,_,e⟩:=bind_ok e
 obtain ⟨z,g3,_,e⟩:=bind_ok e
 cases z with
 | bl k =>
  cases k with
  | true =>
   obtain ⟨w,g4,_,e⟩:=bind_ok e
   exact qLO h2 e
  | false=>cases e;exact ⟨_,rfl⟩
 | _=>cases e
theorem qKh {a b c:Expr} {op op':CmpOp} {o o':Bi} {ca cb cc:CE} {pos:Pos} (h2:isCmp o'=true) (ho:OpR X (compareOp op) (rB X.K o)) (ho':OpR X (compareOp op') (rB X.K o')) (ha:PE X a (tD X.K W (den F ca))) (hb:PE X b (tD X.K W (den F cb))) (hc:PE X c (tD X.K W (den F cc)))
    (hm:lastMarks [op,op'] [b,c]=false):PT X (.Compare a [op,op'] [b,c] pos) (tDT X.K W (denT F (.val (.chain o o' ca cb cc)))):=PT.imp (L2.pt_chain ho ho' ha hb hc hm) fun σ H Q t=>qLP (valI (qKq h2) t)
theorem d_not {a:Expr} {ca:CE} {pos:Pos} (ha:PE X a (tD X.K W (den F ca))):PE X (.UnaryOp .Not a pos) (tD X.K W (den F (.not ca))):=by
 intro pins s σ H Q I t
 refine UnaryOp_ (L2.thn (ha pins s σ H (fun x H1=>∃ k,L2.TruV X.K x H1 k∧Q (.bl (!k)) H1) I ?_) fun v s1 ⟨x,H1,I1,r1,k,hk,q1⟩=>?_)
 ·obtain ⟨ρ,env,h,s',r,p⟩:=t
  rw [den] at p
  refine ⟨ρ,env,h,s',r,Post.bind (rep':=fun ρ' H' d=>∀ v,RepV X.K ρ' H' d v→∃ k,L2.TruV X.K v H' k∧Q (.bl (!k)) H') (by rw [qAa] at p;exact p) fun ρ1 h1 d H1 e1 r1 q v hv=>?_⟩
  exact TruV.of (rep:=fun ρ' H' k=>Q (.bl (!k)) H') r1 hv (Post.bind q fun ρ2 h2 k H2 e2 r2 q2=>Post.ret q2 r2 _ rfl)
 ·exact not_of (L2.thn (L2.tru_ok pins s1 σ H1 x v (fun k H'=>Q (.bl (!k)) H') I1 r1 ⟨k,hk,q1⟩) fun c s2 ⟨H2,I2,q2⟩=>⟨.bl (!c),H2,I2,rfl,q2⟩)
theorem d_tup {es:List Expr} {cl:CL} {k:Nat} {pos:Pos} (h:PA X es (tDL X.K W (denL F cl))):PE X (.Tuple es k pos) (tD X.K W (den F (.tup cl))):=PE.imp (L2.pe_tup h) fun σ H Q t=>by
 obtain ⟨ρ,env,h,s,r,p⟩:=t
 rw [den] at p
 refine ⟨ρ,env,h,s,r,Post.bind p fun ρ1 h1 ds H1 e1 r1 q vs hvs=>?_⟩
 obtain ⟨hc,q⟩:=Post.when q
 exact ⟨by rw [hvs.length,szEq];exact hc,PostV.newT q r1 hvs⟩
theorem d_lst {es:List Expr} {cl:CL} {pos:Pos} (h:PA X es (tDL X.K W (denL F cl))):PE X (.List es pos) (tD X.K W (den F (.lst cl))):=PE.imp (L2.pe_lst h) fun σ H Q t=>by
 obtain ⟨ρ,env,h,s,r,p⟩:=t
 rw [den] at p
 exact ⟨ρ,env,h,s,r,Post.bind p fun ρ1 h1 ds H1 e1 r1 q vs hvs=>PostV.newL q r1 hvs⟩
noncomputable def spD (K:PySem.W.Frag) (m:List D→M D):L2.Sp:=fun vs H Q E=>∃ ρ h ds,RepH K ρ h H∧RepL K ρ H ds vs∧PostV K (fun c H'=>∀ e,E e (some c) H') Q ρ H (m ds h)
theorem qFA {a:Expr} {ca:CE} {o:Un} {e:Expr} {r:List V→Hp→VK→Prop} (he:PE X e (L2.tCB r (L2.tCons (tD X.K W (den F ca)) L2.tNil))) (hr:∀ x H Q,rU X.K o x H Q→r [x] H Q):PE X e (tD X.K W (den F (.un o ca))):=PE.imp he fun σ H Q t=>by
 obtain ⟨ρ,env,h,s,r',p⟩:=one t
 exact ⟨ρ,env,h,s,r',Post.imp p fun ρ' H' d q v hv=>hr v H' Q (q v hv)⟩
theorem qJY {ca cb:CE} {o:Bi} {e:Expr} {r:List V→Hp→VK→Prop} (he:PE X e (L2.tCB r (L2.tCons (tD X.K W (den F ca)) (L2.tCons (tD X.K W (den F cb)) L2.tNil)))) (hr:∀ x y H Q,rB X.K o x y H Q→r [x,y] H Q):PE X e (tD X.K W (den F (.bi o ca cb))):=PE.imp he fun σ H Q t=>by
 obtain ⟨ρ,env,h,s,r',p⟩:=two t
 refine ⟨ρ,env,h,s,r',Post.imp p fun ρ' H' d q v hv=>?_⟩
 obtain ⟨ρ1,env1,h1,s1,r1,p1⟩:=q v hv
 exact ⟨ρ1,env1,h1,s1,r1,Post.imp p1 fun ρ2 H2 d2 q2 w hw=>hr v w H2 Q (q2 w hw)⟩
end
end Fy
set_option Elab.async false
set_option linter.all false
set_option maxRecDepth 100000
set_option maxHeartbeats 4000000
namespace Fy
open PySem PySem.Spec PyProof.Rows
open L2 (V Hp HO VK TE TT TA TS TI Cx Inv RelV Vals SqL SqT Rd upd qAB qAC PE PT PA PS PSs EP OpR CallR IxR MtR SlR PO TO)
theorem kyV_inj {a b:Ky}:kyV a=kyV b↔a=b:=by
 constructor
 ·intro h
  cases a with
  | int i=>cases b with
   | int j=>cases h;rfl
   | str y=>cases h
  | str x=>cases b with
   | int j=>cases h
   | str y =>
    have h:(Sum.inr (⟨x.toArray⟩:Str):L2.Key)=Sum.inr ⟨y.toArray⟩:=h
    have h2:=congrArg Str.cps (Sum.inr.inj h)
    have h3:x=y:=by simpa using congrArg Array.toList h2
    rw [h3]
 ·rintro rfl;rfl
section
variable {K:PySem.W.Frag} {ρ:List Addr} {H:Hp}
theorem RepK.val (k:Ky):∀ {kvs:List (Ky × D)} {vs:List (L2.Key × V)},RepK K ρ H kvs vs→(∃ d v,valY kvs k=some d∧L2.valV vs (kyV k)=some v∧RepV K ρ H d v)∨(valY kvs k=none∧L2.valV vs (kyV k)=none)
 | [],_,h=>by cases h;exact .inr ⟨rfl,rfl⟩
 | x::kvs,_,⟨v,r,rfl,h1,h2⟩=>by
  by_cases e:x.1=k
  ·refine .inl ⟨x.2,v,?_,L2.valV_pos (kyV_inj.mpr e),h1⟩
   unfold valY
   rw [List.find?_cons_of_pos (by simpa using e)]
   rfl
  ·have e2:valY (x::kvs) k=valY kvs k:=by unfold valY;rw [List.find?_cons_of_neg (by simpa using e)]
   rw [e2,L2.valV_neg (fun z=>e (kyV_inj.mp z))]
   exact RepK.val k h2
theorem RepK.any (k:Ky):∀ {kvs:List (Ky × D)} {vs:List (L2.Key × V)},RepK K ρ H kvs vs→(kvs.any fun kv=>decide (kv.1=k))=(vs.any fun kv=>decide (kv.1=kyV k))
 | [],_,h=>by cases h;rfl
 | x::kvs,_,⟨v,r,rfl,h1,h2⟩=>by
  rw [List.any_cons,List.any_cons,RepK.any k h2]
  congr 1
  exact decide_eq_decide.mpr kyV_inj.symm
theorem RepK.length:∀ {kvs:List (Ky × D)} {vs:List (L2.Key × V)},RepK K ρ H kvs vs→kvs.length=vs.length
 | [],_,h=>by cases h;rfl
 | x::kvs,_,⟨v,r,rfl,h1,h2⟩=>by rw [List.length_cons,List.length_cons,RepK.length h2]
theorem RepK.repl (k:Ky) {d:D} {v:V} (hv:RepV K ρ H d v):∀ {kvs:List (Ky × D)} {vs:List (L2.Key × V)},RepK K ρ H kvs vs→RepK K ρ H (kvs.map fun kv=>if kv.1=k then (kv.1,d) else kv) (vs.map fun kv=>if kv.1=kyV k then (kv.1,v) else kv)
 | [],_,h=>by cases h;rfl
 | x::kvs,_,⟨u,r,rfl,h1,h2⟩=>by
  rw [List.map_cons,List.map_cons]
  by_cases e:x.1=k
  ·rw [if_pos e,if_pos (kyV_inj.mpr e)]
   exact ⟨v,_,rfl,hv,RepK.repl k hv h2⟩
  ·rw [if_neg e,if_neg (fun z=>e (kyV_inj.mp z))]
   exact ⟨u,_,rfl,h1,RepK.repl k hv h2⟩
theorem RepK.snoc (k:Ky) {d:D} {v:V} (hv:RepV K ρ H d v):∀ {kvs:List (Ky × D)} {vs:List (L2.Key × V)},RepK K ρ H kvs vs→RepK K ρ H (kvs++[(k,d)]) (vs++[(kyV k,v)])
 | [],_,h=>by cases h;exact ⟨v,[],rfl,hv,rfl⟩
 | x::kvs,_,⟨u,r,rfl,h1,h2⟩=>⟨u,r++[(kyV k,v)],rfl,h1,RepK.snoc k hv h2⟩
theorem RepK.put (k:Ky) {d:D} {v:V} (hv:RepV K ρ H d v) {kvs:List (Ky × D)} {vs:List (L2.Key × V)} (h:RepK K ρ H kvs vs):RepK K ρ H (putY kvs k d) (L2.putK vs (kyV k) v):=by
 unfold putY L2.putK
 rw [h.any k]
 split
 ·exact h.repl k hv
 ·exact h.snoc k hv
theorem RepK.merge:∀ {more:List (Ky × D)} {ms:List (L2.Key × V)} {kvs:List (Ky × D)} {vs:List (L2.Key × V)},RepK K ρ H more ms→RepK K ρ H kvs vs→RepK K ρ H (qHI kvs more) (L2.mergeK vs ms)
 | [],_,_,_,h,h0=>by cases h;exact h0
 | x::more,_,kvs,vs,⟨v,r,rfl,h1,h2⟩,h0=>RepK.merge (more:=more) (ms:=r) h2 (h0.put x.1 h1)
theorem RepH.dict {h:AH} {i:Nat} {kvs:List (Ky × D)} (r:RepH K ρ h H) (e:h[i]?=some (.dct kvs)) {v:V} (hv:RepV K ρ H (.ref i) v):∃ a vs,v=.ref a∧ρ[i]?=some a∧H a=some (.dK vs)∧RepK K ρ H kvs vs:=by
 obtain ⟨a,h1,h2⟩:=hv
 obtain ⟨b,h3,vs,h4,h5⟩:=r.obj i _ e
 rw [h1] at h3
 cases h3
 exact ⟨a,vs,h2,h1,h4,h5⟩
theorem RepH.setDict {h:AH} (r:RepH K ρ h H) {k:Nat} {p:Addr} {xs ys:List (Ky × D)} {us vs:List (L2.Key × V)} (hk:h[k]?=some (.dct xs)) (hr:ρ[k]?=some p) (hp:H p=some (.dK us)) (hx:RepK K ρ H ys vs) :
    RepH K ρ (h.set k (.dct ys)) (upd H p (.dK vs)):=r.setO hk rfl rfl hr hp rfl ⟨vs,qAB,RepK.mono (Step.turn hp rfl (List.mem_of_getElem? hr)) _ _ hx⟩
end
section
variable {X:Cx} {pins:List (Addr × Obj)} {σ:L2.St} {H:Hp} {s:Shared} {a:Addr} {vs:List (L2.Key × V)} {k:L2.Key} {v:V} {u:Value} {A:Around} {E:Value→Shared→Prop}
theorem qO7 {Q:Value→Shared→Prop} (I:Inv X pins σ H s) (e:H a=some (.dK vs)) (l:L2.valV vs k=some v) (ry:RelV (L2.kV k) u) (h:∀ w' s',Inv X pins σ H s'→RelV v w'→Q w' s'):wpAny (model X.prog X.w) A (getItem (.ref a) u) Q E s:=by
 obtain ⟨z,hd,ws,rel,dd⟩:=L2.dk_rd I.hok (.inl e)
 obtain ⟨w',hw,rw'⟩:=L2.RelO.some_of (v:=v) (o:=valueAt ws k) (by rw [← l];exact rel.val k)
 exact wpAny_getItem_of (L2.kV_is ry) dd.mapOf hw (h w' _ (I.tok _) rw')
theorem dk_in {Q:Value→Shared→Prop} (I:Inv X pins σ H s) (e:H a=some (.dK vs)) (ry:RelV (L2.kV k) u) (h:∀ s',Inv X pins σ H s'→Q (.bool (L2.valV vs k).isSome) s'):wpAny (model X.prog X.w) A (compareOp .In u (.ref a)) Q E s:=by
 obtain ⟨z,hd,ws,rel,dd⟩:=L2.dk_rd I.hok (.inl e)
 refine wpAny_in_of (L2.kV_is ry) hd dd.mapOf ?_
 rw [← (rel.val k).isSome_eq]
 exact h _ (I.tok _)
theorem qO6 {r:Value} {Q:Unit→Shared→Prop} (I:Inv X pins σ H s) (e:H a=some (.dK vs)) (hl0:vs.length<sizeLine) (ry:RelV (L2.kV k) u) (rv:RelV v r) (h:∀ s',Inv X pins σ (upd H a (.dK (L2.putK vs k v))) s'→Q () s'):wpAny (model X.prog X.w) A (setItem (.ref a) u r) Q E s:=by
 obtain ⟨z,hd,ws,rel,dd⟩:=L2.dk_of I.hok e
 have hz:ws.length≤sizeLine:=by rw [← rel.length];exact z
 have hl:(L2.putK vs k v).length≤sizeLine:=by have:=L2.length_putK vs k v;omega
 refine wpAny_setItem_pairs (hsz:=hz) (L2.kV_is ry) dd fun h' dd' hs=>h _ ?_
 have he:∃ q,h'.get? a=some q:=let ⟨q,_,_,hq,_⟩:=dd';⟨q,hq⟩
 exact L2.d_write I (by rw [e];exact True.intro) hs he (L2.dk_new hl hd (rel.put k rv) dd')
theorem dk_ty (I:Inv X pins σ H s) (e:H a=some (.dK vs)):s.TypeIs (.ref a) "dict":=by
 obtain ⟨_,_,_,_,dd⟩:=L2.dk_rd I.hok (.inl e)
 exact dd.typeIs
theorem qMq {value slice:Expr} {Q:Value→Shared→Prop} (hT:s.TypeIs (.ref a) "dict") (hs:subscripted slice false (.ref a) u=operate [.ref a,u] (getItem (.ref a) u)) (h₂:wpAny (model X.prog X.w) A (getItem (.ref a) u) Q E s):wpAny (model X.prog X.w) A (subscriptTail value slice (.ref a) u) Q E s:=by
 unfold subscriptTail
 refine wpAny_bind ?_
 rw [getitemInPython_of_ne hT.not_modules]
 refine wpAny_bind (wpAny_specialOf hT PySem.F.slot_dict_getitem.lookup ?_)
 have fin:wpAny (model X.prog X.w) A (subscripted slice false (.ref a) u) (fun r s₃=>wpAny (model X.prog X.w) A (letTemporaryGo value (.ref a) r >>= fun _=>pure r) Q E s₃) E s:=by
  rw [hs]
  exact wpAny_operating (wpAny_mono h₂ (fun r s₃ h₃=>wpAny_bind (wpAny_letTemporaryGo (wpAny_pure h₃))) fun _ _ x=>x)
 first
  | exact wpAny_pure (wpAny_bind fin)
  | exact wpAny_bind (wpAny_pure (wpAny_bind fin))
  | exact wpAny_bind fin
end
section
variable {X:Cx} {F:Nat→List D→M D} {W:WX}
noncomputable def kyD:Ky→D
 | .int i=>.int i
 | .str x=>.str x
theorem ky_of {K:PySem.W.Frag} {ρ:List Addr} {H:Hp} {k:Ky} {x:V} (h:RepV K ρ H (kyD k) x):x=L2.kV (kyV k):=by
 cases k with
 | int i=>cases h;rfl
 | str y=>cases h;rfl
theorem ix_K {value slice:Expr} {pins:List (Addr × Obj)} {s:Shared} {σ:L2.St} {H:Hp} {x y:V} {v u:Value} {Q:VK} {w:W1} {ρ:List Addr} {h:AH} {k:Nat} {ky:Ky} (I:Inv X pins σ H s) (r:RepH X.K ρ h H) (hd:RepV X.K ρ H (.ref k) x) (he:RepV X.K ρ H (kyD ky) y) (rx:RelV x v) (ry:RelV y u)
    (p:PostV X.K w Q ρ H (ixK k ky h)) (hs:subscripted slice false v u=operate [v,u] (getItem v u)):wpAny (model X.prog X.w) X.A (subscriptTail value slice v u) (EP X pins σ Q) X.xe s:=by
  have p:PostV X.K w Q ρ H (match h[k]? with | some (.dct kvs)=>(match valY kvs ky with | some d=>.ok d h | none=>.bad) | _=>.bad):=p
  split at p
  · rename_i kvs q
    obtain ⟨a,vs,rfl,ha,hH,hk⟩:=r.dict q hd
    cases rx
    have hy:=ky_of he
    subst hy
    rcases hk.val ky with ⟨d,v',e1,e2,hv⟩ | ⟨e1,_⟩
    · rw [e1] at p
      exact qMq (dk_ty I hH) hs (qO7 I hH e2 ry fun w' s' I' rw'=>⟨v',H,I',rw',PostV.now p r hv⟩)
    · rw [e1] at p
      exact False.elim p
  · exact False.elim p
theorem in_K {pins:List (Addr × Obj)} {s:Shared} {σ:L2.St} {H:Hp} {x y:V} {v u:Value} {Q:VK} {w:W1} {ρ:List Addr} {h:AH} {k:Nat} {ky:Ky} (I:Inv X pins σ H s) (r:RepH X.K ρ h H) (hd:RepV X.K ρ H (kyD ky) x) (he:RepV X.K ρ H (.ref k) y) (rx:RelV x v) (ry:RelV y u)
    (p:PostV X.K w Q ρ H (hasK k ky h)):wpAny (model X.prog X.w) X.A (compareOp .In v u) (EP X pins σ Q) X.xe s:=by
  have p:PostV X.K w Q ρ H (match h[k]? with | some (.dct kvs)=>.ok (.bl (valY kvs ky).isSome) h | _=>.bad):=p
  split at p
  · rename_i kvs q
    obtain ⟨a,vs,rfl,ha,hH,hk⟩:=r.dict q he
    cases ry
    have hy:=ky_of hd
    subst hy
    refine dk_in I hH rx fun s' I'=>⟨.bl (L2.valV vs (kyV ky)).isSome,H,I',rfl,?_⟩
    have e:(L2.valV vs (kyV ky)).isSome=(valY kvs ky).isSome:=by
      rcases hk.val ky with ⟨d,v',e1,e2,hv⟩ | ⟨e1,e2⟩
      · rw [e1,e2];rfl
      · rw [e1,e2];rfl
    rw [e]
    exact PostV.now p r rfl
  · exact False.elim p
end
end Fy
set_option Elab.async false
set_option linter.all false
set_option maxRecDepth 100000
set_option maxHeartbeats 4000000
namespace Fy
open PySem PySem.Spec PyProof.Rows
open L2 (V Hp HO VK TE TT TA TS TI Cx Inv RelV Vals SqL SqT Rd upd qAB qAC PE PT PA PS PSs EP OpR CallR IxR MtR SlR PO TO)
noncomputable def clLen:CL→Nat
 | .nil=>0
 | .cons _ l=>clLen l+1
section
variable {X:Cx} {F:Nat→List D→M D} {W:WX}
noncomputable def trs (X:Cx) (F:Nat→List D→M D) (W:WX):List Ky→CL→List (TE × TE)
 | k::ks,.cons e l=>(L2.tC (L2.kV (kyV k)),tD X.K W (den F e))::trs X F W ks l
 | _,_=>[]
theorem qHC:∀ {ks:List Ky} {es:CL} {σ:L2.St} {H:Hp} {env:Env} {ρ:List Addr} {h:AH} {Q:List (V × V)→Hp→Prop},clLen es=ks.length→RepS X.K ρ H env σ→RepH X.K ρ h H →
    Post X.K (W.at σ) (fun ρ' H' ds=>∀ vs,RepL X.K ρ' H' ds vs→Q (((ks.map kyV).zip vs).map fun kv=>(L2.kV kv.1,kv.2)) H') ρ H (denL F es env h)→L2.tPairs (trs X F W ks es) σ H Q
  | [],.nil,σ,H,env,ρ,h,Q,_,s,r,p=>by
    rw [denL] at p
    exact Post.ret p r [] rfl
  | [],.cons _ _,_,_,_,_,_,_,hl,_,_,_=>by cases hl
  | _::_,.nil,_,_,_,_,_,_,hl,_,_,_=>by cases hl
  | k::ks,.cons e l,σ,H,env,ρ,h,Q,hl,s,r,p=>by
    rw [denL] at p
    refine ⟨ρ,env,h,s,r,Post.bind p fun ρ1 h1 d H1 e1 r1 q v hv=>?_⟩
    refine qHC (ks:=ks) (es:=l) (Nat.succ.inj hl) (s.mono e1) r1 (Post.bind q fun ρ2 h2 ds H2 e2 r2 q2=>?_)
    intro vs hvs
    exact Post.ret q2 r2 (v::vs) ⟨v,vs,rfl,hv.mono e2 _ _,hvs⟩
theorem RepK.zip {K:PySem.W.Frag} {ρ:List Addr} {H:Hp}:∀ {ks:List Ky} {ds:List D} {vs:List V},RepL K ρ H ds vs→RepK K ρ H (ks.zip ds) ((ks.map kyV).zip vs)
 | [],_,_,_=>by simp [RepK]
 | k::ks,[],_,h=>by cases h;simp [RepK]
 | k::ks,d::ds,_,⟨v,r,rfl,h1,h2⟩=>⟨v,_,rfl,h1,RepK.zip h2⟩
theorem qPE {keys:List (Option Expr)} {values:List Expr} {ks:List Ky} {es:CL} {pos:Pos} (h:L2.PPs X pos keys values (trs X F W ks es)) (hall:keys.all (·.isSome)=true) (hl:keys.length=values.length) (h15:keys.length≤15) (hk:clLen es=ks.length) (h0:keys=[]→ks=[]∧es=.nil∧values=[]) :
    PE X (.Dict keys values pos) (tD X.K W (den F (.disp ks es))):=by
  have main:∀ (σ:L2.St) (H:Hp) (Q:VK),tD X.K W (den F (.disp ks es)) σ H Q→∀ p,H p=none→L2.tPairs (trs X F W ks es) σ (upd H p (.dK [])) fun ps H2=>H2 p=some (.dK [])∧∃ kvs:List (L2.Key × V),ps=kvs.map (fun kv=>(L2.kV kv.1,kv.2))∧kvs.length≤15∧Q (.ref p) (upd H2 p (.dK (L2.mergeK [] kvs))):=by
    intro σ H Q t p hp
    obtain ⟨ρ,env,h,s,r,q⟩:=t
    rw [den] at q
    have st:Step ρ H (ρ++[p]) (upd H p (.dK [])):=Step.new1 hp
    have r1:RepH X.K (ρ++[p]) (h++[.dct []]) (upd H p (.dK [])):=r.newO hp ⟨[],qAB,rfl⟩
    have q1:PostV X.K (W.at σ) Q (ρ++[p]) (upd H p (.dK [])) (M.bind (denL F es env) (fun ds=>dispD ks ds h.length) (h++[.dct []])):=Post.mono q st
    refine qHC hk (s.mono st) r1 (Post.bind q1 fun ρ2 h2 ds H2 e2 r2 q2=>?_)
    intro vs hvs
    have q2:PostV X.K (W.at σ) Q ρ2 H2 (match h2[h.length]? with | some (.dct [])=>(if ks.length=ds.length∧ks.length≤15 then .ok (.ref h.length) (h2.set h.length (.dct (qHI [] (ks.zip ds)))) else .bad) | _=>.bad):=q2
    have hpl:(ρ++[p])[h.length]?=some p:=by rw [← r.len,List.getElem?_append_right (Nat.le_refl _)];simp
    have hpl2:ρ2[h.length]?=some p:=qC4 e2.pre hpl
    split at q2
    · rename_i z
      obtain ⟨⟨c1,c2⟩,q2⟩:=PostV.ite q2
      obtain ⟨a,us,ea,ha,hH,hu⟩:=r2.dict z (v:=.ref p) ⟨p,hpl2,rfl⟩
      cases ea
      cases hu
      refine ⟨hH,(ks.map kyV).zip vs,rfl,?_,?_⟩
      · rw [List.length_zip,List.length_map];omega
      · have stp:Step ρ2 H2 ρ2 (upd H2 p (.dK (L2.mergeK [] ((ks.map kyV).zip vs)))):=Step.turn hH rfl (List.mem_of_getElem? ha)
        exact q2 ρ2 _ stp (r2.setDict z ha hH (RepK.merge (RepK.zip hvs) rfl)) (.ref p) ⟨p,hpl2,rfl⟩
    · exact False.elim q2
  by_cases z:keys=[]
  · obtain ⟨rfl,rfl,rfl⟩:=h0 z
    subst z
    refine PE.imp L2.pe_dnewK fun σ H Q t p hp=>?_
    obtain ⟨hH,kvs,e1,_,q⟩:=main σ H Q t p hp
    cases kvs with
    | cons a b=>cases e1
    | nil =>
      have:upd (upd H p (.dK [])) p (.dK (L2.mergeK [] []))=upd H p (.dK []):=L2.upd_upd
      rw [this] at q
      exact q
  · exact PE.imp (L2.pe_disp h hall hl z h15) fun σ H Q t=>main σ H Q t
end
end Fy
set_option Elab.async false
set_option linter.all false
set_option maxRecDepth 100000
set_option maxHeartbeats 4000000
namespace Fy
open PySem PySem.Spec PyProof.Rows
open L2 (V Hp HO VK TE TT TA TS TI Cx Inv RelV Vals SqL SqT Rd upd qAB qAC PE PT PA PS PSs EP OpR CallR IxR MtR SlR PO TO PI PG PIE Turn FpOk Ends)
noncomputable def Its (z:Str):L2.It:=⟨fun i _=>i<z.cps.size,fun i H x H'=>H'=H∧∃ c,z.cps[i]?=some c∧x=.str ⟨#[c]⟩,fun i _=>i=z.cps.size⟩
theorem qG3 {P:Program} {w:World} {K:PySem.W.Frag} {tg:Expr} {z:Str} {t:Tok} {ty:String} (it:Addr)
    (hty:["enumerate","zip","dict_itemiterator","dict_reverseitemiterator","odict_iterator","itertools.zip_longest","itertools.pairwise"].contains ty=false)
    (W:∀ A':Around,A'.handled=none→Walks P w A' it [it] [it] z.cps.size (SignAt z) (fun i h=>h.IsStrIter it ty z t i))
    (W':∀ (A:Around) (i:Nat) (s:Shared) (Q:Value→Shared→Prop) (E:Value→Shared→Prop),s.heap.IsStrIter it ty z t i→Q (.ref it) s→wpAny (model P w) A (pyIter (.ref it)) Q E s) :
    Turn P w K tg (Its z) [it] it (fun i h=>h.IsStrIter it ty z t i) where
  mem:=by simp
  obj:=fun i h st b hb=>by
    have e:b=it:=by simpa using hb
    subst e
    obtain ⟨o,e,c,d⟩:=st
    exact ⟨o,e,fun v z=>by rw [d] at z;cases z⟩
  keep:=fun i h h' st k=>by
    obtain ⟨o,e,c,d⟩:=st
    exact ⟨o,k it (by simp) o e,c,d⟩
  item:=by
    intro X hP hw hK hc i pins s σ H E I hf st hg
    subst hP hw hK
    obtain ⟨f0,f1,f2,f3,f4,f5⟩:=hf it (by simp)
    refine (W X.A (I.ok.hd hc)).item i s _ E hg st fun v h' tk hv st' kp=>?_
    obtain ⟨c,u,hcz,rfl⟩:=hv
    have I1:Inv X pins σ H { s with heap:=h',toks:=tk }:=I.turned (t':=tk) (fun b o hb e=>kp b o (by simpa using hb) e) f0 f1 f3 f4 f5
    obtain ⟨o,e,cc,d⟩:=id st'
    exact ⟨_,rfl,L2.go_of (s:={ s with heap:=h',toks:=tk }) e cc d hty ⟨.str ⟨#[c]⟩,H,I1,⟨u,rfl⟩,⟨rfl,c,hcz,rfl⟩,st',fun b hb=>(hf b hb).1⟩⟩
  done:=by
    intro X hP hw hK hc i pins s σ H E I hf st hg
    subst hP hw hK
    obtain ⟨f0,f1,f2,f3,f4,f5⟩:=hf it (by simp)
    have hg:i=z.cps.size:=hg
    subst hg
    exact (W X.A (I.ok.hd hc)).done s _ E st fun h' tk kp=>⟨rfl,I.turned (t':=tk) (fun b o hb e=>kp b o (by simpa using hb) e) f0 f1 f3 f4 f5⟩
  self:=fun A i s Q E st h=>W' A i s Q E st h
section
variable {X:Cx} {tg:Expr}
noncomputable def iAny (K:PySem.W.Frag) (tl:TE):TI:=fun σ H R=>tl σ H fun x H1 =>
 (∃ a,x=.ref a∧(∃ xs,SqL K H1 a xs)∧R (L2.Itl K a) H1)∨(∃ a,x=.ref a∧(∃ xs,SqT K H1 a xs)∧R (L2.Itt K a) H1)∨∃ z,x=.str z∧R (Its z) H1
theorem qN0 {l:Expr} {tl:TE} (hl:PE X l tl):PI X tg l (iAny X.K tl):=by
  intro pins s σ H R I h
  refine L2.thn (hl pins s σ H _ I h) fun v s1 ⟨x,H1,I1,r1,q1⟩=>?_
  have one:∀ {h':Heap} {t':Nat} {b:Addr},b∈[s1.heap.objs.size]→FpOk X pins H1 b:=fun hb=>by
    have e:=List.mem_singleton.mp hb
    subst e
    exact I1.fpOk (Nat.le_refl _) (I1.hok.fresh (Nat.le_refl _))
  rcases q1 with ⟨a,e,⟨xs,hq⟩,q⟩ | ⟨a,e,⟨xs,hq⟩,q⟩ | ⟨z,e,q⟩
  · subst e
    cases r1
    obtain ⟨its,rv,p,hz⟩:=I1.list hq
    refine wpAny_pyIter_list p.isList ?_
    exact ⟨s1.heap.objs.size,[s1.heap.objs.size],_,_,H1,rfl,I1.kept (t':=s1.toks) fun b o e=>Heap.get?_push_of_some _ e,L2.turn_list a _,⟨_,Heap.get?_push_size _ rfl,rfl,rfl⟩,fun b hb=>one (h':=s1.heap) (t':=0) hb,q⟩
  · subst e
    cases r1
    obtain ⟨its,rv,p,hz⟩:=I1.tuple hq
    refine wpAny_pyIter_tuple (show s1.heap.IsTuple a its.toArray from p) ?_
    exact ⟨s1.heap.objs.size,[s1.heap.objs.size],_,_,H1,rfl,I1.kept (t':=s1.toks) fun b o e=>Heap.get?_push_of_some _ e,L2.turn_tuple a _,⟨_,Heap.get?_push_size _ rfl,rfl,rfl⟩,fun b hb=>one (h':=s1.heap) (t':=0) hb,q⟩
  · subst e
    obtain ⟨t,rfl⟩:=r1
    cases ha:z.cps.all (·<128)
    · refine wpAny_pyIter_wide ha ?_
      exact ⟨s1.heap.objs.size,[s1.heap.objs.size],_,_,H1,rfl,I1.kept (t':=s1.toks) fun b o e=>Heap.get?_push_of_some _ e,qG3 (t:=t) _ (by decide) (fun A' hA=>Walks.strWide hA _ z t) (fun A i s Q E st h=>wpAny_pyIter_striter_wide st h),⟨_,Heap.get?_push_size _ rfl,rfl,rfl⟩,fun b hb=>one (h':=s1.heap) (t':=0) hb,q⟩
    · refine wpAny_pyIter_ascii ha ?_
      exact ⟨s1.heap.objs.size,[s1.heap.objs.size],_,_,H1,rfl,I1.kept (t':=s1.toks) fun b o e=>Heap.get?_push_of_some _ e,qG3 (t:=t) _ (by decide) (fun A' hA=>Walks.strAscii hA _ z t) (fun A i s Q E st h=>wpAny_pyIter_striter_ascii st h),⟨_,Heap.get?_push_size _ rfl,rfl,rfl⟩,fun b hb=>one (h':=s1.heap) (t':=0) hb,q⟩
end
noncomputable def PostS (K:PySem.W.Frag) (W:WX) (D:Ends) (ρ:List Addr) (H:Hp):SR→Prop
 | .nx e h=>∀ ρ' H' st,Step ρ H ρ' H'→RepH K ρ' h H'→RepS K ρ' H' e st→D.nx st H'
 | .rt d h=>∀ ρ' H' v,Step ρ H ρ' H'→RepH K ρ' h H'→RepV K ρ' H' d v→D.rt v H'
 | .bk e h=>∀ ρ' H' st,Step ρ H ρ' H'→RepH K ρ' h H'→RepS K ρ' H' e st→D.bk st H'
 | .ct e h=>∀ ρ' H' st,Step ρ H ρ' H'→RepH K ρ' h H'→RepS K ρ' H' e st→D.ct st H'
 | .exc c e h=>∀ ρ' H' st,Step ρ H ρ' H'→RepH K ρ' h H'→RepS K ρ' H' e st→W c st H'
 | .bad=>False
theorem PostS.mono {K:PySem.W.Frag} {W:WX} {D:Ends} {ρ ρ1:List Addr} {H H1:Hp} {r:SR} (p:PostS K W D ρ H r) (e:Step ρ H ρ1 H1):PostS K W D ρ1 H1 r:=by
 cases r with
 | nx _ _=>exact fun ρ' H' st e'=>p ρ' H' st (e.trans e')
 | rt _ _=>exact fun ρ' H' st e'=>p ρ' H' st (e.trans e')
 | bk _ _=>exact fun ρ' H' st e'=>p ρ' H' st (e.trans e')
 | ct _ _=>exact fun ρ' H' st e'=>p ρ' H' st (e.trans e')
 | exc _ _ _=>exact fun ρ' H' st e'=>p ρ' H' st (e.trans e')
 | bad=>exact p
noncomputable abbrev WF:WX:=fun _ _ _=>False
noncomputable def tDS (K:PySem.W.Frag) (W:WX) (m:Env→AH→SR):TS:=fun D σ H=>∃ ρ env h,RepS K ρ H env σ∧RepH K ρ h H∧PostS K W D ρ H (m env h)
theorem PostS.ofR {α:Type} {K:PySem.W.Frag} {W:WX} {D:Ends} {rep:List Addr→Hp→α→Prop} {ρ:List Addr} {H:Hp} {env:Env} {σ:L2.St} {r:R α} {f:α→AH→SR} (s:RepS K ρ H env σ) (p:PostS K W D ρ H (SR.ofR env r f))
    (k:∀ ρ' h' a H',Step ρ H ρ' H'→RepH K ρ' h' H'→PostS K W D ρ' H' (f a h')→rep ρ' H' a):Post K (W.at σ) rep ρ H r:=by
  cases r with
  | ok a h=>exact fun ρ' H' e r'=>k ρ' h a H' e r' (PostS.mono p e)
  | exc c h=>exact fun ρ' H' e r'=>p ρ' H' σ e r' (s.mono e)
  | bad=>exact p
section
variable {X:Cx} {F:Nat→List D→M D} {B:Nat} {W:WX}
theorem s_nil:PSs X [] (tDS X.K W (denS F B .skip)):=PSs.imp L2.pss_nil fun D σ H t=>by
 obtain ⟨ρ,env,h,s,r,p⟩:=t
 exact p ρ H σ (Step.refl ρ H) r s
theorem qNw {st:Stmt} {rest:List Stmt} {a b:CS} (h1:PS X st (tDS X.K W (denS F B a))) (h2:PSs X rest (tDS X.K W (denS F B b))):PSs X (st::rest) (tDS X.K W (denS F B (.seq a b))):=PSs.imp (L2.pss_cons h1 h2) fun D σ H t=>by
 obtain ⟨ρ,env,h,s,r,p⟩:=t
 refine ⟨ρ,env,h,s,r,?_⟩
 rw [denS] at p
 cases e:denS F B a env h with
 | nx e1 g1 =>
  rw [e] at p
  exact fun ρ' H' st' e' r' s'=>⟨ρ',e1,g1,s',r',PostS.mono p e'⟩
 | rt _ _=>rw [e] at p;exact p
 | bk _ _=>rw [e] at p;exact p
 | ct _ _=>rw [e] at p;exact p
 | exc _ _ _=>rw [e] at p;exact p
 | bad=>rw [e] at p;exact p
theorem s_set {i:Nat} {x:Str} {e:Expr} {c:CE} {pos pos':Pos} (hN:X.N.Nodup) (hi:X.N[i]?=some x) (hx:L2.Loc X.env.scope x) (he:PE X e (tD X.K W (den F c)))
    (hs:swapsWith e (some (.Name x pos')) pos.line X.env=pure false) (hf:X.fn x=true∨X.env.scope.names.lookup x=some .local):PS X (.Assign [.Name x pos'] e pos) (tDS X.K W (denS F B (.set (.nm i) c))):=PS.imp (L2.ps_set hN hi hx he hs hf) fun D σ H t=>by
  obtain ⟨ρ,env,h,s,r,p⟩:=t
  rw [denS] at p
  exact ⟨ρ,env,h,s,r,PostS.ofR s p fun ρ' h' d H' e' r' q v hv=>q ρ' H' _ (Step.refl _ _) r' ((s.mono e').set i hv)⟩
theorem s_exp {e:Expr} {c:CE} {pos:Pos} (he:PE X e (tD X.K W (den F c))) (hs:swapsWith e none pos.line X.env=pure false):PS X (.Expr e pos) (tDS X.K W (denS F B (.exp c))):=PS.imp (L2.ps_expr he hs) fun D σ H t=>by
 obtain ⟨ρ,env,h,s,r,p⟩:=t
 rw [denS] at p
 exact ⟨ρ,env,h,s,r,PostS.ofR s p fun ρ' h' d H' e' r' q v hv=>q ρ' H' _ (Step.refl _ _) r' (s.mono e')⟩
theorem s_ret {e:Expr} {c:CE} {pos:Pos} (he:PE X e (tD X.K W (den F c))):PS X (.Return (some e) pos) (tDS X.K W (denS F B (.ret c))):=PS.imp (L2.ps_ret he) fun D σ H t=>by
 obtain ⟨ρ,env,h,s,r,p⟩:=t
 rw [denS] at p
 exact ⟨ρ,env,h,s,r,PostS.ofR s p fun ρ' h' d H' e' r' q v hv=>q ρ' H' v (Step.refl _ _) r' hv⟩
theorem qNt {pos:Pos}:PS X (.Return none pos) (tDS X.K W (denS F B .retN)):=PS.imp L2.ps_retN fun D σ H t=>by
 obtain ⟨ρ,env,h,s,r,p⟩:=t
 rw [denS] at p
 exact p ρ H .non (Step.refl _ _) r rfl
theorem qNu {pos:Pos}:PS X (.Pass pos) (tDS X.K W (denS F B .skip)):=PS.imp L2.ps_pass fun D σ H t=>by
 obtain ⟨ρ,env,h,s,r,p⟩:=t
 exact p ρ H σ (Step.refl ρ H) r s
theorem s_brk {pos:Pos}:PS X (.Break pos) (tDS X.K W (denS F B .brk)):=PS.imp L2.ps_break fun D σ H t=>by
 obtain ⟨ρ,env,h,s,r,p⟩:=t
 exact p ρ H σ (Step.refl ρ H) r s
theorem s_cnt {pos:Pos}:PS X (.Continue pos) (tDS X.K W (denS F B .cnt)):=PS.imp L2.ps_continue fun D σ H t=>by
 obtain ⟨ρ,env,h,s,r,p⟩:=t
 exact p ρ H σ (Step.refl ρ H) r s
theorem s_if {c:Expr} {a b:List Stmt} {pos:Pos} {cc:CT} {ca cb:CS} (hc:PT X c (tDT X.K W (denT F cc))) (ha:PSs X a (tDS X.K W (denS F B ca))) (hb:PSs X b (tDS X.K W (denS F B cb))) :
    PS X (.If c a b pos) (tDS X.K W (denS F B (.ite cc ca cb))):=PS.imp (L2.ps_if hc ha hb) fun D σ H t=>by
  obtain ⟨ρ,env,h,s,r,p⟩:=t
  rw [denS] at p
  refine ⟨ρ,env,h,s,r,PostS.ofR s p fun ρ' h' k H' e' r' q=>?_⟩
  cases k with
  | true=>exact L2.iteT ⟨ρ',env,h',s.mono e',r',q⟩
  | false=>exact L2.iteF ⟨ρ',env,h',s.mono e',r',q⟩
noncomputable def tgOk (K:PySem.W.Frag) (t:TG) (g:L2.TG):Prop:=∀ (ρ:List Addr) (H:Hp) (env env':Env) (σ:L2.St) (d:D) (v:V) (Q:L2.St→Hp→Prop),RepS K ρ H env σ→RepV K ρ H d v→tgSet t d env=some env'→(∀ st,RepS K ρ H env' st→Q st H)→g v σ H Q
theorem tg_nm {K:PySem.W.Frag} (i:Nat):tgOk K (.nm i) (L2.gName i):=by
 intro ρ H env env' σ d v Q s hv e q
 cases e
 exact q _ (s.set i hv)
theorem qNe {K:PySem.W.Frag} (i j:Nat):tgOk K (.two i j) (L2.gTup K 2 (L2.gCons (L2.gName i) (L2.gCons (L2.gName j) L2.gNil))):=by
 intro ρ H env env' σ d v Q s hv e q
 cases d with
 | tup xs =>
  match xs,e,hv with
  | [a,b],e,hv =>
   cases e
   obtain ⟨ad,vs,rfl,hq,va,r,rfl,ha,vb,r2,rfl,hb,rfl⟩:=hv
   exact ⟨ad,[va,vb],rfl,hq,rfl,va,[vb],rfl,vb,[],rfl,rfl,q _ ((s.set i ha).set j hb)⟩
  | [],e,_=>cases e
  | [_],e,_=>cases e
  | _::_::_::_,e,_=>cases e
 | _=>cases e
theorem PostS.turn {K:PySem.W.Frag} {D:Ends} {ρ:List Addr} {H:Hp} {r:SR} {f:Env→AH→SR} {N:L2.St→Hp→Prop} (p:PostS K W D ρ H (r.turn f))
    (hN:∀ ρ' H' env h st,Step ρ H ρ' H'→RepH K ρ' h H'→RepS K ρ' H' env st→PostS K W D ρ' H' (f env h)→N st H'):PostS K WF { D with nx:=N,ct:=N,bk:=D.nx } ρ H r:=by
  cases r with
  | nx e g=>exact fun ρ' H' st e' r' s'=>hN ρ' H' e g st e' r' s' (PostS.mono p e')
  | ct e g=>exact fun ρ' H' st e' r' s'=>hN ρ' H' e g st e' r' s' (PostS.mono p e')
  | bk e g=>exact p
  | rt _ _=>exact p
  | exc _ _ _=>exact False.elim p
  | bad=>exact p
theorem qHD {K:PySem.W.Frag} {E:Ends} {ρ:List Addr} {H:Hp} {env:Env} {h:AH} {σ:L2.St} {t:TG} {g:L2.TG} {cb:CS} {d:D} {v:V} {f:Env→AH→SR} {N:L2.St→Hp→Prop} (ht:tgOk K t g) (s:RepS K ρ H env σ) (r:RepH K ρ h H) (hv:RepV K ρ H d v)
    (p:PostS K W E ρ H ((qAL t (denS F B cb) d env h).turn f)) (hN:∀ ρ' H' env h st,Step ρ H ρ' H'→RepH K ρ' h H'→RepS K ρ' H' env st→PostS K W E ρ' H' (f env h)→N st H') :
    g v σ H fun σ2 H2=>tDS K WF (denS F B cb) { E with nx:=N,ct:=N,bk:=E.nx } σ2 H2:=by
  unfold qAL at p
  cases e:tgSet t d env with
  | none=>rw [e] at p;exact False.elim p
  | some env' =>
    rw [e] at p
    exact ht ρ H env env' σ d v _ s hv e fun st s'=>⟨ρ,env',h,s',r,PostS.turn p hN⟩
theorem qKV {K:PySem.W.Frag} {E:Ends} {ρ:List Addr} {H:Hp} {env:Env} {h:AH} {σ:L2.St} {t:TG} {g:L2.TG} {cb:CS} {J:L2.It} {xs:List D} (ht:tgOk K t g) (s:RepS K ρ H env σ) (r:RepH K ρ h H)
    (go:∀ (i:Nat) ρ' H',Step ρ H ρ' H'→i<xs.length→J.go i H') (yl:∀ (i:Nat) ρ' H' x H'',Step ρ H ρ' H'→i<xs.length→J.yld i H' x H''→H''=H'∧∃ d,xs[i]?=some d∧RepV K ρ' H' d x) (sp:∀ (i:Nat) ρ' H',Step ρ H ρ' H'→i=xs.length→J.stop i H')
    (p:PostS K W E ρ H (qBi (qAL t (denS F B cb)) xs env h)) :
    ∃ Wi:Nat→Nat→L2.St→Hp→Prop,(∃ m,Wi 0 m σ H)∧∀ i m σ H,Wi i m σ H →
      (J.stop i H∧E.nx σ H)∨(J.go i H∧∃ N:L2.St→Hp→Prop,(∀ σ' H',N σ' H'→∃ m',m'<m∧Wi (i+1) m' σ' H')∧∀ x H',J.yld i H x H'→g x σ H' fun σ2 H2=>tDS K WF (denS F B cb) { E with nx:=N,ct:=N,bk:=E.nx } σ2 H2):=by
  refine ⟨fun i m σ' H'=>m=xs.length-i∧i≤xs.length∧∃ ρ' env' h',Step ρ H ρ' H'∧RepS K ρ' H' env' σ'∧RepH K ρ' h' H'∧PostS K W E ρ' H' (qBi (qAL t (denS F B cb)) (xs.drop i) env' h'),⟨_,rfl,Nat.zero_le _,ρ,env,h,Step.refl _ _,s,r,p⟩,?_⟩
  rintro i m σ' H' ⟨rfl,hi,ρ',env',h',e',s',r',p'⟩
  by_cases hlt:i<xs.length
  · refine .inr ⟨go i ρ' H' e' hlt,fun σ2 H2=>∃ ρ2 env2 h2,Step ρ H ρ2 H2∧RepS K ρ2 H2 env2 σ2∧RepH K ρ2 h2 H2∧PostS K W E ρ2 H2 (qBi (qAL t (denS F B cb)) (xs.drop (i+1)) env2 h2),fun σ2 H2 q=>⟨xs.length-(i+1),by omega,rfl,hlt,q⟩,fun x H'' y=>?_⟩
    obtain ⟨rfl,d,hd,hv⟩:=yl i ρ' H' x H'' e' hlt y
    rw [List.drop_eq_getElem_cons hlt] at p'
    have ed:xs[i]=d:=by
      rw [List.getElem?_eq_getElem hlt] at hd
      exact Option.some.inj hd
    rw [ed,qBi] at p'
    exact qHD ht s' r' hv p' fun ρ2 H2 env2 h2 st e2 r2 s2 p2=>⟨ρ2,env2,h2,e'.trans e2,s2,r2,p2⟩
  · have e:i=xs.length:=by omega
    subst e
    rw [List.drop_length] at p'
    exact .inl ⟨sp _ ρ' H' e' rfl,p' ρ' H' σ' (Step.refl _ _) r' s'⟩
theorem qI4 {K:PySem.W.Frag} {E:Ends} {ρ:List Addr} {H:Hp} {env:Env} {h:AH} {σ:L2.St} {t:TG} {g:L2.TG} {cb:CS} {k:Nat} {a:Addr} {n:Nat} (ht:tgOk K t g) (s:RepS K ρ H env σ) (r:RepH K ρ h H) (ha:ρ[k]?=some a)
    (p:PostS K W E ρ H (qAH (qAL t (denS F B cb)) k n 0 env h)) :
    ∃ Wi:Nat→Nat→L2.St→Hp→Prop,(∃ m,Wi 0 m σ H)∧∀ i m σ H,Wi i m σ H →
      ((L2.Itl K a).stop i H∧E.nx σ H)∨((L2.Itl K a).go i H∧∃ N:L2.St→Hp→Prop,(∀ σ' H',N σ' H'→∃ m',m'<m∧Wi (i+1) m' σ' H')∧∀ x H',(L2.Itl K a).yld i H x H'→g x σ H' fun σ2 H2=>tDS K WF (denS F B cb) { E with nx:=N,ct:=N,bk:=E.nx } σ2 H2):=by
  refine ⟨fun i m σ' H'=>∃ ρ' env' h',Step ρ H ρ' H'∧RepS K ρ' H' env' σ'∧RepH K ρ' h' H'∧PostS K W E ρ' H' (qAH (qAL t (denS F B cb)) k m i env' h'),⟨n,ρ,env,h,Step.refl _ _,s,r,p⟩,?_⟩
  rintro i m σ' H' ⟨ρ',env',h',e',s',r',p'⟩
  cases m with
  | zero=>exact False.elim p'
  | succ m =>
    rw [qAH] at p'
    cases q:getL h' k with
    | none=>rw [q] at p';exact False.elim p'
    | some xs =>
      rw [q] at p'
      obtain ⟨b,vs,h1,h2,h3⟩:=r'.list q
      rw [qC4 e'.pre ha] at h1
      cases h1
      cases qx:xs[i]? with
      | none =>
        simp only [qx] at p'
        refine .inl ⟨⟨vs,h2,?_⟩,p' ρ' H' σ' (Step.refl _ _) r' s'⟩
        rw [h3.length]
        exact List.getElem?_eq_none_iff.mp qx
      | some d =>
        simp only [qx] at p'
        obtain ⟨w,hw,hv⟩:=h3.get qx
        refine .inr ⟨⟨vs,w,h2,hw⟩,fun σ2 H2=>∃ ρ2 env2 h2,Step ρ H ρ2 H2∧RepS K ρ2 H2 env2 σ2∧RepH K ρ2 h2 H2∧PostS K W E ρ2 H2 (qAH (qAL t (denS F B cb)) k m (i+1) env2 h2),fun σ2 H2 z=>⟨m,by omega,z⟩,fun x H'' y=>?_⟩
        obtain ⟨rfl,y⟩:=y
        have ew:=y vs h2
        rw [hw] at ew
        cases ew
        exact qHD ht s' r' hv p' fun ρ2 H2 env2 h2 st e2 r2 s2 p2=>⟨ρ2,env2,h2,e'.trans e2,s2,r2,p2⟩
end
end Fy
set_option Elab.async false
set_option linter.all false
set_option maxRecDepth 100000
set_option maxHeartbeats 4000000
namespace Fy
open PySem PySem.Spec PyProof.Rows
open L2 (V Hp HO VK TE TT TA TS TI Cx Inv RelV Vals SqL SqT Rd upd qAB qAC PE PT PA PS PSs EP OpR CallR IxR MtR SlR PO TO)
section
variable {X:Cx} {F:Nat→List D→M D} {W:WX}
theorem at_of {K:PySem.W.Frag} {ρ:List Addr} {H:Hp} {xs:List D} {vs:List V} {i:Int} {d:D} (l:RepL K ρ H xs vs) (e:(ixN xs.length i).bind (xs[·]?)=some d):∃ w,L2.atI vs i=some w∧RepV K ρ H d w:=by
 cases q:ixN xs.length i with
 | none=>rw [q] at e;cases e
 | some j =>
  rw [q] at e
  have e:xs[j]?=some d:=e
  obtain ⟨w,h1,h2⟩:=l.get e
  refine ⟨w,?_,h2⟩
  show (L2.ixN vs.length i).bind (fun j=>vs[j]?)=some w
  rw [l.length]
  have q':L2.ixN xs.length i=some j:=q
  rw [q']
  exact h1
theorem ix_D:IxR X (rB X.K .ix):=by
 rintro value slice pins s σ H x y v u Q I rx ry ⟨w,ρ,h,d,e,r,hd,he,p⟩ hs
 cases d with
 | tup xs =>
  cases e with
  | int i =>
   cases he
   obtain ⟨a,vs,rfl,h1,h2⟩:=hd
   have p:PostV X.K w Q ρ H (match (ixN xs.length i).bind (xs[·]?) with | some d=>.ok d h | none=>.bad):=p
   cases q:(ixN xs.length i).bind (xs[·]?) with
   | none=>rw [q] at p;exact False.elim p
   | some d =>
    rw [q] at p
    obtain ⟨w,h3,h4⟩:=at_of h2 q
    exact L2.ix_tup value slice pins s σ H _ _ v u Q I rx ry ⟨a,vs,i,w,rfl,rfl,h1,h3,PostV.now p r h4⟩ hs
  | _=>exact (show False from p).elim
 | str x =>
  cases e with
  | int i =>
   cases he
   cases hd
   have p:PostV X.K w Q ρ H (if x.length≤16777216 then (match (ixN x.length i).bind (x[·]?) with | some c=>.ok (.str [c]) h | none=>.bad) else .bad):=p
   obtain ⟨hz,p⟩:=PostV.ite p
   cases q:(ixN x.length i).bind (x[·]?) with
   | none=>rw [q] at p;exact False.elim p
   | some c =>
    rw [q] at p
    exact L2.ix_str value slice pins s σ H _ _ v u Q I rx ry ⟨⟨x.toArray⟩,i,c,rfl,rfl,by rw [qAd,szEq];exact hz,q,PostV.now p r rfl⟩ hs
  | _=>exact (show False from p).elim
 | ref k =>
  cases e with
  | int i =>
   have p:PostV X.K w Q ρ H (match (getL h k).bind fun xs=>(ixN xs.length i).bind (xs[·]?) with | some d=>.ok d h | none=>ixK k (.int i) h):=p
   cases q:((getL h k).bind fun xs=>(ixN xs.length i).bind (xs[·]?)) with
   | none=>rw [q] at p;exact ix_K (ky:=.int i) I r hd he rx ry p hs
   | some d =>
    rw [q] at p
    cases he
    cases q0:getL h k with
    | none=>rw [q0] at q;cases q
    | some xs =>
     rw [q0] at q
     obtain ⟨a,vs,rfl,h1,h2⟩:=r.seen q0 hd
     obtain ⟨w,h3,h4⟩:=at_of h2 q
     exact L2.ix_list value slice pins s σ H _ _ v u Q I rx ry ⟨a,vs,i,w,rfl,rfl,h1,h3,PostV.now p r h4⟩ hs
  | str x=>exact ix_K (ky:=.str x) I r hd he rx ry p hs
  | _=>exact (show False from p).elim
 | _=>exact (show False from p).elim
theorem d_ix {a b:Expr} {ca cb:CE} {pos:Pos} (ha:PE X a (tD X.K W (den F ca))) (hb:PE X b (tD X.K W (den F cb))) (hs:L2.PlainIx b):PE X (.Subscript a b pos) (tD X.K W (den F (.bi .ix ca cb))):=PE.imp (L2.pe_ix ix_D ha hb hs) fun _ _ _ t=>two t
theorem qLT:L2.UnR X (unaryOp .USub) (rU X.K .neg):=by
 rintro pins s σ H x v Q I rx ⟨w,ρ,h,d,r,hd,p⟩
 cases d with
 | int i=>cases hd;exact L2.un_neg pins s σ H _ v Q I rx ⟨i,rfl,PostV.now p r rfl⟩
 | _=>exact (show False from p).elim
theorem d_neg {a:Expr} {ca:CE} {pos:Pos} (ha:PE X a (tD X.K W (den F ca))):PE X (.UnaryOp .USub a pos) (tD X.K W (den F (.un .neg ca))):=PE.imp (L2.pe_un qLT ha) fun _ _ _ t=>one t
theorem qJg:CallR X (.builtin "len") (rC X.K .len):=by
 rintro pins s σ H xs us Q I rv ⟨x,rfl,w,ρ,h,d,r,hd,p⟩
 cases d with
 | str x =>
  cases hd
  obtain ⟨hz,p⟩:=PostV.ite (c:=x.length≤16777216) p
  exact L2.call_len pins s σ H _ us Q I rv ⟨_,x.length,rfl,⟨by rw [qAd,szEq];exact hz,by rw [qAd]⟩,PostV.now p r rfl⟩
 | tup ys =>
  obtain ⟨a,vs,rfl,h1,h2⟩:=hd
  exact L2.call_len pins s σ H _ us Q I rv ⟨_,ys.length,rfl,.inr ⟨vs,h1,h2.length.symm⟩,PostV.now (h:=h) p r rfl⟩
 | ref i =>
  have p:PostV X.K w Q ρ H (match getL h i with | some xs=>.ok (.int xs.length) h | none=>.bad):=p
  cases q:getL h i with
  | none=>rw [q] at p;exact False.elim p
  | some ys =>
   rw [q] at p
   obtain ⟨a,vs,rfl,h1,h2⟩:=r.seen q hd
   exact L2.call_len pins s σ H _ us Q I rv ⟨_,ys.length,rfl,.inl ⟨vs,h1,h2.length.symm⟩,PostV.now p r rfl⟩
 | _=>exact (show False from p).elim
theorem qJf:CallR X (.builtin "ord") (rC X.K .ord):=by
 rintro pins s σ H xs us Q I rv ⟨x,rfl,w,ρ,h,d,r,hd,p⟩
 cases d with
 | str x =>
  cases hd
  match x,p with
  | [c],p=>exact L2.call_ord pins s σ H _ us Q I rv ⟨_,rfl,rfl,PostV.now (h:=h) p r rfl⟩
  | [],p=>exact (show False from p).elim
  | _::_::_,p=>exact (show False from p).elim
 | _=>exact (show False from p).elim
theorem qJi:CallR X (.type "int") (rC X.K .int):=by
 rintro pins s σ H xs us Q I rv ⟨x,rfl,w,ρ,h,d,r,hd,p⟩
 cases d with
 | int i=>cases hd;exact L2.call_int1 pins s σ H _ us Q I rv (.inl ⟨i,rfl,PostV.now (h:=h) p r rfl⟩)
 | bl b=>cases hd;exact L2.call_int1 pins s σ H _ us Q I rv (.inr ⟨b,rfl,PostV.now (h:=h) p r rfl⟩)
 | str x =>
  cases hd
  obtain ⟨hc,p⟩:=PostV.ite (c:=x≠[]∧x.length≤640∧isDig x=true) p
  obtain ⟨h1,h2,h3⟩:=hc
  obtain ⟨u,rfl,t,rfl⟩:=L2.vals1 rv
  have hd:PySem.NumText.AllDigits x:=fun c hc=>by
   have:=List.all_eq_true.mp h3 c hc
   exact of_decide_eq_true this
  exact PySem.W.KIN.call_text (PySem.intText_digits (x:=⟨x.toArray⟩) hd h1 (by rw [qAd];omega)) (by rw [qAd];exact h2) ⟨.int _,H,I.tok _,⟨_,rfl⟩,PostV.now p r rfl⟩
 | _=>exact (show False from p).elim
theorem qH1:CallR X (.type "list") (rC X.K .list):=by
 rintro pins s σ H xs us Q I rv ⟨x,rfl,w,ρ,h,d,r,hd,p⟩
 cases d with
 | tup ys =>
  obtain ⟨a,vs,rfl,h1,h2⟩:=hd
  exact L2.call_list_of pins s σ H _ us Q I rv ⟨a,vs,rfl,.inr h1,(PostV.newL (h:=h) p r h2).2⟩
 | ref i =>
  have p:PostV X.K w Q ρ H (match getL h i with | some xs=>newL xs h | none=>.bad):=p
  cases q:getL h i with
  | none=>rw [q] at p;exact False.elim p
  | some ys =>
   rw [q] at p
   obtain ⟨a,vs,rfl,h1,h2⟩:=r.seen q hd
   exact L2.call_list_of pins s σ H _ us Q I rv ⟨a,vs,rfl,.inl h1,(PostV.newL p r h2).2⟩
 | _=>exact (show False from p).elim
theorem qHz (hc:X.calm=true):CallR X (.builtin "min") (rC2 X.K .min2):=by
 rintro pins s σ H xs us Q I rv ⟨x,y,rfl,w,ρ,h,d,e,r,hd,he,p⟩
 cases d with
 | int i =>
  cases e with
  | int j=>cases hd;cases he;exact L2.call_min2 hc pins s σ H _ us Q I rv ⟨i,j,rfl,PostV.now (h:=h) p r rfl⟩
  | _=>exact (show False from p).elim
 | _=>exact (show False from p).elim
theorem qH0 (hc:X.calm=true):CallR X (.builtin "max") (rC2 X.K .max2):=by
 rintro pins s σ H xs us Q I rv ⟨x,y,rfl,w,ρ,h,d,e,r,hd,he,p⟩
 cases d with
 | int i =>
  cases e with
  | int j=>cases hd;cases he;exact L2.call_max2 hc pins s σ H _ us Q I rv ⟨i,j,rfl,PostV.now (h:=h) p r rfl⟩
  | _=>exact (show False from p).elim
 | _=>exact (show False from p).elim
theorem isNI {ca:CE} {σ:L2.St} {H:Hp} {Q:VK} (t:tD X.K W (den F (.un .isN ca)) σ H Q):L2.tIsN (tD X.K W (den F ca)) σ H Q:=by
 obtain ⟨ρ,env,h,s,r,p⟩:=one t
 refine ⟨ρ,env,h,s,r,Post.imp p fun ρ' H' d q v hv=>?_⟩
 obtain ⟨w1,ρ1,h1,d1,r1,hd1,p1⟩:=q v hv
 have e:=PostV.now (h:=h1) p1 r1 (v:=.bl (decide (v=.non))) (by
  cases d1 <;> first
   | (cases hd1;rfl)
   | (obtain ⟨a,vs,rfl,_⟩:=hd1;rfl)
   | (obtain ⟨a,_,rfl⟩:=hd1;rfl))
 exact e
theorem notNI {ca:CE} {σ:L2.St} {H:Hp} {Q:VK} (t:tD X.K W (den F (.un .notN ca)) σ H Q):L2.tNotN (tD X.K W (den F ca)) σ H Q:=by
 obtain ⟨ρ,env,h,s,r,p⟩:=one t
 refine ⟨ρ,env,h,s,r,Post.imp p fun ρ' H' d q v hv=>?_⟩
 obtain ⟨w1,ρ1,h1,d1,r1,hd1,p1⟩:=q v hv
 have e:=PostV.now (h:=h1) p1 r1 (v:=.bl (!decide (v=.non))) (by
  cases d1 <;> first
   | (cases hd1;rfl)
   | (obtain ⟨a,vs,rfl,_⟩:=hd1;rfl)
   | (obtain ⟨a,_,rfl⟩:=hd1;rfl))
 exact e
theorem un_bl {o:Un} (ho:o=.isN∨o=.notN) {ca:CE} (env:Env) (h:AH) (d:D) (h':AH) (e:den F (.un o ca) env h=.ok d h'):∃ k,d=.bl k:=by
 rw [den] at e
 obtain ⟨x,g1,_,e⟩:=bind_ok e
 rcases ho with rfl | rfl <;> (cases e;exact ⟨_,rfl⟩)
theorem d_isN {a:Expr} {ca:CE} {j:Nat} {pos pos':Pos} (ha:PE X a (tD X.K W (den F ca))):PE X (.Compare a [.Is] [.Constant .none j pos'] pos) (tD X.K W (den F (.un .isN ca))):=PE.imp (L2.pe_cmp (L2.pc_isN ha)) fun σ H Q t=>isNI t
theorem qO9 {a:Expr} {ca:CE} {j:Nat} {pos pos':Pos} (ha:PE X a (tD X.K W (den F ca))):PE X (.Compare a [.IsNot] [.Constant .none j pos'] pos) (tD X.K W (den F (.un .notN ca))):=PE.imp (L2.pe_cmp (L2.pc_notN ha)) fun σ H Q t=>notNI t
theorem qO3 {a:Expr} {ca:CE} {j:Nat} {pos pos':Pos} (ha:PE X a (tD X.K W (den F ca))):PT X (.Compare a [.Is] [.Constant .none j pos'] pos) (tDT X.K W (denT F (.val (.un .isN ca)))):=PT.imp (L2.pt_cmp (L2.pc_isN ha)) fun σ H Q t=>isNI (valI (un_bl (.inl rfl)) t)
theorem qMm {a:Expr} {ca:CE} {j:Nat} {pos pos':Pos} (ha:PE X a (tD X.K W (den F ca))):PT X (.Compare a [.IsNot] [.Constant .none j pos'] pos) (tDT X.K W (denT F (.val (.un .notN ca)))):=PT.imp (L2.pt_cmp (L2.pc_notN ha)) fun σ H Q t=>notNI (valI (un_bl (.inr rfl)) t)
end
end Fy
set_option Elab.async false
set_option linter.all false
set_option maxRecDepth 100000
set_option maxHeartbeats 4000000
namespace Fy
open PySem PySem.Spec PyProof.Rows
open L2 (V Hp HO VK TE TT TA TS TI Cx Inv RelV Vals SqL SqT Rd upd qAB qAC PE PT PA PS PSs EP OpR CallR IxR MtR SlR PO TO PI PG PIE Turn FpOk Ends)
section
variable {X:Cx} {F:Nat→List D→M D} {B:Nat} {W:WX}
theorem PS.nox {st:Stmt} {t:TS} (h:PS X.nox st t):PS X st t:=fun pins s σ H D I hw =>
 wpAny_mono (h pins s σ H D (I.wish _) hw) (fun _ _ q=>q.unwish) fun _ _ z=>False.elim z
theorem qO2 {a:Expr} {ca:CT} {pos:Pos} (ha:PT X a (tDT X.K W (denT F ca))):PT X (.UnaryOp .Not a pos) (tDT X.K W (denT F (.not ca))):=PT.imp (L2.pt_not ha) fun σ H Q t=>by
 obtain ⟨ρ,env,h,s,r,p⟩:=t
 rw [denT] at p
 exact ⟨ρ,env,h,s,r,Post.bind p fun ρ1 h1 k H1 e1 r1 q=>Post.ret q r1⟩
theorem qO0 {a b:Expr} {rest:List Expr} {ca cb:CT} {pos:Pos} (ha:PT X a (tDT X.K W (denT F ca))) (hb:L2.PW X (.BoolOp .And (b::rest) pos) (tDT X.K W (denT F cb))):L2.PW X (.BoolOp .And (a::b::rest) pos) (tDT X.K W (denT F (.and ca cb))):=fun wh pins s σ H Q I t =>
 L2.pw_and ha hb wh pins s σ H Q I (by
  obtain ⟨ρ,env,h,s,r,p⟩:=t
  rw [denT] at p
  refine ⟨ρ,env,h,s,r,Post.bind p fun ρ1 h1 k H1 e1 r1 q=>?_⟩
  cases k with
  | true=>exact L2.iteT ⟨ρ1,env,h1,s.mono e1,r1,q⟩
  | false=>exact L2.iteF (Post.ret q r1))
theorem dw_or {a b:Expr} {rest:List Expr} {ca cb:CT} {pos:Pos} (ha:PT X a (tDT X.K W (denT F ca))) (hb:L2.PW X (.BoolOp .Or (b::rest) pos) (tDT X.K W (denT F cb))):L2.PW X (.BoolOp .Or (a::b::rest) pos) (tDT X.K W (denT F (.or ca cb))):=fun wh pins s σ H Q I t =>
 L2.pw_or ha hb wh pins s σ H Q I (by
  obtain ⟨ρ,env,h,s,r,p⟩:=t
  rw [denT] at p
  refine ⟨ρ,env,h,s,r,Post.bind p fun ρ1 h1 k H1 e1 r1 q=>?_⟩
  cases k with
  | true=>exact L2.iteT (Post.ret q r1)
  | false=>exact L2.iteF ⟨ρ1,env,h1,s.mono e1,r1,q⟩)
end
end Fy
set_option Elab.async false
set_option linter.all false
set_option maxRecDepth 100000
set_option maxHeartbeats 4000000
namespace Fy
open PySem PySem.Spec PyProof.Rows PySem.SeqAt
open L2 (V Hp HO VK TE TT TA TS TI Cx Inv RelV Vals SqL SqT Rd upd qAB qAC PE PT PA PS PSs EP OpR CallR IxR MtR SlR PO TO PI PG PIE Turn FpOk Ends)
noncomputable def pairB (f:D→D→Option Bool) (xs ys:List D) (j:Nat):Bool:=match xs[j]?,ys[j]? with
 | some x,some y=>(f x y).getD false
 | _,_=>false
theorem qEf {f:D→D→Option Bool}:∀ {xs ys:List D} {b:Bool},eqW f xs ys=some b →
    (∀ j x y,xs[j]?=some x→ys[j]?=some y→f x y=some (pairB f xs ys j))∧b=((List.range (min xs.length ys.length)).all (pairB f xs ys)&&(xs.length == ys.length))
  | [],[],b,e=>by
    cases e
    exact ⟨fun j x y h=>by simp at h,rfl⟩
  | [],y::ys,b,e=>by
    cases e
    exact ⟨fun j x y h=>by simp at h,by simp⟩
  | x::xs,[],b,e=>by
    cases e
    exact ⟨fun j x y _ h=>by simp at h,by simp⟩
  | x::xs,y::ys,b,e=>by
    unfold eqW at e
    cases e1:f x y with
    | none=>rw [e1] at e;cases e
    | some c =>
      cases e2:eqW f xs ys with
      | none=>rw [e1,e2] at e;cases e
      | some d =>
        rw [e1,e2] at e
        cases e
        obtain ⟨h1,h2⟩:=qEf e2
        refine ⟨fun j x' y' hx hy=>?_,?_⟩
        · cases j with
          | zero =>
            cases hx
            cases hy
            show f x y=some ((f x y).getD false)
            rw [e1]
            rfl
          | succ j=>exact h1 j x' y' (by simpa using hx) (by simpa using hy)
        · rw [h2]
          have e3:pairB f (x::xs) (y::ys) 0=c:=by
            show (f x y).getD false=c
            rw [e1]
            rfl
          have e4:∀ j,pairB f (x::xs) (y::ys) (j+1)=pairB f xs ys j:=fun j=>by
            unfold pairB
            simp
          have e5:min (x::xs).length (y::ys).length=min xs.length ys.length+1:=by simp
          rw [e5,List.range_succ_eq_map,List.all_cons,e3,List.all_map]
          have e6:(pairB f (x::xs) (y::ys) ∘ Nat.succ)=pairB f xs ys:=funext e4
          rw [e6]
          simp [Bool.and_assoc]
section
variable {X:Cx} {pins:List (Addr × Obj)} {σ:L2.St} {H:Hp} {s:Shared} {ρ:List Addr} {h:AH}
theorem qJE {y:D} (h:RepV X.K ρ H y .non):y=.non:=by
 cases y with
 | non=>rfl
 | tup xs=>obtain ⟨_,_,z,_⟩:=h;cases z
 | ref i=>obtain ⟨_,_,z⟩:=h;cases z
 | _=>cases h
theorem qLK {y:D} {c:Bool} (h:RepV X.K ρ H y (.bl c)):y=.bl c:=by
 cases y with
 | bl d=>cases h;rfl
 | tup xs=>obtain ⟨_,_,z,_⟩:=h;cases z
 | ref i=>obtain ⟨_,_,z⟩:=h;cases z
 | _=>cases h
theorem qJF {y:D} {c:Int} (h:RepV X.K ρ H y (.int c)):y=.int c:=by
 cases y with
 | int d=>cases h;rfl
 | tup xs=>obtain ⟨_,_,z,_⟩:=h;cases z
 | ref i=>obtain ⟨_,_,z⟩:=h;cases z
 | _=>cases h
theorem qJC {y:D} {c:Tx} (h:RepV X.K ρ H y (.str ⟨c.toArray⟩)):y=.str c:=by
 cases y with
 | str d =>
  have z:V.str ⟨c.toArray⟩=V.str ⟨d.toArray⟩:=h
  have z:c.toArray=d.toArray:=by injection z with z;injection z
  have z:c=d:=by simpa using congrArg Array.toList z
  rw [z]
 | tup xs=>obtain ⟨_,_,z,_⟩:=h;cases z
 | ref i=>obtain ⟨_,_,z⟩:=h;cases z
 | _=>cases h
theorem qE4 {y:D} {a:Addr} (h:RepV X.K ρ H y (.ref a)):(∃ ys vs,y=.tup ys∧SqT X.K H a vs∧RepL X.K ρ H ys vs)∨∃ j,y=.ref j∧ρ[j]?=some a:=by
 cases y with
 | tup xs=>obtain ⟨_,vs,z,h1,h2⟩:=h;cases z;exact .inl ⟨xs,vs,rfl,h1,h2⟩
 | ref i=>obtain ⟨_,h1,z⟩:=h;cases z;exact .inr ⟨i,rfl,h1⟩
 | _=>cases h
theorem qEr {x:D} {v:V} {vv:Value} (h:RepV X.K ρ H x v) (r:RelV v vv):vv=.none∨(∃ c,vv=.bool c)∨(∃ c t,vv=.int c t)∨(∃ c t,vv=.str c t)∨∃ c,vv=.ref c:=by
 cases x with
 | non=>cases h;exact .inl r
 | bl c=>cases h;exact .inr (.inl ⟨c,r⟩)
 | int c=>cases h;obtain ⟨t,r⟩:=r;exact .inr (.inr (.inl ⟨c,t,r⟩))
 | str c=>cases h;obtain ⟨t,r⟩:=r;exact .inr (.inr (.inr (.inl ⟨_,t,r⟩)))
 | tup xs=>obtain ⟨a,_,rfl,_⟩:=h;exact .inr (.inr (.inr (.inr ⟨a,r⟩)))
 | ref i=>obtain ⟨a,_,rfl⟩:=h;exact .inr (.inr (.inr (.inr ⟨a,r⟩)))
theorem qIU (I:Inv X pins σ H s) (r:RepH X.K ρ h H):∀ (n:Nat) (x y:D) (b:Bool) (v:V),eqD h n x y=some b→RepV X.K ρ H x v→RepV X.K ρ H y v→b=true:=by
 intro n
 have rows:∀ m,(∀ (x y:D) (b:Bool) (v:V),eqD h m x y=some b→RepV X.K ρ H x v→RepV X.K ρ H y v→b=true)→∀ (xs ys:List D) (b:Bool) (vs:List V),eqW (eqD h m) xs ys=some b→RepL X.K ρ H xs vs→RepL X.K ρ H ys vs→b=true:=by
  intro m ih xs
  induction xs with
  | nil =>
   intro ys b vs e hx hy
   cases hx
   cases ys with
   | nil=>cases e;rfl
   | cons y ys=>obtain ⟨_,_,z,_⟩:=hy;cases z
  | cons x xs ihx =>
   intro ys b vs e hx hy
   obtain ⟨v,rest,rfl,h1,h2⟩:=hx
   cases ys with
   | nil=>cases hy
   | cons y ys =>
    obtain ⟨v',rest',z,k1,k2⟩:=hy
    cases z
    unfold eqW at e
    cases e1:eqD h m x y with
    | none=>rw [e1] at e;cases e
    | some c =>
     cases e2:eqW (eqD h m) xs ys with
     | none=>rw [e1,e2] at e;cases e
     | some d =>
      rw [e1,e2] at e
      cases e
      rw [ih x y c v e1 h1 k1,ihx ys d rest e2 h2 k2]
      rfl
 induction n with
 | zero =>
  intro x y b v e hx hy
  cases x with
  | non=>cases hx;cases qJE hy;cases e;rfl
  | bl c=>cases hx;cases qLK hy;cases e;simp
  | int c=>cases hx;cases qJF hy;cases e;simp
  | str c=>cases hx;cases qJC hy;cases e;simp
  | tup xs =>
   obtain ⟨a,vs,rfl,k1,k2⟩:=hx
   rcases qE4 hy with ⟨ys,ws,rfl,k3,k4⟩ | ⟨j,rfl,k3⟩
   ·cases e
   ·cases e
  | ref i =>
   obtain ⟨a,k1,rfl⟩:=hx
   rcases qE4 hy with ⟨ys,ws,rfl,k3,k4⟩ | ⟨j,rfl,k3⟩
   ·cases e
   ·cases e
 | succ n ih =>
  intro x y b v e hx hy
  cases x with
  | non=>cases hx;cases qJE hy;cases e;rfl
  | bl c=>cases hx;cases qLK hy;cases e;simp
  | int c=>cases hx;cases qJF hy;cases e;simp
  | str c=>cases hx;cases qJC hy;cases e;simp
  | tup xs =>
   obtain ⟨a,vs,rfl,k1,k2⟩:=hx
   rcases qE4 hy with ⟨ys,ws,rfl,k3,k4⟩ | ⟨j,rfl,k3⟩
   ·have:=I.tuple_inj k1 k3
    subst this
    exact rows n ih xs ys b vs e k2 k4
   ·cases e
  | ref i =>
   obtain ⟨a,k1,rfl⟩:=hx
   rcases qE4 hy with ⟨ys,ws,rfl,k3,k4⟩ | ⟨j,rfl,k3⟩
   ·cases e
   ·have e:(match getL h i,getL h j with | some xs,some ys=>eqW (eqD h n) xs ys | _,_=>none)=some b:=e
    cases q:getL h i with
    | none=>rw [q] at e;cases e
    | some xs =>
     cases q2:getL h j with
     | none=>rw [q,q2] at e;cases e
     | some ys =>
      rw [q,q2] at e
      obtain ⟨a1,vs,m1,m2,m3⟩:=r.list q
      obtain ⟨a2,ws,n1,n2,n3⟩:=r.list q2
      rw [k1] at m1
      rw [k3] at n1
      cases m1
      cases n1
      have:=I.list_inj m2 n2
      subst this
      exact rows n ih xs ys b vs e m3 n3
theorem eqOf (I:Inv X pins σ H s) (r:RepH X.K ρ h H):∀ (m:Nat),(∀ (x y:D) (b:Bool) (v u:V) (vv uu:Value) (A:Around),eqD h m x y=some b→RepV X.K ρ H x v→RepV X.K ρ H y u→RelV v vv→RelV u uu→A.units+m<cLine→RcAt A s vv uu b) →
    ∀ (x y:D) (b:Bool) (v u:V) (vv uu:Value) (A:Around),eqD h m x y=some b→RepV X.K ρ H x v→RepV X.K ρ H y u→RelV v vv→RelV u uu→A.units+m<cLine→EqAt A s vv uu b:=by
  intro m ih x y b v u vv uu A e hx hy rv ru hu prog w E Q hq
  unfold eqBool
  refine wpAny_holding ?_
  refine wpAny_ite_split (fun hab=>?_) (fun _=>?_)
  · have hab:=eq_of_beq hab
    subst hab
    have:=rv.inj ru
    subst this
    have:=qIU I r m x y b v e hx hy
    subst this
    exact wpAny_bind (wpAny_rule (wpAny_pure hq))
  · have go:=ih x y b v u vv uu A e hx hy rv ru hu prog w E (fun c s'=>wpAny (model prog w) A (truthOfDropped c) Q E s') (wpAny_truthy_bool hq)
    rcases qEr hx rv with rfl | ⟨c,rfl⟩ | ⟨c,t,rfl⟩ | ⟨c,t,rfl⟩ | ⟨c,rfl⟩ <;> exact wpAny_bind go
theorem seqs (I:Inv X pins σ H s) (r:RepH X.K ρ h H):∀ (m:Nat) (A:Around),(∀ (x y:D) (b:Bool) (v u:V) (vv uu:Value) (A:Around),eqD h m x y=some b→RepV X.K ρ H x v→RepV X.K ρ H y u→RelV v vv→RelV u uu→A.units+m<cLine→RcAt A s vv uu b)→A.units+(m+1)<cLine →
    ∀ (xs ys:List D) (b:Bool) (vs us:List V) (its its2:List Value),eqW (eqD h m) xs ys=some b→RepL X.K ρ H xs vs→RepL X.K ρ H ys us→Vals vs its→Vals us its2 →
      (∀ j (h1:j<its.toArray.size) (h2:j<its2.toArray.size),EqAt A.in1 s its.toArray[j] its2.toArray[j] (pairB (eqD h m) xs ys j)):=by
  intro m A ih hu xs ys b vs us its its2 e hx hy rv ru j h1 h2
  obtain ⟨k1,_⟩:=qEf e
  have l1:=rv.length
  have l2:=ru.length
  have l3:=hx.length
  have l4:=hy.length
  rw [List.size_toArray] at h1 h2
  have q1:xs[j]?=some (xs[j]'(by omega)):=by simp
  have q2:ys[j]?=some (ys[j]'(by omega)):=by simp
  obtain ⟨w1,p1,p2⟩:=hx.get q1
  obtain ⟨w2,p3,p4⟩:=hy.get q2
  obtain ⟨u1,p5,p6⟩:=rv.get p1
  obtain ⟨u2,p7,p8⟩:=ru.get p3
  have f1:its.toArray[j]'(by simpa using h1)=u1:=by
    have:its[j]?=some (its[j]'h1):=by simp
    rw [this] at p5
    simpa using p5
  have f2:its2.toArray[j]'(by simpa using h2)=u2:=by
    have:its2[j]?=some (its2[j]'h2):=by simp
    rw [this] at p7
    simpa using p7
  rw [f1,f2]
  exact eqOf I r m ih _ _ _ w1 w2 u1 u2 A.in1 (k1 j _ _ q1 q2) p2 p4 p6 p8 (by show A.units+1+m<cLine;omega)
theorem eqAtD (I:Inv X pins σ H s) (r:RepH X.K ρ h H):∀ (n:Nat) (x y:D) (b:Bool) (v u:V) (vv uu:Value) (A:Around),eqD h n x y=some b→RepV X.K ρ H x v→RepV X.K ρ H y u→RelV v vv→RelV u uu→A.units+n<cLine→RcAt A s vv uu b:=by
 intro n
 have tups:∀ {l b:Addr} {vs us:List V},SqT X.K H l vs→SqT X.K H b us→∃ its its2:List Value,Vals vs its∧Vals us its2∧s.heap.IsTuple l its.toArray∧s.heap.IsTuple b its2.toArray:=fun h1 h2=>by
  obtain ⟨its,k1,k2,_⟩:=I.tuple h1
  obtain ⟨its2,k3,k4,_⟩:=I.tuple h2
  exact ⟨its,its2,k1,k3,k2,k4⟩
 have strEq:∀ {A:Around} (x y:Tx) (t t':Tok),RcAt A s (.str ⟨x.toArray⟩ t) (.str ⟨y.toArray⟩ t') (x == y):=fun x y t t'=>by
  have e:(x == y)=((⟨x.toArray⟩:Str) == (⟨y.toArray⟩:Str)):=by
   rw [Bool.eq_iff_iff]
   simp
  rw [e]
  exact RcAt.str_str _ _ _ _
 induction n with
 | zero =>
  intro x y b v u vv uu A e hx hy rv ru hu
  have hu0:A.units<cLine:=by omega
  cases x with
  | non =>
   cases y with
   | non=>cases hx;cases rv;cases hy;cases ru;cases e;exact RcAt.none_none
   | _=>cases e
  | bl x =>
   cases y with
   | bl y=>cases hx;cases rv;cases hy;cases ru;cases e;exact RcAt.bool_bool _ _
   | int y=>cases hx;cases rv;cases hy;obtain ⟨t',rfl⟩:=ru;cases e;exact RcAt.bool_int _ _ _
   | _=>cases e
  | int x =>
   cases y with
   | bl y=>cases hx;obtain ⟨t,rfl⟩:=rv;cases hy;cases ru;cases e;exact RcAt.int_bool _ _ _
   | int y=>cases hx;obtain ⟨t,rfl⟩:=rv;cases hy;obtain ⟨t',rfl⟩:=ru;cases e;exact RcAt.int_int _ _ _ _
   | _=>cases e
  | str x =>
   cases y with
   | str y=>cases hx;obtain ⟨t,rfl⟩:=rv;cases hy;obtain ⟨t',rfl⟩:=ru;cases e;exact strEq _ _ _ _
   | _=>cases e
  | tup x =>
   cases y with
   | _=>cases e
  | ref x =>
   cases y with
   | _=>cases e
 | succ n ih =>
  intro x y b v u vv uu A e hx hy rv ru hu
  have hu0:A.units<cLine:=by omega
  have tt:∀ {a a2:Addr} {vs us:List V} {xs ys:List D},SqT X.K H a vs→SqT X.K H a2 us→RepL X.K ρ H xs vs→RepL X.K ρ H ys us→eqW (eqD h n) xs ys=some b→RcAt A s (.ref a) (.ref a2) b:=fun k1 m1 k2 m2 e=>by
   obtain ⟨its,its2,q1,q2,q3,q4⟩:=tups k1 m1
   have:=RcAt.tuples (e:=pairB (eqD h n) _ _) q3 q4 hu0 (seqs I r n A ih (by omega) _ _ b _ _ its its2 e k2 m2 q1 q2)
   obtain ⟨_,eb⟩:=qEf e
   rw [eb]
   have l1:=q1.length
   have l2:=q2.length
   have l3:=k2.length
   have l4:=m2.length
   rw [List.size_toArray,List.size_toArray,← l1,← l2,l3,l4] at this
   exact this
  have ll:∀ {i j:Nat} {a a2:Addr},ρ[i]?=some a→ρ[j]?=some a2→(match getL h i,getL h j with | some xs,some ys=>eqW (eqD h n) xs ys | _,_=>none)=some b→RcAt A s (.ref a) (.ref a2) b:=fun {i j a a2} k1 m1 e=>by
   cases q:getL h i with
   | none=>rw [q] at e;cases e
   | some xs =>
    cases q2:getL h j with
    | none=>rw [q,q2] at e;cases e
    | some ys =>
     rw [q,q2] at e
     obtain ⟨a1,vs,p1,p2,p3⟩:=r.list q
     obtain ⟨a2',us,o1,o2,o3⟩:=r.list q2
     rw [k1] at p1
     rw [m1] at o1
     cases p1
     cases o1
     obtain ⟨its,r1,pl1,_⟩:=I.list p2
     obtain ⟨its2,r2,pl2,_⟩:=I.list o2
     have l1:=r1.length
     have l2:=r2.length
     have l3:=p3.length
     have l4:=o3.length
     obtain ⟨_,eb⟩:=qEf e
     rw [eb]
     by_cases hsz:xs.length=ys.length
     ·have:=RcAt.lists (e:=pairB (eqD h n) xs ys) pl1.isList pl2.isList (by rw [List.size_toArray,List.size_toArray];omega) hu0 (seqs I r n A ih (by omega) _ _ b _ _ its its2 e p3 o3 r1 r2)
      rw [List.size_toArray,← l1,l3] at this
      rw [← hsz,Nat.min_self,beq_self_eq_true,Bool.and_true]
      exact this
     ·have e2:(xs.length == ys.length)=false:=by simpa using hsz
      rw [e2,Bool.and_false]
      exact RcAt.lists_lengths pl1.isList pl2.isList (by rw [List.size_toArray,List.size_toArray,← l1,← l2,l3,l4];simpa using hsz) hu0
  cases x with
  | non =>
   cases y with
   | non=>cases hx;cases rv;cases hy;cases ru;cases e;exact RcAt.none_none
   | _=>cases e
  | bl x =>
   cases y with
   | bl y=>cases hx;cases rv;cases hy;cases ru;cases e;exact RcAt.bool_bool _ _
   | int y=>cases hx;cases rv;cases hy;obtain ⟨t',rfl⟩:=ru;cases e;exact RcAt.bool_int _ _ _
   | _=>cases e
  | int x =>
   cases y with
   | bl y=>cases hx;obtain ⟨t,rfl⟩:=rv;cases hy;cases ru;cases e;exact RcAt.int_bool _ _ _
   | int y=>cases hx;obtain ⟨t,rfl⟩:=rv;cases hy;obtain ⟨t',rfl⟩:=ru;cases e;exact RcAt.int_int _ _ _ _
   | _=>cases e
  | str x =>
   cases y with
   | str y=>cases hx;obtain ⟨t,rfl⟩:=rv;cases hy;obtain ⟨t',rfl⟩:=ru;cases e;exact strEq _ _ _ _
   | _=>cases e
  | tup x =>
   cases y with
   | tup y=>obtain ⟨a,vs,rfl,k1,k2⟩:=hx;cases rv;obtain ⟨a2,us,rfl,m1,m2⟩:=hy;cases ru;exact tt k1 m1 k2 m2 e
   | _=>cases e
  | ref x =>
   cases y with
   | ref y=>obtain ⟨a,k1,rfl⟩:=hx;cases rv;obtain ⟨a2,m1,rfl⟩:=hy;cases ru;exact ll k1 m1 e
   | _=>cases e
theorem neAtD (I:Inv X pins σ H s) (r:RepH X.K ρ h H):∀ (n:Nat) (x y:D) (b:Bool) (v u:V) (vv uu:Value) (A:Around),eqD h (n+1) x y=some b→RepV X.K ρ H x v→RepV X.K ρ H y u→RelV v vv→RelV u uu→A.units+(n+1)<cLine→RcNeAt A s vv uu (!b):=by
 intro n
 have tups:∀ {l b:Addr} {vs us:List V},SqT X.K H l vs→SqT X.K H b us→∃ its its2:List Value,Vals vs its∧Vals us its2∧s.heap.IsTuple l its.toArray∧s.heap.IsTuple b its2.toArray:=fun h1 h2=>by
  obtain ⟨its,k1,k2,_⟩:=I.tuple h1
  obtain ⟨its2,k3,k4,_⟩:=I.tuple h2
  exact ⟨its,its2,k1,k3,k2,k4⟩
 have strEq:∀ {A:Around} (x y:Tx) (t t':Tok),RcNeAt A s (.str ⟨x.toArray⟩ t) (.str ⟨y.toArray⟩ t') (!(x == y)):=fun x y t t'=>by
  have e:(x == y)=((⟨x.toArray⟩:Str) == (⟨y.toArray⟩:Str)):=by
   rw [Bool.eq_iff_iff]
   simp
  rw [e]
  exact RcNeAt.str_str _ _ _ _
 intro x y b v u vv uu A e hx hy rv ru hu
 have hu0:A.units<cLine:=by omega
 have tt:∀ {a a2:Addr} {vs us:List V} {xs ys:List D},SqT X.K H a vs→SqT X.K H a2 us→RepL X.K ρ H xs vs→RepL X.K ρ H ys us→eqW (eqD h n) xs ys=some b→RcNeAt A s (.ref a) (.ref a2) (!b):=fun k1 m1 k2 m2 e=>by
  obtain ⟨its,its2,q1,q2,q3,q4⟩:=tups k1 m1
  have:=RcNeAt.tuples (e:=pairB (eqD h n) _ _) q3 q4 hu0 (seqs I r n A (eqAtD I r n) (by omega) _ _ b _ _ its its2 e k2 m2 q1 q2)
  obtain ⟨_,eb⟩:=qEf e
  rw [eb]
  have l1:=q1.length
  have l2:=q2.length
  have l3:=k2.length
  have l4:=m2.length
  rw [List.size_toArray,List.size_toArray,← l1,← l2,l3,l4] at this
  exact this
 have ll:∀ {i j:Nat} {a a2:Addr},ρ[i]?=some a→ρ[j]?=some a2→(match getL h i,getL h j with | some xs,some ys=>eqW (eqD h n) xs ys | _,_=>none)=some b→RcNeAt A s (.ref a) (.ref a2) (!b):=fun {i j a a2} k1 m1 e=>by
  cases q:getL h i with
  | none=>rw [q] at e;cases e
  | some xs =>
   cases q2:getL h j with
   | none=>rw [q,q2] at e;cases e
   | some ys =>
    rw [q,q2] at e
    obtain ⟨a1,vs,p1,p2,p3⟩:=r.list q
    obtain ⟨a2',us,o1,o2,o3⟩:=r.list q2
    rw [k1] at p1
    rw [m1] at o1
    cases p1
    cases o1
    obtain ⟨its,r1,pl1,_⟩:=I.list p2
    obtain ⟨its2,r2,pl2,_⟩:=I.list o2
    have l1:=r1.length
    have l2:=r2.length
    have l3:=p3.length
    have l4:=o3.length
    obtain ⟨_,eb⟩:=qEf e
    rw [eb]
    by_cases hsz:xs.length=ys.length
    ·have:=RcNeAt.lists (e:=pairB (eqD h n) xs ys) pl1.isList pl2.isList (by rw [List.size_toArray,List.size_toArray];omega) hu0 (seqs I r n A (eqAtD I r n) (by omega) _ _ b _ _ its its2 e p3 o3 r1 r2)
     rw [List.size_toArray,← l1,l3] at this
     rw [← hsz,Nat.min_self,beq_self_eq_true,Bool.and_true]
     exact this
    ·have e2:(xs.length == ys.length)=false:=by simpa using hsz
     rw [e2,Bool.and_false]
     exact RcNeAt.lists_lengths pl1.isList pl2.isList (by rw [List.size_toArray,List.size_toArray,← l1,← l2,l3,l4];simpa using hsz) hu0
 cases x with
 | non =>
  cases y with
  | non=>cases hx;cases rv;cases hy;cases ru;cases e;exact RcNeAt.none_none
  | _=>cases e
 | bl x =>
  cases y with
  | bl y=>cases hx;cases rv;cases hy;cases ru;cases e;exact RcNeAt.bool_bool _ _
  | int y=>cases hx;cases rv;cases hy;obtain ⟨t',rfl⟩:=ru;cases e;exact RcNeAt.bool_int _ _ _
  | _=>cases e
 | int x =>
  cases y with
  | bl y=>cases hx;obtain ⟨t,rfl⟩:=rv;cases hy;cases ru;cases e;exact RcNeAt.int_bool _ _ _
  | int y=>cases hx;obtain ⟨t,rfl⟩:=rv;cases hy;obtain ⟨t',rfl⟩:=ru;cases e;exact RcNeAt.int_int _ _ _ _
  | _=>cases e
 | str x =>
  cases y with
  | str y=>cases hx;obtain ⟨t,rfl⟩:=rv;cases hy;obtain ⟨t',rfl⟩:=ru;cases e;exact strEq _ _ _ _
  | _=>cases e
 | tup x =>
  cases y with
  | tup y=>obtain ⟨a,vs,rfl,k1,k2⟩:=hx;cases rv;obtain ⟨a2,us,rfl,m1,m2⟩:=hy;cases ru;exact tt k1 m1 k2 m2 e
  | _=>cases e
 | ref x =>
  cases y with
  | ref y=>obtain ⟨a,k1,rfl⟩:=hx;cases rv;obtain ⟨a2,m1,rfl⟩:=hy;cases ru;exact ll k1 m1 e
  | _=>cases e
end
section
variable {X:Cx}
theorem qOB (hu:X.A.units+64<cLine):OpR X (compareOp .Eq) (rB X.K .eq):=by
 rintro pins s σ H x y v u Q I rx ry ⟨w,ρ,h,d,e,r,hd,he,p⟩
 have p:PostV X.K w Q ρ H (match eqD h 40 d e with | some b=>.ok (.bl b) h | none=>.bad):=p
 cases q:eqD h 40 d e with
 | none=>rw [q] at p;exact False.elim p
 | some b =>
  rw [q] at p
  exact eqAtD I r 40 d e b x y v u X.A q hd he rx ry (by omega) X.prog X.w X.xe _ ⟨.bl b,H,I,rfl,PostV.now p r rfl⟩
theorem qN5 (hu:X.A.units+64<cLine):OpR X (compareOp .NotEq) (rB X.K .ne):=by
 rintro pins s σ H x y v u Q I rx ry ⟨w,ρ,h,d,e,r,hd,he,p⟩
 have p:PostV X.K w Q ρ H (match eqD h 40 d e with | some b=>.ok (.bl (!b)) h | none=>.bad):=p
 cases q:eqD h 40 d e with
 | none=>rw [q] at p;exact False.elim p
 | some b =>
  rw [q] at p
  exact neAtD I r 39 d e b x y v u X.A q hd he rx ry (by omega) X.prog X.w X.xe _ ⟨.bl (!b),H,I,rfl,PostV.now p r rfl⟩
end
end Fy
set_option Elab.async false
set_option linter.all false
set_option maxRecDepth 100000
set_option maxHeartbeats 4000000
namespace Fy
open PySem PySem.Spec PyProof.Rows PySem.StrLaws Builtin.Str
open L2 (V Hp HO VK TE TT TA TS TI Cx Inv RelV Vals SqL SqT Rd upd qAB qAC PE PT PA PS PSs EP OpR CallR IxR MtR SlR PO TO PI PG PIE Turn FpOk Ends)
theorem qD4 (n d:Nat) (o:Option Int):cutN n d o=HT.sIx n d o:=by cases o <;> rfl
theorem qJZ (xs:List V) (lo hi:Option Int):L2.cutV xs lo hi=cutX xs lo hi:=by
 unfold L2.cutV cutX
 rw [qD4,qD4]
theorem qJa (n d:Nat) (hd:d≤n) (o:Option Int):cutN n d o≤n:=by rw [qD4];exact HT.sIx_le n d hd o
theorem RepL.cut {K:PySem.W.Frag} {ρ:List Addr} {H:Hp} {xs:List D} {vs:List V} (l:RepL K ρ H xs vs) (lo hi:Option Int):RepL K ρ H (cutX xs lo hi) (cutX vs lo hi):=by
 unfold cutX
 rw [l.length]
 exact (l.drop _).take _
theorem qLH (lo hi:Option Int) (n:Nat):strSliceIndices lo hi 1 n=(List.range (cutN n n hi-cutN n 0 lo)).map fun k=>cutN n 0 lo+k:=by
 have c1:(match lo with | none=>(0:Int) | some i=>max 0 (min (if i<0 then i+(n:Int) else i) (n:Int)))=(cutN n 0 lo:Int):=by
  cases lo with
  | none=>rfl
  | some v=>unfold cutN;simp only;split <;> omega
 have c2:(match hi with | none=>(n:Int) | some i=>max 0 (min (if i<0 then i+(n:Int) else i) (n:Int)))=(cutN n n hi:Int):=by
  cases hi with
  | none=>rfl
  | some v=>unfold cutN;simp only;split <;> omega
 have e:strSliceIndices lo hi 1 n=sliceRange (cutN n 0 lo:Int) (cutN n n hi:Int) 1:=by
  rw [← c1,← c2]
  unfold strSliceIndices
  cases lo <;> cases hi <;> simp
 rw [e]
 unfold sliceRange
 simp only [show (1:Int) > 0 from by decide,if_true]
 by_cases hlt:(cutN n 0 lo:Int)<(cutN n n hi:Int)
 ·rw [if_pos hlt]
  have e3:(((cutN n n hi:Int)-(cutN n 0 lo:Int)+1-1) / 1).toNat=cutN n n hi-cutN n 0 lo:=by
   rw [Int.ediv_one]
   omega
  rw [e3]
  refine List.map_congr_left fun k _=>?_
  omega
 ·rw [if_neg hlt]
  have:cutN n n hi-cutN n 0 lo=0:=by omega
  rw [this]
  rfl
theorem qIQ (x:Tx) (lo hi:Option Int):Txt.slice ⟨x.toArray⟩ lo hi=⟨(cutX x lo hi).toArray⟩:=by
 have hl:(⟨x.toArray⟩:Str).length=x.length:=qAd x
 have a1:=qJa x.length 0 (Nat.zero_le _) lo
 have a2:=qJa x.length x.length (Nat.le_refl _) hi
 have pk:((strSliceIndices lo hi 1 (⟨x.toArray⟩:Str).length).filterMap ((⟨x.toArray⟩:Str).cps[·]?))=cutX x lo hi:=by
  rw [hl,qLH]
  unfold cutX
  by_cases hc:cutN x.length 0 lo≤cutN x.length x.length hi
  ·have:=picks x (cutN x.length x.length hi-cutN x.length 0 lo) (cutN x.length 0 lo) (by omega)
   simpa using this
  ·have:cutN x.length x.length hi-cutN x.length 0 lo=0:=by omega
   rw [this]
   simp
 unfold Txt.slice
 split
 ·rename_i hc
  have hc':(strSliceIndices lo hi 1 (⟨x.toArray⟩:Str).length).length=x.length:=by simpa [hl] using hc
  rw [hl,qLH,List.length_map,List.length_range] at hc'
  have e:cutX x lo hi=x:=by
   unfold cutX
   have z:cutN x.length 0 lo=0:=by omega
   rw [z,List.drop_zero]
   exact List.take_of_length_le (by omega)
  rw [e]
 ·rw [pk]
section
open HT
variable {prog:Program} {w:World} {A:Around} {E:Value→Shared→Prop} {s:Shared}
theorem qGC {t sl:Addr} {items:Array Value} {vl vu:Value} {lo hi:Option Int} {Q:Value→Shared→Prop} (ht:IsTup s.heap t items) (hs:s.heap.IsSliceOf sl vl vu .none) (pl:IsPart vl lo) (pu:IsPart vu hi)
    (hw:sIx items.size 0 lo=0∧sIx items.size items.size hi=items.size) (h:Q (.ref t) s):wpAny (model prog w) A (getItem (.ref t) (.ref sl)) Q E s:=by
  obtain ⟨os,hos,hcs,hds⟩:=id hs
  have hTs:s.TypeIs (.ref sl) "slice":=⟨os,hos,hcs⟩
  unfold getItem
  try with_reducible refine wpAny_holding ?_
  first | refine wpAny_bind (wpAny_pure ?_) | skip
  refine wpAny_bind (wpAny_sequenceKey ht.typeIs (by decide) ?_)
  refine wpAny_bind (wpAny_callSpecial?_slot (name:=Str.ofString "__getitem__") ht.typeIs PyProof.Rows.slot_tuple_getitem
    (wpAny_call_entry PyProof.Rows.slot_tuple_getitem ht.typeIs entry_tuple_getitem ?_ (args_tuple_getitem _ _)))
  show wpAny _ _ (Builtin.Tuple.tupleItemsOf (.ref t) >>= _) _ _ s
  refine wpAny_bind (tupleItemsOf_ ht ?_)
  refine wpAny_bind (wpAny_typeOf hTs ?_)
  rw [if_pos (by decide)]
  refine wpAny_bind (qB0 hs pl pu ?_)
  have hno:((((sIx items.size 0 lo:Nat):Int) == 0&&(1:Int) == 1&&(sIx items.size items.size hi-sIx items.size 0 lo) == items.size)=true):=by
    rw [hw.1,hw.2]
    simp
  show wpAny _ _ (if (((sIx items.size 0 lo:Nat):Int) == 0&&(1:Int) == 1&&(sIx items.size items.size hi-sIx items.size 0 lo) == items.size)=true then _ else _) _ _ s
  rw [if_pos hno]
  refine wpAny_bind ?_
  unfold Builtin.Tuple.tupleIsExact
  refine wpAny_bind (wpAny_typeOf ht.typeIs (wpAny_pure ?_))
  rw [if_pos (by decide)]
  exact wpAny_bind (wpAny_rule (wpAny_pure ⟨_,rfl,wpAny_pure h⟩))
end
section
variable {X:Cx} {F:Nat→List D→M D} {W:WX}
theorem qIe {v:Value} {o:Option Int} (p:IsPart v o):∃ q:Option (Int × Tok),v=partValue q∧q.map (·.1)=o:=by
 cases p with
 | none=>exact ⟨none,rfl,rfl⟩
 | int i t=>exact ⟨some (i,t),rfl,rfl⟩
noncomputable def rSl (K:PySem.W.Frag):V→Option Int→Option Int→Hp→VK→Prop:=fun x lo hi H Q=>∃ (w:W1),∃ ρ h d,RepH K ρ h H∧RepV K ρ H d x∧PostV K w Q ρ H (slD d lo hi h)
theorem sl_D:SlR X (rSl X.K):=by
 rintro pins s σ H x v vl vu lo hi sl Q I rx hs pl pu ⟨w,ρ,h,d,r,hd,p⟩
 unfold slD at p
 cases d with
 | str x =>
  cases hd
  obtain ⟨t,rfl⟩:=rx
  obtain ⟨hz,p⟩:=PostV.ite (c:=x.length≤16777216) p
  obtain ⟨ql,rfl,rfl⟩:=qIe pl
  obtain ⟨qu,rfl,rfl⟩:=qIe pu
  refine ⟨"str",_,F.slot_str_getitem.lookup,typeIs_str _ _ _,wpAny_getItem_str_slice (l:=ql) (u:=qu) (st:=none) hs rfl ?_⟩
  refine post_val_or_str ?_
  show (Txt.slice ⟨x.toArray⟩ (ql.map (·.1)) (qu.map (·.1))).length≤sizeLine∧∀ t' k,EP X pins σ Q (.str (Txt.slice ⟨x.toArray⟩ (ql.map (·.1)) (qu.map (·.1))) t') { s with toks:=k }
  refine ⟨Nat.le_trans (Txt.slice_le _ _ _) (by rw [qAd,szEq];exact hz),fun t' k=>?_⟩
  rw [qIQ]
  exact ⟨.str ⟨(cutX x (ql.map fun z:Int × Tok=>z.1) (qu.map fun z:Int × Tok=>z.1)).toArray⟩,H,I.tok k,⟨t',rfl⟩,PostV.now p r rfl⟩
 | tup xs =>
  obtain ⟨a,vs,rfl,h1,h2⟩:=hd
  by_cases hw:HT.sIx vs.length 0 lo=0∧HT.sIx vs.length vs.length hi=vs.length
  ·cases rx
   obtain ⟨its,rv,ht,hz⟩:=I.tuple h1
   refine ⟨"tuple",_,PyProof.Rows.slot_tuple_getitem.lookup,ht.typeIs,qGC ht hs pl pu (by rw [List.size_toArray,← rv.length];exact hw) ?_⟩
   refine ⟨.ref a,H,I,rfl,PostV.now p r ⟨a,vs,rfl,h1,?_⟩⟩
   have e:cutX xs lo hi=xs:=by
    unfold cutX
    rw [qD4,qD4,← h2.length,hw.1,hw.2,List.drop_zero,Nat.sub_zero,h2.length]
    exact List.take_length
   rw [e]
   exact h2
  ·exact L2.sl_tup pins s σ H _ v vl vu lo hi sl Q I rx hs pl pu ⟨a,vs,rfl,h1,hw,by rw [qJZ];exact PostV.newT p r (h2.cut lo hi)⟩
 | ref i =>
  simp only at p
  cases q:getL h i with
  | none=>rw [q] at p;exact False.elim p
  | some xs =>
   rw [q] at p
   obtain ⟨a,vs,rfl,h1,h2⟩:=r.seen q hd
   exact L2.sl_list pins s σ H _ v vl vu lo hi sl Q I rx hs pl pu ⟨a,vs,rfl,h1,by rw [qJZ];exact (PostV.newL p r (h2.cut lo hi)).2⟩
 | _=>exact (show False from p).elim
noncomputable def tDP (K:PySem.W.Frag) (W:WX) (m:Env→M (Option Int)):TO:=fun σ H Q=>∃ ρ env h,RepS K ρ H env σ∧RepH K ρ h H∧Post K (W.at σ) (fun _ H' o=>Q o H') ρ H (m env h)
theorem PO.imp {o:Option Expr} {t t':TO} (h:PO X o t) (i:∀ σ H Q,t' σ H Q→t σ H Q):PO X o t':=fun pins s σ H Q I q=>h pins s σ H Q I (i σ H Q q)
theorem dp_no:PO X none (tDP X.K W (denP F .no)):=PO.imp L2.po_none fun σ H Q t=>by
 obtain ⟨ρ,env,h,s,r,p⟩:=t
 rw [denP] at p
 exact Post.ret p r
theorem dp_at {e:Expr} {c:CE} (he:PE X e (tD X.K W (den F c))):PO X (some e) (tDP X.K W (denP F (.at c))):=PO.imp (L2.po_some he) fun σ H Q t=>by
 obtain ⟨ρ,env,h,s,r,p⟩:=t
 rw [denP] at p
 refine ⟨ρ,env,h,s,r,Post.bind p fun ρ1 h1 d H1 e1 r1 q v hv=>?_⟩
 cases d with
 | int i=>cases hv;exact ⟨i,rfl,Post.ret (a:=some i) q r1⟩
 | _=>exact False.elim q
theorem d_sl {a:Expr} {lo hi:Option Expr} {ca:CE} {cl ch:CP} {p2 pos:Pos} (ha:PE X a (tD X.K W (den F ca))) (hl:PO X lo (tDP X.K W (denP F cl))) (hh:PO X hi (tDP X.K W (denP F ch))) :
    PE X (.Subscript a (.Slice lo hi none p2) pos) (tD X.K W (den F (.sl ca cl ch))):=PE.imp (L2.pe_slice sl_D ha hl hh) fun σ H Q t=>by
  obtain ⟨ρ,env,h,s,r,p⟩:=t
  rw [den] at p
  exact ⟨ρ,env,h,s,r,Post.bind p fun ρ1 h1 d H1 e1 r1 q v hv=>⟨ρ1,env,h1,s.mono e1,r1,Post.bind q fun ρ2 h2 l H2 e2 r2 q2=>⟨ρ2,env,h2,(s.mono e1).mono e2,r2,Post.bind q2 fun ρ3 h3 u H3 e3 r3 q3=>⟨_,ρ3,h3,d,r3,(hv.mono e2 _ _).mono e3 _ _,q3⟩⟩⟩⟩
end
end Fy
set_option Elab.async false
set_option linter.all false
set_option maxRecDepth 100000
set_option maxHeartbeats 4000000
namespace Fy
open PySem PySem.Spec PyProof.Rows
open L2 (V Hp HO VK TE TT TA TS TI Cx Inv RelV Vals SqL SqT Rd upd qAB qAC PE PT PA PS PSs EP OpR CallR IxR MtR SlR PO TO PI PG PIE Turn FpOk Ends)
noncomputable def tyS:Ty→String
 | .int=>"int" | .str=>"str" | .bool=>"bool" | .list=>"list" | .tuple=>"tuple"
section
variable (K:PySem.W.Frag)
theorem qOb (t:Ty):PySem.W.kitOne K (.type "NoneType") (.type (tyS t))=some false:=by cases t <;> first | rfl | kernel_rfl
theorem kt_bl (t:Ty):PySem.W.kitOne K (.type "bool") (.type (tyS t))=some (t == .bool || t == .int):=by cases t <;> first | rfl | kernel_rfl
theorem qOd (t:Ty):PySem.W.kitOne K (.type "int") (.type (tyS t))=some (t == .int):=by cases t <;> first | rfl | kernel_rfl
theorem qOa (t:Ty):PySem.W.kitOne K (.type "str") (.type (tyS t))=some (t == .str):=by cases t <;> first | rfl | kernel_rfl
theorem qOZ (t:Ty):PySem.W.kitOne K (.type "tuple") (.type (tyS t))=some (t == .tuple):=by cases t <;> first | rfl | kernel_rfl
theorem qOc (t:Ty):PySem.W.kitOne K (.type "list") (.type (tyS t))=some (t == .list):=by cases t <;> first | rfl | kernel_rfl
end
section
variable {X:Cx} {F:Nat→List D→M D} {W:WX}
theorem qOm {pins:List (Addr × Obj)} {σ:L2.St} {H:Hp} {s:Shared} {ρ:List Addr} {h:AH} {t:Ty} {d:D} {x:V} {u:Value} {b:Bool} {A:Around} {E:Value→Shared→Prop} {Q:Value→Shared→Prop}
    (I:Inv X pins σ H s) (r:RepH X.K ρ h H) (hd:RepV X.K ρ H d x) (rx:RelV x u) (e:isiD h t d=some b) (q:∀ tk,Q (.bool b) { s with toks:=tk }) :
    wpAny (model X.prog X.w) A (call (.builtin "isinstance") [u,.type (tyS t)]) Q E s:=by
  cases d with
  | non=>cases hd;cases e;cases (show u=Value.none from rx);exact PySem.W.kia_one PySem.W.kitx_none I.kIn True.intro (qOb _ t) (fun z=>nomatch z) q
  | bl c=>cases hd;cases e;cases (show u=Value.bool c from rx);exact PySem.W.kia_one PySem.W.kitx_bool I.kIn True.intro (kt_bl _ t) (fun z=>nomatch z) q
  | int i=>cases hd;cases e;obtain ⟨tk,z⟩:=rx;cases z;exact PySem.W.kia_one PySem.W.kitx_int I.kIn True.intro (qOd _ t) (fun z=>nomatch z) q
  | str y=>cases hd;cases e;obtain ⟨tk,z⟩:=rx;cases z;exact PySem.W.kia_one PySem.W.kitx_str I.kIn True.intro (qOa _ t) (fun z=>nomatch z) q
  | tup ys =>
    obtain ⟨a,vs,rfl,h1,h2⟩:=hd
    cases e
    cases rx
    obtain ⟨its,_,⟨o,k1,k2,_⟩,_⟩:=I.tuple h1
    exact PySem.W.kia_one PySem.W.kitx_tuple I.kIn ⟨o,k1,k2⟩ (qOZ _ t) (fun z=>nomatch z) q
  | ref i =>
    have e:(getL h i).map (fun _=>t == .list)=some b:=e
    cases z:getL h i with
    | none=>rw [z] at e;cases e
    | some ys =>
      rw [z] at e
      cases e
      obtain ⟨a,vs,rfl,h1,h2⟩:=r.seen z hd
      cases rx
      obtain ⟨its,_,pl,_⟩:=I.list h1
      obtain ⟨o,n,k1,k2,_⟩:=pl
      exact PySem.W.kia_one PySem.W.kitx_list I.kIn ⟨o,k1,k2⟩ (qOc _ t) (fun z=>nomatch z) q
noncomputable def rIsi (K:PySem.W.Frag) (t:Ty):List V→Hp→VK→Prop:=fun xs H Q=>∃ x,xs=[x,.ty (tyS t)]∧rU K (.isi t) x H Q
theorem qJh (t:Ty):CallR X (.builtin "isinstance") (rIsi X.K t):=by
 rintro pins s σ H xs us Q I rv ⟨x,rfl,w,ρ,h,d,r,hd,p⟩
 obtain ⟨u,w,rfl,ru,rw'⟩:=L2.Vals.two rv
 cases rw'
 have p:PostV X.K w Q ρ H (match isiD h t d with | some b=>.ok (.bl b) h | none=>.bad):=p
 cases e:isiD h t d with
 | none=>rw [e] at p;exact False.elim p
 | some b =>
  rw [e] at p
  exact qOm I r hd ru e fun tk=>⟨.bl b,H,I.tok tk,rfl,PostV.now p r rfl⟩
theorem d_isi {a:Expr} {ca:CE} {t:Ty} {x y:Str} {p1 p2 pos:Pos} (hx:x="isinstance") (hg:L2.Gl X x) (hm:X.mg x=none) (hgT:L2.Gl X y) (hmT:X.mg y=none) (hv:bootBuiltins y=some (.type (tyS t))) (hn:y≠"__name__") (hdb:(y == ("__debug__":Str))=false)
    (ha:PE X a (tD X.K W (den F ca))) (hst:starEach [a,.Name y p2] X.env=[(false,eval a X.env),(false,eval (.Name y p2) X.env)]):PE X (.Call (.Name x p1) [a,.Name y p2] [] pos) (tD X.K W (den F (.un (.isi t) ca))):=by
  subst hx
  refine PE.imp (L2.pe_callB (qJh t) hg hm boot_isinstance (L2.pa_cons ha (L2.pa_cons (L2.pe_bltn (v:=.ty (tyS t)) hgT hmT hv rfl hn hdb) L2.pa_nil (by rfl)) (by rw [hst];rfl)) (he:=by rw [hst];rfl)) fun σ H Q q=>?_
  obtain ⟨ρ,env,h,s,r',p⟩:=one q
  exact ⟨ρ,env,h,s,r',Post.imp p fun ρ' H' d q v hv=>⟨v,rfl,q v hv⟩⟩
theorem d_me {o:Bi} {ca cb:CE} {e:Expr} {T:String} {r:V→List V→Hp→VK→Prop} (he:PE X e (L2.tBM X.K T r (tD X.K W (den F ca)) (L2.tCons (tD X.K W (den F cb)) L2.tNil)))
    (hty:∀ ρ h d v H,RepH X.K ρ h H→RepV X.K ρ H d v→∀ h',meOk o d h=.ok () h'→h'=h∧L2.tyV X.K T v H) (hexc:∀ d h c h',meOk o d h≠.exc c h') (hr:∀ x y H Q,rB X.K o x y H Q→r x [y] H Q):PE X e (tD X.K W (den F (.me o ca cb))):=PE.imp he fun σ H Q t=>by
  obtain ⟨ρ,env,h,s,r',p⟩:=t
  rw [den] at p
  refine ⟨ρ,env,h,s,r',Post.bind p fun ρ1 h1 d H1 e1 r1 q v hv=>?_⟩
  unfold M.bind at q
  cases z:meOk o d h1 with
  | ok u h2 =>
    rw [z] at q
    obtain ⟨rfl,ty⟩:=hty ρ1 h1 d v H1 r1 hv _ z
    refine ⟨ty,ρ1,env,_,s.mono e1,r1,?_⟩
    exact Post.bind q fun ρ2 h2 d2 H2 e2 r2 q2 w hw=>hr v w H2 Q ⟨_,ρ2,h2,d,d2,r2,hv.mono e2 _ _,hw,q2⟩
  | exc c h2=>exact absurd z (hexc _ _ _ _)
  | bad=>rw [z] at q;exact False.elim q
theorem qEz (o:Bi) (d:D) (h:AH) (c:Nat) (h':AH):meOk o d h≠.exc c h':=by
 unfold meOk
 intro z
 split at z
 all_goals first | cases z | (split at z <;> cases z)
theorem qKk {a b:Expr} {ca cb:CE} {x:Str} {apos cpos:Pos} (hx:x="append") (ha:PE X a (tD X.K W (den F ca))) (hb:PE X b (tD X.K W (den F cb))) (hbase:attributeBase a x X.env (eval a X.env)=eval a X.env) (hline:(apos.endLine == cpos.line)=true)
    (hst:starEach [b] X.env=[(false,eval b X.env)]):PE X (.Call (.Attribute a x apos) [b] [] cpos) (tD X.K W (den F (.me .append ca cb))):=by
  subst hx
  refine d_me (L2.pe_bm PySem.F.plainAttrs_list PySem.F.slot_list_append PySem.F.type_list_append L2.mt_append ha (L2.pa_cons hb L2.pa_nil (by rw [hst];rfl)) hbase (by rw [hst];rfl) hline (by rw [hst];rfl)) (fun ρ h d v H r hv h' z=>?_) (qEz _) (fun x y H Q z=>?_)
  · cases d with
    | ref i =>
      have z:(match getL h i with | some _=>R.ok () h | none=>.bad)=.ok () h':=z
      cases e:getL h i with
      | none=>rw [e] at z;cases z
      | some xs =>
        rw [e] at z
        cases z
        obtain ⟨a,vs,rfl,h1,_⟩:=r.seen e hv
        exact ⟨rfl,.inl ⟨rfl,vs,h1⟩⟩
    | _=>cases z
  · obtain ⟨w,ρ,h,d,e,r,hd,he,p⟩:=z
    cases d with
    | ref k =>
      have p:PostV X.K w Q ρ H (match h[k]? with | some (.lst xs)=>if xs.length<16777216 then .ok .non (h.set k (.lst (xs++[e]))) else .bad | _=>.bad):=p
      split at p
      · rename_i xs q
        obtain ⟨hz,p⟩:=PostV.ite p
        obtain ⟨a,vs,rfl,ha,hH,hl⟩:=r.own q hd
        refine ⟨a,vs,y,rfl,rfl,hH,by rw [hl.length,szEq];exact hz,?_⟩
        have hl':RepL X.K ρ H (xs++[e]) (vs++[y]):=hl.append ⟨y,[],rfl,he,rfl⟩
        exact p ρ _ (Step.turn hH rfl (List.mem_of_getElem? ha)) (r.setList q ha hH hl') _ rfl
      · exact False.elim p
    | _=>exact (show False from p).elim
theorem qGV {K:PySem.W.Frag} {ρ:List Addr} {H:Hp}:∀ {ds:List D} {vs:List V} {ns:List Int},qAr ds=some ns→RepL K ρ H ds vs→vs=ns.map V.int
 | [],_,_,e,h=>by cases e;cases h;rfl
 | d::ds,_,ns,e,⟨v,vs,hv,h1,h2⟩=>by
  subst hv
  cases d with
  | int b =>
   unfold qAr at e
   cases q:qAr ds with
   | none=>rw [q] at e;cases e
   | some cs =>
    rw [q] at e
    cases e
    cases h1
    rw [List.map_cons,qGV q h2]
  | _=>cases e
theorem qJG (a:Int) (ns:List Int):L2.inV (.int a) (ns.map V.int)=ns.contains a:=by
 unfold L2.inV
 rw [List.any_map,List.contains_eq_any_beq]
 congr 1
 funext i
 show L2.eqV (.int i) (.int a)=(a == i)
 rw [Bool.eq_iff_iff]
 simp [L2.eqV]
 exact eq_comm
theorem qFp (ns:List Int):(ns.map V.int).all L2.flatV=true:=by
 rw [List.all_map,List.all_eq_true]
 intro _ _
 rfl
theorem qF8 {f:D→Option Bool}:∀ {xs:List D} {b:Bool},anyD f xs=some b→∃ g:Nat→Bool,(∀ k (hk:k<xs.length),f xs[k]=some (g k))∧(b=true↔∃ k,k<xs.length∧g k=true)
 | [],b,h=>by cases h;exact ⟨fun _=>false,fun k hk=>absurd hk (Nat.not_lt_zero k),by simp⟩
 | x::xs,b,h=>by
  unfold anyD at h
  cases q:f x with
  | none=>rw [q] at h;cases h
  | some a =>
   cases z:anyD f xs with
   | none=>rw [q,z] at h;cases h
   | some c =>
    rw [q,z] at h
    cases h
    obtain ⟨g,h1,h2⟩:=qF8 z
    refine ⟨fun k=>match k with | 0=>a | k+1=>g k,fun k hk=>?_,?_⟩
    ·cases k with
     | zero=>exact q
     | succ k=>exact h1 k (by simpa using hk)
    ·rw [Bool.or_eq_true,h2]
     constructor
     ·rintro (z | ⟨k,k1,k2⟩)
      ·exact ⟨0,by simp,z⟩
      ·exact ⟨k+1,by simpa using k1,k2⟩
     ·rintro ⟨k,k1,k2⟩
      cases k with
      | zero=>exact .inl k2
      | succ k=>exact .inr ⟨k,by simpa using k1,k2⟩
open Classical in
theorem qOr {pins:List (Addr × Obj)} {s:Shared} {σ:L2.St} {H:Hp} {ρ:List Addr} {h:AH} (I:Inv X pins σ H s) (r:RepH X.K ρ h H) (hu:X.A.units+64<cLine) {a:Addr} {vs:List V} {ds:List D} {d:D} {x:V} {v u:Value} {b:Bool} {Q:VK} (h1:SqL X.K H a vs) (h2:RepL X.K ρ H ds vs) (hd:RepV X.K ρ H d x) (rx:RelV x v) (ry:RelV (.ref a) u)
    (qb:anyD (fun x=>eqTop h x d) ds=some b) (p:Q (.bl b) H):wpAny (model X.prog X.w) X.A (compareOp .In v u) (L2.EP X pins σ Q) X.xe s:=by
  cases ry
  obtain ⟨its,rr,pl,hz⟩:=I.list h1
  obtain ⟨g,g1,g2⟩:=qF8 qb
  have l1:=rr.length
  have l2:=h2.length
  have at':∀ k (hk:k<its.length),SeqAt.EqAt X.A.in1 s its[k] v (g k):=fun k hk=>by
    have q1:ds[k]?=some (ds[k]'(by omega)):=by simp
    obtain ⟨w1,p1,p2⟩:=h2.get q1
    obtain ⟨u1,p5,p6⟩:=rr.get p1
    have f1:its[k]'hk=u1:=by
      have:its[k]?=some (its[k]'hk):=by simp
      rw [this] at p5
      simpa using p5
    rw [f1]
    exact eqOf I r 40 (eqAtD I r 40) _ d _ w1 x u1 v X.A.in1 (g1 k (by omega)) p2 hd p6 rx (by show X.A.units+1+40<cLine;omega)
  refine SeqAt.in_listAt (fun w=>decide (∃ k,∃ hk:k<its.length,its[k]=w∧g k=true)) pl.isList (fun w hw=>?_) ⟨.bl b,H,I,?_,p⟩
  · by_cases z:∃ k,∃ hk:k<its.length,its[k]=w∧g k=true
    · rw [decide_eq_true z]
      obtain ⟨k,hk,rfl,e⟩:=z
      have:=at' k hk
      rw [e] at this
      exact this
    · rw [decide_eq_false z]
      obtain ⟨k,hk,rfl⟩:=List.mem_iff_getElem.mp (show w∈its by simpa using hw)
      have:=at' k hk
      rw [show g k=false from Bool.eq_false_iff.mpr fun e=>z ⟨k,hk,rfl,e⟩] at this
      exact this
  · show Value.bool _=Value.bool _
    congr 1
    rw [Bool.eq_iff_iff,g2]
    simp only [List.any_toArray,List.any_eq_true,decide_eq_true_eq]
    constructor
    · rintro ⟨w,hw,k,hk,_,e⟩
      exact ⟨k,by omega,e⟩
    · rintro ⟨k,hk,e⟩
      exact ⟨its[k]'(by omega),List.getElem_mem _,k,by omega,rfl,e⟩
theorem qIM {K:PySem.W.Frag} {ρ:List Addr} {H:Hp}:∀ {ds:List D} {vs:List V} {ns:List Tx},qAs ds=some ns→RepL K ρ H ds vs→vs=ns.map fun y=>V.str ⟨y.toArray⟩
 | [],_,_,e,h=>by cases e;cases h;rfl
 | d::ds,_,ns,e,⟨v,vs,hv,h1,h2⟩=>by
  subst hv
  cases d with
  | str b =>
   unfold qAs at e
   cases q:qAs ds with
   | none=>rw [q] at e;cases e
   | some cs =>
    rw [q] at e
    cases e
    cases h1
    rw [List.map_cons,qIM q h2]
  | _=>cases e
theorem qMe (a:Tx) (ns:List Tx):L2.inV (.str ⟨a.toArray⟩) (ns.map fun y=>V.str ⟨y.toArray⟩)=ns.contains a:=by
 unfold L2.inV
 rw [List.any_map,List.contains_eq_any_beq]
 congr 1
 funext i
 show L2.eqV (.str ⟨i.toArray⟩) (.str ⟨a.toArray⟩)=(a == i)
 rw [Bool.eq_iff_iff]
 simp [L2.eqV]
 exact eq_comm
theorem qJN (ns:List Tx):(ns.map fun y=>V.str ⟨y.toArray⟩).all L2.flatV=true:=by
 rw [List.all_map,List.all_eq_true]
 intro _ _
 rfl
theorem qN8 (hu:X.A.units+64<cLine):OpR X (compareOp .In) (rB X.K .isin):=by
 rintro pins s σ H x y v u Q I rx ry ⟨w,ρ,h,d,e,r,hd,he,p⟩
 cases d with
 | str a =>
  cases e with
  | str b =>
   cases hd;cases he
   match a,p,rx with
   | [c],p,rx =>
    obtain ⟨t,rfl⟩:=rx
    obtain ⟨t',rfl⟩:=ry
    refine PyProof.Rows.in_str ?_
    refine ⟨.bl (b.contains c),H,I,?_,PostV.now (h:=h) p r rfl⟩
    show Value.bool _=Value.bool _
    have e1:(⟨[c].toArray⟩:Str)=⟨#[c]⟩:=rfl
    rw [e1,PySem.StrLaws.found_one]
    congr 1
    rw [Bool.eq_iff_iff]
    simp
   | [],p,_=>exact (show False from p).elim
   | _::_::_,p,_=>exact (show False from p).elim
  | tup ds =>
   have p:PostV X.K w Q ρ H (match qAs ds with | some ys=>.ok (.bl (ys.contains a)) h | none=>.bad):=p
   cases q:qAs ds with
   | none=>rw [q] at p;exact False.elim p
   | some ys =>
    rw [q] at p
    obtain ⟨l,vs,rfl,h1,h2⟩:=he
    have hv:=qIM q h2
    subst hv
    cases hd
    refine L2.op_in_seq pins s σ H _ _ v u Q I rx ry ⟨l,_,rfl,.inr h1,rfl,qJN ys,?_⟩
    show Q (.bl (L2.inV (.str ⟨a.toArray⟩) (ys.map fun y=>V.str ⟨y.toArray⟩))) H
    rw [qMe]
    exact PostV.now (h:=h) p r rfl
  | _=>exact (show False from p).elim
 | int c =>
  cases e with
  | ref i =>
   have p:PostV X.K w Q ρ H (match (getL h i).bind qAr with | some xs=>.ok (.bl (xs.contains c)) h | none=>hasK i (.int c) h):=p
   cases q1:(getL h i).bind qAr with
   | none=>rw [q1] at p;exact in_K (ky:=.int c) I r hd he rx ry p
   | some ns =>
    rw [q1] at p
    cases q:getL h i with
    | none=>rw [q] at q1;cases q1
    | some ds =>
     rw [q] at q1
     obtain ⟨a,vs,rfl,h1,h2⟩:=r.seen q he
     have hv:=qGV q1 h2
     subst hv
     cases hd
     refine L2.op_in_seq pins s σ H _ _ v u Q I rx ry ⟨a,_,rfl,.inl h1,rfl,qFp ns,?_⟩
     show Q (.bl (L2.inV (.int c) (ns.map V.int))) H
     rw [qJG]
     exact PostV.now (h:=h) p r rfl
  | _=>exact (show False from p).elim
 | tup as =>
  cases e with
  | ref i =>
   have p:PostV X.K w Q ρ H (match (getL h i).bind (anyD fun x=>eqTop h x (.tup as)) with | some b=>.ok (.bl b) h | none=>.bad):=p
   cases q:getL h i with
   | none=>rw [q] at p;exact False.elim p
   | some ds =>
    rw [q] at p
    have p:PostV X.K w Q ρ H (match anyD (fun x=>eqTop h x (.tup as)) ds with | some b=>.ok (.bl b) h | none=>.bad):=p
    cases qb:anyD (fun x=>eqTop h x (.tup as)) ds with
    | none=>rw [qb] at p;exact False.elim p
    | some b =>
     rw [qb] at p
     obtain ⟨a,vs,rfl,h1,h2⟩:=r.seen q he
     exact qOr I r hu h1 h2 hd rx ry qb (PostV.now (h:=h) p r rfl)
  | _=>exact (show False from p).elim
 | _=>exact (show False from p).elim
theorem qIg:OpR X (compareOp .NotIn) (rB X.K .notin):=by
 rintro pins s σ H x y v u Q I rx ry ⟨w,ρ,h,d,e,r,hd,he,p⟩
 cases d with
 | str a =>
  cases e with
  | str b =>
   cases hd;cases he
   match a,p,rx with
   | [c],p,rx =>
    obtain ⟨t,rfl⟩:=rx
    obtain ⟨t',rfl⟩:=ry
    refine PyProof.Rows.notIn_str ?_
    refine ⟨.bl (!b.contains c),H,I,?_,PostV.now (h:=h) p r rfl⟩
    show Value.bool _=Value.bool _
    have e1:(⟨[c].toArray⟩:Str)=⟨#[c]⟩:=rfl
    rw [e1,PySem.StrLaws.found_one]
    congr 2
    rw [Bool.eq_iff_iff]
    simp
   | [],p,_=>exact (show False from p).elim
   | _::_::_,p,_=>exact (show False from p).elim
  | _=>exact (show False from p).elim
 | int c =>
  cases e with
  | ref i =>
   have p:PostV X.K w Q ρ H (match (getL h i).bind qAr with | some xs=>.ok (.bl (!xs.contains c)) h | none=>.bad):=p
   cases q:getL h i with
   | none=>rw [q] at p;exact False.elim p
   | some ds =>
    rw [q] at p
    have p:PostV X.K w Q ρ H (match qAr ds with | some xs=>.ok (.bl (!xs.contains c)) h | none=>.bad):=p
    cases qb:qAr ds with
    | none=>rw [qb] at p;exact False.elim p
    | some ns =>
     rw [qb] at p
     obtain ⟨a,vs,rfl,h1,h2⟩:=r.seen q he
     have hv:=qGV qb h2
     subst hv
     cases hd
     refine L2.op_notIn_seq pins s σ H _ _ v u Q I rx ry ⟨a,_,rfl,.inl h1,rfl,qFp ns,?_⟩
     show Q (.bl (!L2.inV (.int c) (ns.map V.int))) H
     rw [qJG]
     exact PostV.now (h:=h) p r rfl
  | _=>exact (show False from p).elim
 | _=>exact (show False from p).elim
theorem qFu {K:PySem.W.Frag} {ρ:List Addr} {H:Hp}:∀ {ds:List D} {vs:List V} {us:List Value} {bs:List Bool},qBI ds=some bs→RepL K ρ H ds vs→Vals vs us→LSm.BoolsAre us bs
 | [],_,_,_,e,h,r=>by
  cases e
  cases h
  cases r
  exact .nil
 | d::ds,_,us,bs,e,⟨v,vs,hv,h1,h2⟩,r=>by
  subst hv
  cases d with
  | bl b =>
   unfold qBI at e
   cases q:qBI ds with
   | none=>rw [q] at e;cases e
   | some cs =>
    rw [q] at e
    cases e
    cases h1
    cases r with
    | cons r1 r2 =>
     cases r1
     exact .cons b (qFu q h2 r2)
  | _=>cases e
theorem qJk (hc:X.calm=true):CallR X (.builtin "all") (rC X.K .all):=by
 rintro pins s σ H xs us Q I rv ⟨x,rfl,w,ρ,h,d,r,hd,p⟩
 cases d with
 | ref i =>
  have p:PostV X.K w Q ρ H (match (getL h i).bind allB with | some b=>.ok (.bl b) h | none=>.bad):=p
  cases q:getL h i with
  | none=>rw [q] at p;exact False.elim p
  | some ds =>
   rw [q] at p
   have p:PostV X.K w Q ρ H (match (qBI ds).map (·.all id) with | some b=>.ok (.bl b) h | none=>.bad):=p
   cases qb:qBI ds with
   | none=>rw [qb] at p;exact False.elim p
   | some bs =>
    rw [qb] at p
    obtain ⟨a,vs,rfl,h1,h2⟩:=r.seen q hd
    obtain ⟨u,rfl,ru⟩:=L2.Vals.one rv
    cases ru
    obtain ⟨its,rv',pl,hz⟩:=I.list h1
    have hb:=qFu qb h2 rv'
    have hl:=pl.isList
    have hlt:a<s.heap.objs.size:=by obtain ⟨_,e,_⟩:=hl;exact Heap.lt_size e
    refine PySem.call_all_walk (wpAny_pyIter_list hl ?_)
    refine ⟨s.heap.objs.size,[s.heap.objs.size,a],[s.heap.objs.size],its.toArray.size,_,_,fun i=>(bs[i]?).getD true,rfl,Walks.list (A:=X.A.in1) (I.ok.hd hc) _ a (Nat.ne_of_lt hlt) its.toArray,
     ⟨⟨_,Heap.get?_push_size _ rfl,rfl,rfl⟩,hl.push _⟩,fun i v s' Q' E' hP hQ=>?_,fun h' tk hk=>?_⟩
    ·obtain ⟨b,e,rfl⟩:=hb.get i v (by simpa using hP)
     simp only [e,Option.getD_some] at hQ
     exact wpAny_truthy_bool hQ
    ·have e:((List.range its.toArray.size).all fun i=>(bs[i]?).getD true)=bs.all id:=by
      rw [show its.toArray.size=bs.length by simpa using hb.length]
      exact LSm.range_all bs
     rw [e]
     exact ⟨.bl (bs.all id),H,I.kept (t':=tk) (LSm.kept_iter hk),rfl,PostV.now p r rfl⟩
 | _=>exact (show False from p).elim
theorem qMd {ρ:List Addr} {H:Hp} {h:AH} {b:Bool} {d:D} {v:V} {u:Value} {Q:VK} {w:W1} (r:RepH X.K ρ h H) (hd:RepV X.K ρ H d v) (rv:RelV v u) (p:PostV X.K w Q ρ H (unD (.isB b) d h)):∃ k,((u == Value.bool b)=k)∧Q (.bl k) H:=by
 cases d with
 | bl c =>
  cases hd
  cases rv
  refine ⟨_,rfl,PostV.now (h:=h) (d:=.bl (b == c)) p r ?_⟩
  cases b <;> cases c <;> rfl
 | non=>cases hd;cases rv;exact ⟨_,rfl,PostV.now (h:=h) (d:=.bl false) p r rfl⟩
 | int i=>cases hd;obtain ⟨t,rfl⟩:=rv;exact ⟨_,rfl,PostV.now (h:=h) (d:=.bl false) p r rfl⟩
 | str x=>cases hd;obtain ⟨t,rfl⟩:=rv;exact ⟨_,rfl,PostV.now (h:=h) (d:=.bl false) p r rfl⟩
 | tup xs=>exact (show False from p).elim
 | ref i=>exact (show False from p).elim
noncomputable def tIsB (K:PySem.W.Frag) (b:Bool) (ta:TE):TE:=fun σ H Q=>ta σ H fun x H1=>rU K (.isB b) x H1 Q
theorem qK7 {a:Expr} {ta:TE} {b:Bool} {j:Nat} {pos':Pos} (ha:PE X a ta):L2.PC X .Is a (.Constant (.bool b) j pos') (tIsB X.K b ta):=by
 intro pins s σ H Q I h
 refine L2.thn (ha pins s σ H _ I h) fun v s1 ⟨x,H1,I1,r1,w,ρ,hh,d,r,hd,p⟩=>?_
 obtain ⟨k,hk,q⟩:=qMd r hd r1 p
 refine Constant_bool ?_
 have key:∀ Qv:Value→Shared→Prop,Qv (.bool (v == .bool b)) s1→wpAny (model X.prog X.w) X.A (compareOp .Is v (.bool b)) Qv X.xe s1:=by
  intro Qv hQ
  rcases qEr hd r1 with rfl | ⟨c,rfl⟩ | ⟨c,t,rfl⟩ | ⟨c,t,rfl⟩ | ⟨c,rfl⟩ <;> exact wpAny_pure hQ
 refine key _ ⟨.bl k,H1,I1,by rw [hk];rfl,q⟩
theorem isBI {b:Bool} {ca:CE} {σ:L2.St} {H:Hp} {Q:VK} (t:tD X.K W (den F (.un (.isB b) ca)) σ H Q):tIsB X.K b (tD X.K W (den F ca)) σ H Q:=one t
theorem qOq {b:Bool} {ca:CE} (env:Env) (h:AH) (d:D) (h':AH) (e:den F (.un (.isB b) ca) env h=.ok d h'):∃ k,d=.bl k:=by
 rw [den] at e
 obtain ⟨x,g1,_,e⟩:=bind_ok e
 cases x <;> first | (cases e;exact ⟨_,rfl⟩) | cases e
theorem d_isB {a:Expr} {ca:CE} {b:Bool} {j:Nat} {pos pos':Pos} (ha:PE X a (tD X.K W (den F ca))):PE X (.Compare a [.Is] [.Constant (.bool b) j pos'] pos) (tD X.K W (den F (.un (.isB b) ca))):=PE.imp (L2.pe_cmp (qK7 ha)) fun σ H Q t=>isBI t
theorem qO4 {a:Expr} {ca:CE} {b:Bool} {j:Nat} {pos pos':Pos} (ha:PE X a (tD X.K W (den F ca))):PT X (.Compare a [.Is] [.Constant (.bool b) j pos'] pos) (tDT X.K W (denT F (.val (.un (.isB b) ca)))):=PT.imp (L2.pt_cmp (qK7 ha)) fun σ H Q t=>isBI (valI qOq t)
theorem qME {ρ:List Addr} {H:Hp} {h:AH} {b:Bool} {d:D} {v:V} {u:Value} {Q:VK} {w:W1} (r:RepH X.K ρ h H) (hd:RepV X.K ρ H d v) (rv:RelV v u) (p:PostV X.K w Q ρ H (unD (.nsB b) d h)):∃ k,((!(u == Value.bool b))=k)∧Q (.bl k) H:=by
 cases d with
 | bl c =>
  cases hd
  cases rv
  refine ⟨_,rfl,PostV.now (h:=h) (d:=.bl (!(b == c))) p r ?_⟩
  cases b <;> cases c <;> rfl
 | non=>cases hd;cases rv;exact ⟨_,rfl,PostV.now (h:=h) (d:=.bl true) p r rfl⟩
 | int i=>cases hd;obtain ⟨t,rfl⟩:=rv;exact ⟨_,rfl,PostV.now (h:=h) (d:=.bl true) p r rfl⟩
 | str x=>cases hd;obtain ⟨t,rfl⟩:=rv;exact ⟨_,rfl,PostV.now (h:=h) (d:=.bl true) p r rfl⟩
 | tup xs=>exact (show False from p).elim
 | ref i=>exact (show False from p).elim
noncomputable def tNsB (K:PySem.W.Frag) (b:Bool) (ta:TE):TE:=fun σ H Q=>ta σ H fun x H1=>rU K (.nsB b) x H1 Q
theorem qK6 {a:Expr} {ta:TE} {b:Bool} {j:Nat} {pos':Pos} (ha:PE X a ta):L2.PC X .IsNot a (.Constant (.bool b) j pos') (tNsB X.K b ta):=by
 intro pins s σ H Q I h
 refine L2.thn (ha pins s σ H _ I h) fun v s1 ⟨x,H1,I1,r1,w,ρ,hh,d,r,hd,p⟩=>?_
 obtain ⟨k,hk,q⟩:=qME r hd r1 p
 refine Constant_bool ?_
 have key:∀ Qv:Value→Shared→Prop,Qv (.bool (!(v == .bool b))) s1→wpAny (model X.prog X.w) X.A (compareOp .IsNot v (.bool b)) Qv X.xe s1:=by
  intro Qv hQ
  rcases qEr hd r1 with rfl | ⟨c,rfl⟩ | ⟨c,t,rfl⟩ | ⟨c,t,rfl⟩ | ⟨c,rfl⟩ <;> exact wpAny_pure hQ
 refine key _ ⟨.bl k,H1,I1,by rw [hk];rfl,q⟩
theorem qOP {b:Bool} {ca:CE} (env:Env) (h:AH) (d:D) (h':AH) (e:den F (.un (.nsB b) ca) env h=.ok d h'):∃ k,d=.bl k:=by
 rw [den] at e
 obtain ⟨x,g1,_,e⟩:=bind_ok e
 cases x <;> first | (cases e;exact ⟨_,rfl⟩) | cases e
theorem d_nsB {a:Expr} {ca:CE} {b:Bool} {j:Nat} {pos pos':Pos} (ha:PE X a (tD X.K W (den F ca))):PE X (.Compare a [.IsNot] [.Constant (.bool b) j pos'] pos) (tD X.K W (den F (.un (.nsB b) ca))):=PE.imp (L2.pe_cmp (qK6 ha)) fun σ H Q t=>one t
theorem qO1 {a:Expr} {ca:CE} {b:Bool} {j:Nat} {pos pos':Pos} (ha:PE X a (tD X.K W (den F ca))):PT X (.Compare a [.IsNot] [.Constant (.bool b) j pos'] pos) (tDT X.K W (denT F (.val (.un (.nsB b) ca)))):=PT.imp (L2.pt_cmp (qK6 ha)) fun σ H Q t=>one (valI qOP t)
end
end Fy
set_option Elab.async false
set_option linter.all false
set_option maxRecDepth 100000
set_option maxHeartbeats 4000000
namespace Fy
open PySem PySem.Spec PyProof.Rows
open L2 (V Hp HO VK TE TT TA TS TI Cx Inv RelV Vals SqL SqT Rd upd qAB qAC PE PT PA PS PSs EP OpR CallR IxR MtR SlR PO TO)
section
variable {K:PySem.W.Frag} {ρ:List Addr} {H:Hp}
theorem RepK.drop (k:Ky):∀ {kvs:List (Ky × D)} {vs:List (L2.Key × V)},RepK K ρ H kvs vs→RepK K ρ H (dropY kvs k) (L2.dropK vs (kyV k))
 | [],_,h=>by cases h;rfl
 | x::kvs,_,⟨v,r,rfl,h1,h2⟩=>by
  unfold dropY L2.dropK
  by_cases e:x.1=k
  ·rw [List.filter_cons_of_neg (by simpa using e),List.filter_cons_of_neg (by simpa using kyV_inj.mpr e)]
   exact RepK.drop k h2
  ·rw [List.filter_cons_of_pos (by simpa using e),List.filter_cons_of_pos (by simpa using fun z=>e (kyV_inj.mp z))]
   exact ⟨v,_,rfl,h1,RepK.drop k h2⟩
end
section
variable {prog:Program} {w:World} {K:Type} [DecidableEq K] {knd:KeyKind prog w K} {A:Around} {E:Value→Shared→Prop} {s:Shared}
end
section
variable {prog:Program} {w:World} {K:Type} [DecidableEq K]
end
section
variable {X:Cx} {F:Nat→List D→M D} {W:WX}
theorem RepL.rev {K:PySem.W.Frag} {ρ:List Addr} {H:Hp}:∀ {xs:List D} {vs:List V},RepL K ρ H xs vs→RepL K ρ H xs.reverse vs.reverse
 | [],_,h=>by cases h;rfl
 | x::xs,_,⟨v,r,rfl,h1,h2⟩=>by
  rw [List.reverse_cons,List.reverse_cons]
  exact (RepL.rev h2).append ⟨v,[],rfl,h1,rfl⟩
end
end Fy
set_option Elab.async false
set_option linter.all false
set_option maxRecDepth 100000
set_option maxHeartbeats 4000000
namespace Fy
open PySem PySem.Spec PyProof.Rows
open L2 (V Hp HO VK TE TT TA TS TI Cx Inv RelV Vals SqL SqT Rd upd qAB qAC PE PT PA PS PSs EP OpR CallR IxR MtR SlR PO TO)
section
open PySem.Builtin PySem.Builtin.Str
end
section
variable {K:PySem.W.Frag} {ρ:List Addr} {H:Hp}
end
section
variable {X:Cx} {F:Nat→List D→M D} {W:WX}
end
end Fy
set_option Elab.async false
set_option linter.all false
set_option maxRecDepth 100000
set_option maxHeartbeats 4000000
namespace Fy
open PySem PySem.Spec PyProof.Rows
open L2 (V Hp HO VK TE TT TA TS TI Cx Inv RelV Vals SqL SqT Rd upd qAB qAC PE PT PA PS PSs EP OpR CallR IxR MtR SlR PO TO)
section
variable {X:Cx} {F:Nat→List D→M D} {W:WX}
theorem qPC {a b:Expr} {ca cb:CE} {x:Str} {apos cpos:Pos} (hx:x="pop") (ha:PE X a (tD X.K W (den F ca))) (hb:PE X b (tD X.K W (den F cb))) (hbase:attributeBase a x X.env (eval a X.env)=eval a X.env) (hline:(apos.endLine == cpos.line)=true)
    (hst:starEach [b] X.env=[(false,eval b X.env)]):PE X (.Call (.Attribute a x apos) [b] [] cpos) (tD X.K W (den F (.me .lpop ca cb))):=by
  subst hx
  refine d_me (L2.pe_bm PySem.F.plainAttrs_list PySem.F.slot_list_pop PySem.F.type_list_pop L2.mt_popAt ha (L2.pa_cons hb L2.pa_nil (by rw [hst];rfl)) hbase (by rw [hst];rfl) hline (by rw [hst];rfl)) (fun ρ h d v H r hv h' z=>?_) (qEz _) (fun x y H Q z=>?_)
  · cases d with
    | ref i =>
      have z:(match getL h i with | some _=>R.ok () h | none=>.bad)=.ok () h':=z
      cases e:getL h i with
      | none=>rw [e] at z;cases z
      | some xs =>
        rw [e] at z
        cases z
        obtain ⟨a,vs,rfl,h1,_⟩:=r.seen e hv
        exact ⟨rfl,.inl ⟨rfl,vs,h1⟩⟩
    | _=>cases z
  · obtain ⟨w,ρ,h,d,e,r,hd,he,p⟩:=z
    cases d with
    | ref k =>
      cases e with
      | int i =>
        have p:PostV X.K w Q ρ H (match h[k]? with | some (.lst xs)=>(if xs.length≤16777216 then (match ixN xs.length i with | some j=>(match xs[j]? with | some d=>.ok d (h.set k (.lst (xs.eraseIdx j))) | none=>.bad) | none=>.bad) else .bad) | _=>.bad):=p
        split at p
        · rename_i xs q
          obtain ⟨hz,p⟩:=PostV.ite p
          cases e1:ixN xs.length i with
          | none=>rw [e1] at p;exact False.elim p
          | some j =>
            rw [e1] at p
            have p:PostV X.K w Q ρ H (match xs[j]? with | some d=>.ok d (h.set k (.lst (xs.eraseIdx j))) | none=>.bad):=p
            cases e2:xs[j]? with
            | none=>rw [e2] at p;exact False.elim p
            | some dd =>
              rw [e2] at p
              obtain ⟨a,vs,rfl,ha,hH,hl⟩:=r.own q hd
              obtain ⟨u,hu,hv⟩:=hl.get e2
              have e1:L2.ixN vs.length i=some j:=by rw [hl.length];exact e1
              obtain ⟨s1,s2,s3,s4⟩:=L2.ixN_seq e1
              have len:=hl.length
              cases he
              have hl':RepL X.K ρ H (xs.eraseIdx j) (vs.eraseIdx j):=by
                rw [List.eraseIdx_eq_take_drop_succ,List.eraseIdx_eq_take_drop_succ]
                exact (hl.take _).append (hl.drop _)
              have stp:Step ρ H ρ (upd H a (.lst (vs.eraseIdx j))):=Step.turn hH rfl (List.mem_of_getElem? ha)
              exact ⟨a,vs,i,j,u,rfl,rfl,hH,by omega,by omega,s1,hu,p ρ _ stp (r.setList q ha hH hl') u (hv.mono stp _ _)⟩
        · exact False.elim p
      | _=>exact (show False from p).elim
    | _=>exact (show False from p).elim
end
end Fy
set_option Elab.async false
set_option linter.all false
set_option maxRecDepth 100000
set_option maxHeartbeats 4000000
namespace Fy
open PySem PySem.Spec PyProof.Rows
open L2 (V Hp HO VK TE TT TA TS TI Cx Inv RelV Vals SqL SqT Rd upd qAB qAC PE PT PA PS PSs EP OpR CallR IxR MtR SlR PO TO PI PG PIE Turn FpOk Ends)
section
variable {X:Cx} {F:Nat→List D→M D} {W:WX}
theorem qG4 {K:PySem.W.Frag} {ρ:List Addr} {H:Hp}:∀ {ds:List D} {vs:List V} {us:List Value} {xs:List Tx},qAs ds=some xs→RepL K ρ H ds vs→Vals vs us→∃ l:List (Str × Tok),us=strValues l∧l.map (·.1)=xs.map fun x=>⟨x.toArray⟩
 | [],_,_,_,e,h,r=>by
  cases e
  cases h
  cases r
  exact ⟨[],rfl,rfl⟩
 | d::ds,_,us,bs,e,⟨v,vs,hv,h1,h2⟩,r=>by
  subst hv
  cases d with
  | str b =>
   unfold qAs at e
   cases q:qAs ds with
   | none=>rw [q] at e;cases e
   | some cs =>
    rw [q] at e
    cases e
    cases h1
    cases r with
    | cons r1 r2 =>
     obtain ⟨t,rfl⟩:=r1
     obtain ⟨l,rfl,e2⟩:=qG4 q h2 r2
     exact ⟨(⟨b.toArray⟩,t)::l,rfl,by rw [List.map_cons,List.map_cons,e2]⟩
  | _=>cases e
theorem qI9 (z:Tx):∀ xs:List Tx,Str.join ⟨z.toArray⟩ (xs.map fun x=>⟨x.toArray⟩)=⟨(joinT z xs).toArray⟩
 | []=>rfl
 | [x]=>rfl
 | x::y::r=>by
  have ih:=qI9 z (y::r)
  show (⟨x.toArray⟩:Str)++⟨z.toArray⟩++Str.join ⟨z.toArray⟩ ((y::r).map fun x=>⟨x.toArray⟩)=_
  rw [ih,qGD,qGD]
  rfl
theorem qPD {a b:Expr} {ca cb:CE} {x:Str} {apos cpos:Pos} (hx:x="join") (ha:PE X a (tD X.K W (den F ca))) (hb:PE X b (tD X.K W (den F cb))) (hbase:attributeBase a x X.env (eval a X.env)=eval a X.env) (hline:(apos.endLine == cpos.line)=true)
    (hst:starEach [b] X.env=[(false,eval b X.env)]):PE X (.Call (.Attribute a x apos) [b] [] cpos) (tD X.K W (den F (.me .join ca cb))):=by
  subst hx
  have mt:L2.MtR X "str.join" fun x ys H Q=>∃ y,ys=[y]∧rB X.K .join x y H Q:=by
    rintro pins s σ H x ys v us Q I rx rv ⟨y,rfl,w,ρ,h,d,e,r,hd,he,p⟩
    obtain ⟨u,rfl,ru⟩:=L2.Vals.one rv
    cases d with
    | str z =>
      cases e with
      | ref i =>
        cases hd
        have p:PostV X.K w Q ρ H (match (getL h i).bind qAs with | some xs=>if joinN z xs≤16777216 then .ok (.str (joinT z xs)) h else .bad | none=>.bad):=p
        cases q:getL h i with
        | none=>rw [q] at p;exact False.elim p
        | some ds =>
          rw [q] at p
          cases qs:qAs ds with
          | none =>
            have p:PostV X.K w Q ρ H (match qAs ds with | some xs=>if joinN z xs≤16777216 then .ok (.str (joinT z xs)) h else .bad | none=>.bad):=p
            rw [qs] at p;exact False.elim p
          | some xs =>
            have p:PostV X.K w Q ρ H (match qAs ds with | some xs=>if joinN z xs≤16777216 then .ok (.str (joinT z xs)) h else .bad | none=>.bad):=p
            rw [qs] at p
            obtain ⟨hz,p⟩:=PostV.ite (c:=joinN z xs≤16777216) p
            obtain ⟨a',vs,rfl,h1,h2⟩:=r.seen q he
            cases ru
            obtain ⟨t,rfl⟩:=rx
            obtain ⟨its,rv',pl,_⟩:=I.list h1
            obtain ⟨l,rfl,el⟩:=qG4 qs h2 rv'
            refine PySem.SC.join (l:=l) (texts:=xs.map fun x=>⟨x.toArray⟩) pl.isList el ?_ fun t2 k=>?_
            · unfold JoinOk
              rw [PySem.StrLaws.joinTotal,Bool.not_eq_true']
              refine decide_eq_false ?_
              rw [szEq,List.map_map,List.length_map,qAd]
              unfold joinN at hz
              have:(xs.map ((fun p:Str=>p.length) ∘ fun x=>(⟨x.toArray⟩:Str)))=xs.map List.length:=List.map_congr_left fun x _=>qAd x
              rw [this]
              omega
            · have e:Txt.join ⟨z.toArray⟩ (xs.map fun x=>⟨x.toArray⟩)=⟨(joinT z xs).toArray⟩:=by
                unfold Txt.join
                rw [PySem.StrLaws.glued_eq_join,qI9]
              rw [e]
              exact ⟨.str ⟨(joinT z xs).toArray⟩,H,I.tok _,⟨_,rfl⟩,PostV.now p r rfl⟩
      | _=>exact (show False from p).elim
    | _=>exact (show False from p).elim
  refine d_me (L2.pe_bm PySem.F.plainAttrs_str PySem.F.slot_str_join PySem.F.type_str_join mt ha (L2.pa_cons hb L2.pa_nil (by rw [hst];rfl)) hbase (by rw [hst];rfl) hline (by rw [hst];rfl)) (fun ρ h d v H r hv h' z=>?_) (qEz _) (fun x y H Q z=>⟨y,rfl,z⟩)
  cases d with
  | str y=>cases z;cases hv;exact ⟨rfl,rfl⟩
  | _=>cases z
end
end Fy
set_option Elab.async false
set_option linter.all false
set_option maxRecDepth 100000
set_option maxHeartbeats 4000000
namespace Fy
open PySem PySem.Spec PyProof.Rows
open L2 (V Hp HO VK TE TT TA TS TI Cx Inv RelV Vals SqL SqT Rd upd qAB qAC PE PT PA PS PSs EP OpR CallR IxR MtR SlR PO TO PI PG PIE Turn FpOk Ends thn)
section
variable {X:Cx} {F:Nat→List D→M D} {W:WX}
end
end Fy
set_option Elab.async false
set_option linter.all false
set_option maxRecDepth 100000
set_option maxHeartbeats 4000000
namespace Fy
open PySem PySem.Spec PyProof.Rows
open L2 (V Hp HO VK TE TT TA TS TI Cx Inv RelV Vals SqL SqT Rd upd qAB qAC PE PT PA PS PSs EP OpR CallR IxR MtR SlR PO TO)
section
variable {X:Cx} {F:Nat→List D→M D} {W:WX}
end
end Fy
set_option Elab.async false
set_option linter.all false
set_option maxRecDepth 100000
set_option maxHeartbeats 4000000
namespace Fy
open PySem PySem.Spec PyProof.Rows
open L2 (V Hp HO VK TE TT TA TS TI Cx Inv RelV Vals SqL SqT Rd upd qAB qAC PE PT PA PS PSs EP OpR CallR IxR MtR SlR PO TO thn)
theorem qG8 {K:PySem.W.Frag} {ρ:List Addr} {H:Hp}:∀ ns:List Int,RepL K ρ H (ns.map .int) (ns.map V.int)
 | []=>rfl
 | n::r=>⟨.int n,_,rfl,rfl,qG8 r⟩
theorem vals_ints:∀ {us:List Value} {ns:List Int},IntsAre us ns→Vals (ns.map V.int) us
 | [],[],_=>.nil
 | u::us,n::ns,h=>by
  cases h with
  | cons _ t h2=>exact .cons ⟨_,rfl⟩ (vals_ints h2)
section
variable {X:Cx} {F:Nat→List D→M D} {W:WX}
noncomputable def rLr1:List V→Hp→VK→Prop:=fun xs H Q=>∃ j:Int,xs=[.int j]∧(-(2 ^ 62)≤j∧j<2 ^ 62)∧j.toNat≤sizeLine∧∀ l,H l=none→Q (.ref l) (upd H l (.lst ((List.range j.toNat).map fun k:Nat=>V.int (0+(k:Int)))))
noncomputable def rLr2:List V→Hp→VK→Prop:=fun xs H Q=>∃ i j:Int,xs=[.int i,.int j]∧(-(2 ^ 62)≤i∧i<2 ^ 62∧-(2 ^ 62)≤j∧j<2 ^ 62)∧(j-i).toNat≤sizeLine∧∀ l,H l=none→Q (.ref l) (upd H l (.lst ((List.range (j-i).toNat).map fun k:Nat=>V.int (i+(k:Int)))))
theorem qHX {lo:Int} {acc:Array Value} {n:Nat} (h:ItemsOf (fun i v=>∃ t,v=Value.int (lo+i*1) t) acc n):Vals ((List.range n).map fun k:Nat=>V.int (lo+(k:Int))) acc.toList:=by
 have key:∀ (l:List Value) (k:Nat),(∀ j v,l[j]?=some v→∃ t,v=Value.int (lo+((k+j:Nat):Int)) t)→Vals ((List.range l.length).map fun m:Nat=>V.int (lo+((k+m:Nat):Int))) l:=fun l=>by
  induction l with
  | nil=>intro k _;exact .nil
  | cons u l ih =>
   intro k hl
   have h0:=hl 0 u rfl
   have h1:=ih (k+1) fun j v hj=>by
    have:=hl (j+1) v (by simpa using hj)
    rwa [show k+(j+1)=k+1+j by omega] at this
   rw [List.length_cons,List.range_succ_eq_map,List.map_cons,List.map_map]
   refine .cons h0 ?_
   have e:(fun m:Nat=>V.int (lo+((k+1+m:Nat):Int)))=((fun m:Nat=>V.int (lo+((k+m:Nat):Int))) ∘ Nat.succ):=by
    funext m
    show V.int _=V.int _
    rw [show k+1+m=k+m.succ by omega]
   rw [← e]
   exact h1
 obtain ⟨h1,h2⟩:=h
 have:=key acc.toList 0 fun j v hj=>by
  rw [Nat.zero_add]
  obtain ⟨t,e⟩:=h2 j v (by rw [← Array.getElem?_toList];exact hj)
  exact ⟨t,by rw [e,Int.mul_one]⟩
 rw [show acc.toList.length=n from h1] at this
 simpa using this
theorem qI2 {pins:List (Addr × Obj)} {σ:L2.St} {H:Hp} {s:Shared} {Q:VK} {lo hi:Int} {t u v:Tok} {tk:Nat} (hc:X.calm=true) (I:Inv X pins σ H s) (h1:-(2 ^ 62)≤lo) (h2:lo<2 ^ 62) (h3:-(2 ^ 62)≤hi) (h4:hi<2 ^ 62) (hz:(hi-lo).toNat≤sizeLine)
    (q:∀ l,H l=none→Q (.ref l) (upd H l (.lst ((List.range (hi-lo).toNat).map fun k:Nat=>V.int (lo+(k:Int)))))):wpAny (model X.prog X.w) X.A (call (.type "list") [.ref s.heap.objs.size]) (EP X pins σ Q) X.xe { s with heap:=s.heap.push { cls:=.type "range",data:=.fields #[.int lo t,.int hi u,.int 1 v] },toks:=tk }:=by
  have I1:Inv X pins σ H { s with heap:=s.heap.push { cls:=.type "range",data:=.fields #[.int lo t,.int hi u,.int 1 v] },toks:=tk }:=I.kept fun b o e=>Heap.get?_push_of_some _ e
  refine call_list_range (n:=(hi-lo).toNat) (I1.ok.hd hc) (IsRange.new ..) (small_one h1 h2 h3 h4) (by rw [rangeSize_one];split <;> omega) (by rw [szEq] at hz;omega) fun h' tk' acc' c' kp hS hacc=>?_
  exact ⟨.ref _,_,I1.laid (t':=tk') kp (Nat.le_refl _) (show L2.ObjOk X.prog X.w _ _ _ (.lst ((List.range (hi-lo).toNat).map fun k:Nat=>V.int (lo+(k:Int)))) from ⟨by simpa using hz,acc'.toList,c',qHX hacc,by simpa using hS⟩),rfl,q _ (I1.hok.fresh (Nat.le_refl _))⟩
theorem qN2 {a:Expr} {ta:TA} {p q pos ppos:Pos} (hc:X.calm=true) (hgl:L2.Gl X "list") (hml:X.mg "list"=none) (hgr:L2.Gl X "range") (hmr:X.mg "range"=none) (ha:PA X [a] ta) (hs:starEach [a] X.env=[(false,eval a X.env)])
    (ho:starEach [.Call (.Name "range" q) [a] [] ppos] X.env=[(false,eval (.Call (.Name "range" q) [a] [] ppos) X.env)]):PE X (.Call (.Name "list" p) [.Call (.Name "range" q) [a] [] ppos] [] pos) (L2.tCB rLr1 ta):=by
  intro pins s σ H Q I h
  refine Call_ (L2.ld_blt I hgl hml (by decide +kernel:bootBuiltins "list"=some (.type "list")) (PyProof.Rows.callWith_type1 ?_ (by rw [ho];rfl) rfl))
  rw [ho]
  show wpAny _ _ (spliced [(false,eval (.Call (.Name "range" q) [a] [] ppos) X.env)]) _ _ s
  refine Calls.spliced_cons ?_
  refine Call_ (L2.ld_blt I hgr hmr (by decide +kernel:bootBuiltins "range"=some (.type "range")) (PyProof.Rows.callWith_type1 (thn (ha ppos pins s σ H _ I h) fun us s1 ⟨vs,H1,I1,r1,q1⟩=>?_) (by rw [hs];rfl) rfl))
  obtain ⟨j,e,⟨q1,q2⟩,q3,q4⟩:=q1
  subst e
  cases r1 with
  | cons r rr =>
    cases rr
    obtain ⟨t,rfl⟩:=r
    exact call_range_1 (Calls.spliced_nil (qI2 hc I1 (by omega) (by omega) q1 q2 (by simpa using q3) (by simpa using q4)))
theorem qN1 {a b:Expr} {ta:TA} {p q pos ppos:Pos} (hc:X.calm=true) (hgl:L2.Gl X "list") (hml:X.mg "list"=none) (hgr:L2.Gl X "range") (hmr:X.mg "range"=none) (ha:PA X [a,b] ta) (hs:starEach [a,b] X.env=[(false,eval a X.env),(false,eval b X.env)]) (hs2:starEach [b] X.env=[(false,eval b X.env)])
    (ho:starEach [.Call (.Name "range" q) [a,b] [] ppos] X.env=[(false,eval (.Call (.Name "range" q) [a,b] [] ppos) X.env)]):PE X (.Call (.Name "list" p) [.Call (.Name "range" q) [a,b] [] ppos] [] pos) (L2.tCB rLr2 ta):=by
  intro pins s σ H Q I h
  refine Call_ (L2.ld_blt I hgl hml (by decide +kernel:bootBuiltins "list"=some (.type "list")) (PyProof.Rows.callWith_type1 ?_ (by rw [ho];rfl) rfl))
  rw [ho]
  show wpAny _ _ (spliced [(false,eval (.Call (.Name "range" q) [a,b] [] ppos) X.env)]) _ _ s
  refine Calls.spliced_cons ?_
  refine Call_ (L2.ld_blt I hgr hmr (by decide +kernel:bootBuiltins "range"=some (.type "range")) (PyProof.Rows.callWith_type1 (thn (ha ppos pins s σ H _ I h) fun us s1 ⟨vs,H1,I1,r1,q1⟩=>?_) (by rw [hs,hs2]) (by rw [hs2];rfl)))
  obtain ⟨i,j,e,⟨q1,q2,q3,q4⟩,q5,q6⟩:=q1
  subst e
  cases r1 with
  | cons r rr =>
    cases rr with
    | cons r' rr =>
      cases rr
      obtain ⟨t,rfl⟩:=r
      obtain ⟨t',rfl⟩:=r'
      exact call_range_2 (Calls.spliced_nil (qI2 hc I1 q1 q2 q3 q4 q5 q6))
theorem qIW {K:PySem.W.Frag} {ρ:List Addr} {H:Hp} (lo:Int) (n:Nat):RepL K ρ H (qAK lo n) ((List.range n).map fun k:Nat=>V.int (lo+(k:Int))):=by
 have:=qG8 (K:=K) (ρ:=ρ) (H:=H) ((List.range n).map fun k:Nat=>lo+(k:Int))
 rw [List.map_map,List.map_map] at this
 exact this
theorem d_lr1 {a:Expr} {ca:CE} {p q pos ppos:Pos} (hc:X.calm=true) (hgl:L2.Gl X "list") (hml:X.mg "list"=none) (hgr:L2.Gl X "range") (hmr:X.mg "range"=none) (ha:PE X a (tD X.K W (den F ca))) (hs:starEach [a] X.env=[(false,eval a X.env)])
    (ho:starEach [.Call (.Name "range" q) [a] [] ppos] X.env=[(false,eval (.Call (.Name "range" q) [a] [] ppos) X.env)]):PE X (.Call (.Name "list" p) [.Call (.Name "range" q) [a] [] ppos] [] pos) (tD X.K W (den F (.un .lrng ca))):=by
  refine qFA (a:=a) (qN2 hc hgl hml hgr hmr (L2.pa_cons ha L2.pa_nil (by rw [hs];rfl)) hs ho) fun x H Q z=>?_
  obtain ⟨w,ρ,h,d,r,hd,p⟩:=z
  cases d with
  | int j =>
    cases hd
    have p:PostV X.K w Q ρ H (if qAE j then newL (qAK 0 j.toNat) h else .bad):=p
    obtain ⟨hz,p⟩:=PostV.ite p
    have pv:=PostV.newL p r (qIW 0 j.toNat)
    unfold qAE at hz
    exact ⟨j,rfl,by omega,by simpa using pv.1,pv.2⟩
  | _=>exact (show False from p).elim
theorem d_lr2 {a b:Expr} {ca cb:CE} {p q pos ppos:Pos} (hc:X.calm=true) (hgl:L2.Gl X "list") (hml:X.mg "list"=none) (hgr:L2.Gl X "range") (hmr:X.mg "range"=none) (ha:PE X a (tD X.K W (den F ca))) (hb:PE X b (tD X.K W (den F cb))) (hs:starEach [a,b] X.env=[(false,eval a X.env),(false,eval b X.env)]) (hs2:starEach [b] X.env=[(false,eval b X.env)])
    (ho:starEach [.Call (.Name "range" q) [a,b] [] ppos] X.env=[(false,eval (.Call (.Name "range" q) [a,b] [] ppos) X.env)]):PE X (.Call (.Name "list" p) [.Call (.Name "range" q) [a,b] [] ppos] [] pos) (tD X.K W (den F (.bi .lrng ca cb))):=by
  refine qJY (qN1 hc hgl hml hgr hmr (L2.pa_cons ha (L2.pa_cons hb L2.pa_nil (by rw [hs2];rfl)) (by rw [hs,hs2])) hs hs2 ho) fun x y H Q z=>?_
  obtain ⟨w,ρ,h,d,e,r,hd,he,p⟩:=z
  cases d with
  | int i =>
    cases e with
    | int j =>
      cases hd
      cases he
      have p:PostV X.K w Q ρ H (if qAE i∧qAE j then newL (qAK i (j-i).toNat) h else .bad):=p
      obtain ⟨hz,p⟩:=PostV.ite p
      have pv:=PostV.newL p r (qIW i (j-i).toNat)
      unfold qAE at hz
      exact ⟨i,j,rfl,by omega,by simpa using pv.1,pv.2⟩
    | _=>exact (show False from p).elim
  | _=>exact (show False from p).elim
end
end Fy
set_option Elab.async false
set_option linter.all false
set_option maxRecDepth 100000
set_option maxHeartbeats 4000000
namespace Fy
open PySem PySem.Spec PyProof.Rows
open L2 (V Hp HO VK TE TT TA TS TI Cx Inv RelV Vals SqL SqT Rd upd qAB qAC PE PT PA PS PSs EP PI PG PIE Turn FpOk Ends Un HOk frs)
section
variable {prog:Program} {w:World} {A:Around} {R:Result→Shared→Prop} {s:Shared}
theorem qGf {elt target iter:Expr} {ifs:List Expr} {scope:Scope} {pos:Pos} {it acc:Value} {env:PySem.Env} (I:Nat→Shared→Prop)
    (turn:∀ n s,I n s→wpAny (model prog w) A (pyNext it) (fun r s₁=>match r with
      | none=>R (.ok .next) s₁
      | some v=>wpAny (model prog w) A (letOwnedTupleGo target it v) (fun _ s₁'=>wpAny (model prog w) A (assign target env v) (fun _ s₂ =>
          wpAny (model prog w) A (forIn ifs true fun c r=>if r=true then do let ok ← isTrue c env (eval c env);pure (ForInStep.yield ok) else pure (ForInStep.yield r)) (fun ok s₃ =>
            if ok=true then wpAny (model prog w) A (eval elt env) (fun x s₄ =>
              wpAny (model prog w) A (call (.builtin "list.append") [acc,x]) (fun _ s₅=>∃ m,m<n∧I m s₅) (notedBy (model prog w) A env fun e s'=>R (.error e) s') s₄) (notedBy (model prog w) A env fun e s'=>R (.error e) s') s₃
            else ∃ m,m<n∧I m s₃) (notedBy (model prog w) A env fun e s'=>R (.error e) s') s₂) (notedBy (model prog w) A env fun e s'=>R (.error e) s') s₁') (notedBy (model prog w) A env fun e s'=>R (.error e) s') s₁) (notedBy (model prog w) A env fun e s'=>R (.error e) s') s)
    (n:Nat) (h:I n s):codeAny (model prog w) A (.compLoop (.ListComp elt [⟨target,iter,ifs,0⟩] scope pos) 0 it acc env) R s:=by
  refine codeAny_loop rfl I (fun n s hI=>?_) n h
  show wpAny _ A ((compTurn (.ListComp elt [⟨target,iter,ifs,0⟩] scope pos) 0 it acc env).onRaise (fun x=>do noteFrame x env;theTreesLotGoes x)) _ _ s
  refine wpAny_noted ?_
  rw [compTurn_list]
  refine wpAny_bind (wpAny_standAt (wpAny_bind (wpAny_mono (turn n s hI) (fun r s₁ h₁=>?_) fun _ _ h'=>h')))
  cases r with
  | none=>exact wpAny_pure h₁
  | some v =>
    refine wpAny_bind (wpAny_mono h₁ (fun _ s₁' h₁'=>?_) fun _ _ h'=>h')
    refine wpAny_bind (wpAny_mono h₁' (fun _ s₂ h₂=>wpAny_bind (wpAny_mono h₂ (fun ok s₃ h₃=>?_) fun _ _ h'=>h')) fun _ _ h'=>h')
    cases ok with
    | false=>exact wpAny_pure ⟨rfl,h₃⟩
    | true =>
      exact wpAny_bind (wpAny_bind (wpAny_mono h₃ (fun x s₄ h₄=>wpAny_bind (wpAny_mono h₄ (fun _ s₅ h₅=>wpAny_pure (wpAny_pure ⟨rfl,h₅⟩)) fun _ _ h'=>h')) fun _ _ h'=>h'))
end
theorem qDA {env:PySem.Env}:∀ (names:List (Str × NameKind)) (acc:List (Str × Addr)),(∀ y∈names,y.2=.free→∃ c,env.cells.lookup y.1=some c)→(∀ y c,acc.lookup y=some c→env.cells.lookup y=some c) →
    ∃ cl,(forIn names acc fun (p:Str × NameKind) (r:List (Str × Addr))=>(do if (p.2 == NameKind.free)=true then (do let a ← cellOf env p.1;pure (ForInStep.yield ((p.1,a)::r))) else pure (ForInStep.yield r):Sem (ForInStep (List (Str × Addr)))))=(pure cl:Sem (List (Str × Addr))) ∧
      (∀ y c,cl.lookup y=some c→env.cells.lookup y=some c)∧(∀ y∈names,y.2=.free→∃ c,cl.lookup y.1=some c)∧∀ y c,acc.lookup y=some c→∃ c,cl.lookup y=some c
  | [],acc,_,ha=>⟨acc,rfl,ha,fun _ h=>absurd h (by simp),fun y c h=>⟨c,h⟩⟩
  | (n,k)::r,acc,hn,ha=>by
    by_cases hk:k=.free
    · subst hk
      obtain ⟨c,hc⟩:=hn (n,.free) (List.mem_cons_self ..) rfl
      have ha':∀ y d,((n,c)::acc).lookup y=some d→env.cells.lookup y=some d:=fun y d h=>by
        rw [List.lookup_cons] at h
        cases q:(y == n) with
        | true =>
          rw [q] at h
          cases h
          have:y=n:=by simpa using q
          rw [this]
          exact hc
        | false=>rw [q] at h;exact ha y d h
      obtain ⟨cl,h1,h2,h3,h4⟩:=qDA r ((n,c)::acc) (fun y hy=>hn y (List.mem_cons_of_mem _ hy)) ha'
      have hl:((n,c)::acc).lookup n=some c:=by rw [List.lookup_cons];simp
      refine ⟨cl,?_,h2,fun y hy hf=>?_,fun y d hd=>?_⟩
      · rw [List.forIn_cons]
        have e:cellOf env n=pure c:=by unfold cellOf;rw [hc]
        simp only [beq_self_eq_true,if_true,e]
        exact h1
      · rcases List.mem_cons.mp hy with rfl | hy
        · exact h4 n c hl
        · exact h3 y hy hf
      · by_cases q:y=n
        · subst q
          exact h4 y c hl
        · refine h4 y d ?_
          rw [List.lookup_cons]
          have:(y == n)=false:=by simpa using q
          rw [this]
          exact hd
    · obtain ⟨cl,h1,h2,h3,h4⟩:=qDA r acc (fun y hy=>hn y (List.mem_cons_of_mem _ hy)) ha
      refine ⟨cl,?_,h2,fun y hy hf=>?_,h4⟩
      · rw [List.forIn_cons]
        have e:(k == NameKind.free)=false:=by simpa using hk
        simp only [e,Bool.false_eq_true,if_false]
        exact h1
      · rcases List.mem_cons.mp hy with rfl | hy
        · exact absurd hf hk
        · exact h3 y hy hf
theorem qFC {env:PySem.Env} {scope:Scope} (hn:∀ y∈scope.names,y.2=.free→∃ c,env.cells.lookup y.1=some c) :
    ∃ cl,closureFor scope env=pure cl∧(∀ y c,cl.lookup y=some c→env.cells.lookup y=some c)∧∀ y∈scope.names,y.2=.free→∃ c,cl.lookup y.1=some c:=by
  obtain ⟨cl,h1,h2,h3,_⟩:=qDA (env:=env) scope.names [] hn (fun _ _ h=>nomatch h)
  refine ⟨cl,?_,h2,h3⟩
  exact (congrArg (fun t:Sem (List (Str × Addr))=>t >>= fun z=>pure z) h1).trans rfl
end Fy
set_option Elab.async false
set_option linter.all false
set_option maxRecDepth 100000
set_option maxHeartbeats 4000000
namespace Fy
open PySem PySem.Spec PyProof.Rows
open L2 (V Hp HO VK TE TT TA TS TI Cx Inv RelV Vals SqL SqT Rd upd qAB qAC PE PT PA PS PSs EP PI PG PIE Turn FpOk Ends Un HOk frs)
noncomputable abbrev noN:Str:=""
noncomputable def maskN (N:List Str) (x:Str):List Str:=N.map fun y=>if y=x then noN else y
theorem qDf (N:List Str) (x:Str):(maskN N x).length=N.length:=by unfold maskN;simp
theorem qKS {N:List Str} {x y:Str} {i:Nat} (h:(maskN N x)[i]?=some y):(N[i]?=some y∧y≠x)∨(N[i]?=some x∧y=noN):=by
 unfold maskN at h
 rw [List.getElem?_map] at h
 cases q:N[i]? with
 | none=>rw [q] at h;cases h
 | some z =>
  rw [q] at h
  have h:(if z=x then noN else z)=y:=Option.some.inj h
  by_cases e:z=x
  ·rw [if_pos e] at h
   exact .inr ⟨by rw [e],h.symm⟩
  ·rw [if_neg e] at h
   exact .inl ⟨by rw [h],h ▸ e⟩
theorem qIt {N:List Str} {x:Str} (nd:N.Nodup) (h1:x≠noN) (h2:x∈N→noN∉N):(maskN N x++[x]).Nodup:=by
 have inj:∀ a∈N,∀ b∈N,(if a=x then noN else a)=(if b=x then noN else b)→a=b:=fun a ha b hb e=>by
  by_cases ea:a=x
  ·by_cases eb:b=x
   ·rw [ea,eb]
   ·rw [if_pos ea,if_neg eb] at e
    exact absurd (e ▸ hb) (h2 (ea ▸ ha))
  ·by_cases eb:b=x
   ·rw [if_neg ea,if_pos eb] at e
    exact absurd (e ▸ ha) (h2 (eb ▸ hb))
   ·rw [if_neg ea,if_neg eb] at e
    exact e
 rw [List.nodup_append]
 refine ⟨?_,by simp,fun a ha b hb z=>?_⟩
 ·unfold maskN
  clear h1 h2
  induction N with
  | nil=>simp
  | cons c r ih =>
   rw [List.nodup_cons] at nd
   rw [List.map_cons,List.nodup_cons]
   refine ⟨fun hm=>?_,ih nd.2 fun a ha b hb=>inj a (List.mem_cons_of_mem _ ha) b (List.mem_cons_of_mem _ hb)⟩
   obtain ⟨d,hd,e⟩:=List.mem_map.mp hm
   have:=inj d (List.mem_cons_of_mem _ hd) c (List.mem_cons_self ..) e
   exact nd.1 (this ▸ hd)
 ·rw [List.mem_singleton.mp hb] at z
  subst z
  unfold maskN at ha
  obtain ⟨d,hd,e⟩:=List.mem_map.mp ha
  have e:(if d=a then noN else d)=a:=e
  by_cases q:d=a
  ·rw [if_pos q] at e;exact h1 e.symm
  ·rw [if_neg q] at e;exact q e
noncomputable def cxC (X:Cx) (x:Str) (scope:Scope) (cl:List (Str × Addr)) (C:Addr) (s3:Shared) (H3:Hp) (fp:List Addr) (E:Value→Shared→Prop):Cx :=
 { X with N:=maskN X.N x++[x],s₀:=s3,H₀:=H3,env:=compEnvC scope cl C X.env,outer:=X.stack,ex:=fp,fn:=fun _=>false,pn:=[],xe:=E }
structure CompOk (X:Cx) (x:Str) (scope:Scope):Prop where
 kind:scope.kind=.function
 nocell:∀ y∈scope.names,y.2≠.cell
 loc:∀ y∈scope.names,y.2=.local→scope.names.lookup y.1=some .local
 own:scope.names.lookup x=some .local
 free:∀ y∈scope.names,y.2=.free→X.env.kindOf y.1=some .cell∨X.env.kindOf y.1=some .free
 new:x≠noN
 hole:x∈X.N→noN∉X.N∧scope.names.lookup noN=none
 others:∀ y,y≠x→scope.names.lookup y=some .local→y∈X.N→False
section
variable {X:Cx} {x:Str} {scope:Scope} {cl:List (Str × Addr)} {pins:List (Addr × Obj)} {σ:L2.St} {H:Hp} {s:Shared} {fp:List Addr}
theorem qAO {env:PySem.Env} {y:Str} {k:NameKind}:∀ {names:List (Str × NameKind)},(names.map fun (n,k)=>if (k == NameKind.free&&env.scope.kind == .function&&env.kindOf n == some .cell) then (n,NameKind.cell) else (n,k)).lookup y=some k →
    names.lookup y=some k∨(names.lookup y=some .free∧k=.cell)
  | [],h=>by simp at h
  | (n,k')::r,h=>by
    have ih:=@qAO env y k r
    have h:List.lookup y ((if (k' == NameKind.free&&env.scope.kind == .function&&env.kindOf n == some .cell)=true then (n,NameKind.cell) else (n,k'))::(r.map fun (n,k)=>if (k == NameKind.free&&env.scope.kind == .function&&env.kindOf n == some .cell) then (n,NameKind.cell) else (n,k)))=some k:=h
    by_cases hc:(k' == NameKind.free&&env.scope.kind == .function&&env.kindOf n == some .cell)=true
    · rw [if_pos hc,List.lookup_cons] at h
      rw [List.lookup_cons]
      cases q:(y == n) with
      | true =>
        rw [q] at h
        cases h
        have:k'=.free:=by
          simp only [Bool.and_eq_true] at hc
          simpa using hc.1.1
        subst this
        exact .inr ⟨rfl,rfl⟩
      | false=>rw [q] at h;exact ih h
    · rw [if_neg hc,List.lookup_cons] at h
      rw [List.lookup_cons]
      cases q:(y == n) with
      | true=>rw [q] at h;exact .inl h
      | false=>rw [q] at h;exact ih h
theorem qBS {names:List (Str × NameKind)} {y:Str} {k:NameKind} (h:names.lookup y=some k):(y,k)∈names:=PySem.mem_of_lookup h
theorem CompOk.vis (C:CompOk X x scope) {y:Str} (hy:y∈X.N) (hne:y≠x) (hv:L2.Vis (relabel scope X.env) y):(scope.names.lookup y=some .free)∧((relabel scope X.env).names.lookup y=some .cell∨(relabel scope X.env).names.lookup y=some .free):=by
 rcases hv with h | h | h
 ·rcases qAO h with z | ⟨_,z⟩
  ·exact (C.others y hne z hy).elim
  ·cases z
 ·rcases qAO h with z | ⟨z,_⟩
  ·exact absurd rfl (C.nocell _ (qBS z))
  ·exact ⟨z,.inl h⟩
 ·rcases qAO h with z | ⟨z,w⟩
  ·exact ⟨z,.inr h⟩
  ·cases w
theorem qPF {C:Addr} {E:Value→Shared→Prop} (K:CompOk X x scope) (I:Inv X pins σ H s) (hC:C=s.heap.objs.size) (hcl:∀ y c,cl.lookup y=some c→X.env.cells.lookup y=some c) (hfr:∀ y∈scope.names,y.2=.free→∃ c,cl.lookup y.1=some c)
    (hfp:∀ b∈fp,FpOk X pins H b) (hlt:∀ b∈fp,b<s.heap.objs.size):(cxC X x scope cl C s H fp E).Ok where
  mod:=I.mod
  kind:=K.kind
  glob:=I.ok.glob
  blt:=I.ok.blt
  above:=by rw [hC];exact Nat.le_refl _
  inj:=fun y z c h1 h2=>I.ok.inj y z c (hcl y c h1) (hcl z c h2)
  has:=fun y hy=>by
    have hy:(relabel scope X.env).names.lookup y=some .cell∨(relabel scope X.env).names.lookup y=some .free:=hy
    have:scope.names.lookup y=some .free:=by
      rcases hy with h | h
      · rcases qAO h with z | ⟨z,_⟩
        · exact absurd rfl (K.nocell _ (qBS z))
        · exact z
      · rcases qAO h with z | ⟨_,w⟩
        · exact z
        · cases w
    exact hfr _ (qBS this) rfl
  cab:=fun y c h=>by cases h
  hd:=I.ok.hd
  frames:=I.ok.frames
  stk:=.inl rfl
  exf:=fun b hb=>⟨fun z=>by have:=hlt b hb;rw [show b=C from z,hC] at this;exact absurd this (Nat.lt_irrefl _),fun y c h=>(hfp b hb).2.2.2.2.1 y c (hcl y c h)⟩
  bs:=I.bs
  bsz:=Nat.le_trans I.ok.bsz I.sz
  noex:=fun b o e hb=>by
    obtain ⟨_,_,_,f3,_⟩:=hfp b hb
    rcases f3 with z | z
    · exact I.ok.noex b o e z
    · exact absurd (Nat.lt_of_lt_of_le (Heap.lt_size e) (Nat.le_trans I.ok.bsz z)) (Nat.lt_irrefl _)
  exfs:=fun b hb z=>by
    obtain ⟨_,f1,f2,_⟩:=hfp b hb
    rcases List.mem_cons.mp (I.stkSub b z) with q | q
    · exact f1 q
    · exact f2 q
  funs:=I.stack
  frf:=I.stkFree
theorem qMy {C:Addr} {E:Value→Shared→Prop} {h1:Heap} {tk:Nat} (K:CompOk X x scope) (I:Inv X pins σ H s) (hC:C=s.heap.objs.size) (hcl:∀ y c,cl.lookup y=some c→X.env.cells.lookup y=some c) (hfr:∀ y∈scope.names,y.2=.free→∃ c,cl.lookup y.1=some c)
    (hfp:∀ b∈fp,FpOk X pins H b) (hlt:∀ b∈fp,b<s.heap.objs.size) (hns:h1.Ns C fun _=>none) (old:∀ b o,s.heap.get? b=some o→h1.get? b=some o) :
    Inv (cxC X x scope cl C s H fp E) [] (σ++[none]) H { s with heap:=h1,toks:=tk }:=by
  have ok:(cxC X x scope cl C s H fp E).Ok:=qPF K I hC hcl hfr hfp hlt
  have fC:H C=none:=I.hok.fresh (by rw [hC];exact Nat.le_refl _)
  refine ⟨ok,rfl,I.bare,Un.kept old,⟨_,hns,fun i y v e1 e2 e3=>?_⟩,fun y c h=>?_,fC,fun y c h=>I.freeC y c (hcl y c h),fun p hp=>absurd hp (by show p∉([]:List (Addr × Obj))++[];simp),I.hok.kept old,?_⟩
  · have e1:(maskN X.N x++[x])[i]?=some y:=e1
    by_cases hi:i<σ.length
    · rw [List.getElem?_append_left hi] at e2
      rw [List.getElem?_append_left (by rw [qDf,← I.len];exact hi)] at e1
      rcases qKS e1 with ⟨e1,hne⟩ | ⟨e9,rfl⟩
      rotate_left
      · exfalso
        have hz:=(K.hole (List.mem_of_getElem? e9)).2
        rcases e3 with z | z | z
        · rcases qAO z with w | ⟨w,_⟩ <;> (rw [hz] at w;cases w)
        · rcases qAO z with w | ⟨w,_⟩ <;> (rw [hz] at w;cases w)
        · rcases qAO z with w | ⟨w,_⟩ <;> (rw [hz] at w;cases w)
      obtain ⟨hf,hk⟩:=K.vis (List.mem_of_getElem? e1) hne e3
      have ho:=K.free _ (qBS hf) rfl
      obtain ⟨m,hn,hl⟩:=I.loc
      have vo:L2.Vis X.env.scope y:=by
        rcases ho with z | z
        · exact .inr (.inl z)
        · exact .inr (.inr z)
      obtain ⟨u,r,l⟩:=hl i y v e1 e2 vo
      refine ⟨u,r,.inr ⟨hk,?_⟩⟩
      rcases l with ⟨hk',_⟩ | ⟨_,c,hc,o,hoc,hd⟩
      · rcases ho with z | z
        · have z:X.env.kindOf y=some .cell:=z
          rw [hk'] at z;cases z
        · have z:X.env.kindOf y=some .free:=z
          rw [hk'] at z;cases z
      · obtain ⟨c',hc'⟩:=hfr _ (qBS hf) rfl
        have e:=hcl _ _ hc'
        rw [hc] at e
        cases e
        exact ⟨c,hc',o,old _ _ hoc,hd⟩
    · rw [List.getElem?_append_right (Nat.le_of_not_lt hi)] at e2
      cases q:i-σ.length with
      | zero=>rw [q] at e2;cases e2
      | succ n=>rw [q] at e2;simp at e2
  · obtain ⟨v,o,ho,hd⟩:=I.cell y c (hcl y c h)
    exact ⟨v,o,old _ _ ho,hd⟩
  · show (σ++[none]).length=(maskN X.N x++[x]).length
    rw [List.length_append,List.length_append,qDf,I.len]
    rfl
end
end Fy
set_option Elab.async false
set_option linter.all false
set_option maxRecDepth 100000
set_option maxHeartbeats 4000000
namespace Fy
open PySem PySem.Spec PyProof.Rows
open L2 (store_ok V Hp HO VK TE TT TA TS TI Cx Inv RelV Vals SqL SqT Rd upd qAB qAC PE PT PA PS PSs EP TP PI PG PIE Turn FpOk Ends Un HOk frs thn)
noncomputable def optT:Option TT→TT
 | none=>fun _ H Q=>Q true H
 | some t=>t
noncomputable def tComp (K:PySem.W.Frag) (wi:TI) (tt:Option TT) (te:TE):TE:=fun σ H Q=>wi σ H fun J H1=>∀ d,H1 d=none→K.lookup d=none→∃ W:Nat→Nat→Hp→Prop,(∃ m,W 0 m (upd H1 d (.lst [])))∧∀ i m H,W i m H →
 (J.stop i H∧Q (.ref d) H)∨(J.go i H∧∀ x H',J.yld i H x H'→optT tt (σ++[some x]) H' fun b H2=>if b=true then te (σ++[some x]) H2 fun y H3=>∃ ys,H3 d=some (.lst ys)∧ys.length<sizeLine∧∃ m',m'<m∧W (i+1) m' (upd H3 d (.lst (ys++[y]))) else ∃ m',m'<m∧W (i+1) m' H2)
noncomputable def PTs (X:Cx) (ifs:List Expr):Option TT→Prop
 | none=>ifs=[]
 | some t=>∃ c,ifs=[c]∧PT X c t
section
variable {X:Cx} {x:Str} {scope:Scope} {pins:List (Addr × Obj)} {σ:L2.St} {H:Hp} {s:Shared} {elt iter:Expr} {ifs:List Expr} {px pos p:Pos} {wi:TI} {tt:Option TT} {te:TE} {Q:VK}
theorem qJz {t:Option TT} {Q':Bool→Hp→Prop} (h:PTs X ifs t) (I:Inv X pins σ H s) (q:optT t σ H Q') :
    wpAny (model X.prog X.w) X.A (forIn ifs true fun c r=>if r=true then do let ok ← isTrue c X.env (eval c X.env);pure (ForInStep.yield ok) else pure (ForInStep.yield r)) (TP X pins σ Q') X.xe s:=by
  cases t with
  | none =>
    have h:ifs=[]:=h
    subst h
    exact wpAny_tests_nil ⟨H,I,q⟩
  | some t =>
    obtain ⟨c,rfl,hc⟩:=h
    exact wpAny_tests_one (hc pins s σ H Q' I q)
theorem qFq {use:Option (Value→Sem Unit)} {Qf:Value→Shared→Prop} (K:CompOk X x scope) (nd:X.N.Nodup) (hc:X.calm=true) (hi:PI X (.Name x px) iter wi) (hfs:∀ x,foldedSetIterable iter X.env x=pure x)
    (hin:∀ cl C s3 H3 fp E,PE (cxC X x scope cl C s3 H3 fp E) elt te∧PTs (cxC X x scope cl C s3 H3 fp E) ifs tt) (I:Inv X pins σ H s) (h:tComp X.K wi tt te σ H Q)
    (fin:∀ (d C:Addr) (H':Hp) (s':Shared) (m:Str→Option Value),Inv X pins σ H' s'→s'.heap.Ns C m→FpOk X pins H' C→Q (.ref d) H'→compPost (model X.prog X.w) X.A X.xe use Qf (.ref d) C (.ok .next) s') :
    wpAny (model X.prog X.w) X.A (comprehension (.ListComp elt [⟨.Name x px,iter,ifs,0⟩] scope pos) scope X.env p (newList []) false (eval iter X.env) use) Qf X.xe s:=by
  obtain ⟨cl,hclos,hcl,hfr⟩:=qFC (env:=X.env) (scope:=scope) fun y hy hf=>I.ok.has _ (K.free y hy hf)
  refine wpAny_comprehension_free (use:=use) rfl hfs hclos K.kind K.loc (thn (hi pins s σ H _ I h) fun v s1 h1=>thn h1 fun itv s2 h2=>?_)
  obtain ⟨it,fp,tn,J,H2,e,I2,T,st2,f2,hR⟩:=h2
  subst e
  refine wpAny_newObj_type ?_
  obtain ⟨W,⟨m0,w0⟩,turn⟩:=hR s2.heap.objs.size I2.fresh (by
    cases q:X.K.lookup s2.heap.objs.size with
    | none=>rfl
    | some o=>exact absurd (Heap.lt_size (I2.kIn _ o q)) (Nat.lt_irrefl _))
  have I3:=I2.lnew (its:=[]) (ys:=[]) (t':=s2.toks) .nil (Nat.zero_le _)
  have fd:∀ b∈fp,b<s2.heap.objs.size:=fun b hb=>let ⟨o,e,_⟩:=T.obj _ _ st2 b hb;Heap.lt_size e
  have f3:∀ b∈fp,FpOk X pins (upd H2 s2.heap.objs.size (.lst [])) b:=fun b hb=>⟨by rw [qAC (Nat.ne_of_lt (fd b hb))];exact (f2 b hb).1,(f2 b hb).2⟩
  have st3:tn 0 (s2.heap.push { cls:=.type "list",data:=.seq ([]:List Value).toArray }):=T.keep _ _ _ st2 fun b _ o e=>Heap.get?_push_of_some _ e
  generalize hd:s2.heap.objs.size=d at *
  generalize hH3:upd H2 d (.lst [])=H3 at *
  generalize hs3:({ s2 with heap:=s2.heap.push { cls:=.type "list",data:=.seq ([]:List Value).toArray },toks:=s2.toks }:Shared)=s3 at *
  have st3:tn 0 s3.heap:=by rw [← hs3];exact st3
  have lt3:∀ b∈fp,b<s3.heap.objs.size:=fun b hb=>let ⟨o,e,_⟩:=T.obj _ _ st3 b hb;Heap.lt_size e
  refine wpAny_newFunctionEnv K.nocell (by intro y hy;simp at hy) (fun h1 hns hsb=>?_) K.kind
  have old:∀ b o,s3.heap.get? b=some o→h1.get? b=some o:=fun b o e=>hsb.extBut b o (Nat.ne_of_lt (Heap.lt_size e)) (Heap.get?_push_of_some _ e)
  show codeAny _ _ (.compStart (.ListComp elt [⟨.Name x px,iter,ifs,0⟩] scope pos) 0 (.ref it) (.ref d) (compEnvC scope cl s3.heap.objs.size X.env)) (compPost (model X.prog X.w) X.A X.xe use Qf (.ref d) s3.heap.objs.size) _
  generalize hC:s3.heap.objs.size=C at *
  have I4:=qMy (E:=notedBy (model X.prog X.w) X.A (compEnvC scope cl C X.env) fun e s'=>compPost (model X.prog X.w) X.A X.xe use Qf (.ref d) C (.error e) s') (tk:=s3.toks+([]:List (Str × Value)).length) K I3 hC.symm hcl hfr f3 (by rw [hC];exact lt3) hns old
  obtain ⟨hE,hT⟩:=hin cl C s3 H3 fp (notedBy (model X.prog X.w) X.A (compEnvC scope cl C X.env) fun e s'=>compPost (model X.prog X.w) X.A X.xe use Qf (.ref d) C (.error e) s')
  generalize hX:cxC X x scope cl C s3 H3 fp (notedBy (model X.prog X.w) X.A (compEnvC scope cl C X.env) fun e s'=>compPost (model X.prog X.w) X.A X.xe use Qf (.ref d) C (.error e) s')=X' at I4 hE hT
  have pX:X'.prog=X.prog:=by rw [← hX];rfl
  have wX:X'.w=X.w:=by rw [← hX];rfl
  have kX:X'.K=X.K:=by rw [← hX];rfl
  have aX:X'.A=X.A:=by rw [← hX];rfl
  have cX:X'.calm=true:=by rw [← hX];exact hc
  have eX:X'.env=compEnvC scope cl C X.env:=by rw [← hX];rfl
  have xX:X'.xe=notedBy (model X.prog X.w) X.A (compEnvC scope cl C X.env) fun e s'=>compPost (model X.prog X.w) X.A X.xe use Qf (.ref d) C (.error e) s':=by rw [← hX];rfl
  have nX:X'.N=maskN X.N x++[x]:=by rw [← hX];rfl
  have sX:X'.s₀=s3:=by rw [← hX];rfl
  have hX0:X'.H₀=H3:=by rw [← hX];rfl
  have oX:X'.fs=frs X.stack:=by rw [← hX];rfl
  have exX:X'.ex=fp:=by rw [← hX];rfl
  have pnX:X'.pn=[]:=by rw [← hX];rfl
  have lX:X'.env.locals=C:=by rw [eX];rfl
  have slot:X'.N[σ.length]?=some x:=by
    rw [nX,List.getElem?_append_right (by rw [qDf,I3.len];exact Nat.le_refl _),qDf,I3.len]
    simp
  have ndX:X'.N.Nodup:=by
    rw [nX]
    exact qIt nd K.new fun z=>(K.hole z).1
  have locX:L2.Loc X'.env.scope x:=by
    rw [eX]
    exact .inl (lookup_relabel_local K.own)
  have stat:∀ {H':Hp},(∀ b∈fp,H' b=none)→∀ b∈fp,FpOk X' [] H' b:=fun hn b hb=>by
    refine ⟨hn b hb,?_,?_,.inl (by rw [exX];exact hb),fun y c h=>?_,fun p hp=>?_⟩
    · rw [lX]
      exact Nat.ne_of_lt (lt3 b hb)
    · rw [oX]
      intro z
      rcases List.mem_cons.mp (I3.stkSub b z) with q | q
      · exact (f3 b hb).2.1 q
      · exact (f3 b hb).2.2.1 q
    · rw [eX] at h
      exact (f3 b hb).2.2.2.2.1 y c (hcl y c h)
    · rw [pnX] at hp
      simp at hp
  have loop:∀ s':Shared,s'={ s3 with heap:=h1,toks:=s3.toks+([]:List (Str × Value)).length } →
      codeAny (model X.prog X.w) X.A (.compLoop (.ListComp elt [⟨.Name x px,iter,ifs,0⟩] scope pos) 0 (.ref it) (.ref d) (compEnvC scope cl C X.env)) (compPost (model X.prog X.w) X.A X.xe use Qf (.ref d) C) s':=by
    rintro s' rfl
    refine qGf (fun n s'=>∃ i v H',Inv X' [] (σ++[v]) H' s'∧tn i s'.heap∧(∀ b∈fp,H' b=none)∧W i n H') ?_ m0 ⟨0,none,H3,I4,T.keep _ _ _ st3 fun b _ o e=>old b o e,fun b hb=>(f3 b hb).1,w0⟩
    rintro n s4 ⟨i,v4,H4,I4,st4,fr4,w4⟩
    rcases turn i n H4 w4 with ⟨stop,qn⟩ | ⟨go,step⟩
    · have td:=T.done X' pX wX kX cX i [] s4 _ H4 (notedBy (model X.prog X.w) X.A (compEnvC scope cl C X.env) fun e s'=>compPost (model X.prog X.w) X.A X.xe use Qf (.ref d) C (.error e) s') I4 (stat fr4) st4 stop
      rw [aX] at td
      refine thn td fun r s5 ⟨hr,I5⟩=>?_
      subst hr
      obtain ⟨m,hn,_⟩:=I5.loc
      rw [lX] at hn
      have fC:H4 C=none:=by rw [← lX];exact I5.free
      have un:L2.Un (frs X.stack) fp H3 H4 s3.heap s5.heap:=by
        have:=I5.base
        rw [sX,hX0,oX,exX] at this
        exact this
      have IX:Inv X pins σ H4 s5:=I3.call' (by have:=I5.os;rw [sX] at this;exact this) un (by have:=I5.hok;rw [pX,wX] at this;exact this) I5.bare fun b hb=>⟨(f3 b hb).2.2.2.1,(f3 b hb).2.1,(f3 b hb).2.2.2.2.1,(f3 b hb).2.2.2.2.2⟩
      exact fin d C H4 s5 m IX hn (I3.fpOk (by rw [hC];exact Nat.le_refl _) fC) qn
    · have ti:=T.item X' pX wX kX cX i [] s4 _ H4 (notedBy (model X.prog X.w) X.A (compEnvC scope cl C X.env) fun e s'=>compPost (model X.prog X.w) X.A X.xe use Qf (.ref d) C (.error e) s') I4 (stat fr4) st4 go
      rw [aX] at ti
      refine thn ti fun r s5 ⟨u,hr,h5⟩=>?_
      subst hr
      refine thn h5 fun _ s6 ⟨xv,H6,I6,r6,y6,st6,fr6⟩=>?_
      have I6':=I6.pinned (stat fr6) (T.obj _ _ st6)
      have as:=wpAny_assign_Name (pos:=px) (store_ok (M:=model X.prog X.w) (A:=X.A) (E:=notedBy (model X.prog X.w) X.A (compEnvC scope cl C X.env) fun e s'=>compPost (model X.prog X.w) X.A X.xe use Qf (.ref d) C (.error e) s') (Q:=fun _ s7=>Inv X' ([]++L2.pinsAt fp s6.heap) (σ++[some xv]) H6 s7) I6' ndX slot locX r6 (fun s7 I7=>by
        have e:(σ++[v4]).set σ.length (some xv)=σ++[some xv]:=by simp
        rw [e] at I7
        exact I7) (.inr (by rw [eX];exact lookup_relabel_local K.own)))
      rw [eX] at as
      refine thn as fun _ s7 I7=>?_
      have te:=qJz hT I7 (step xv H6 y6)
      rw [pX,wX,aX,xX,eX] at te
      refine thn te fun ok s8 ⟨H8,I8,q8⟩=>?_
      have again:∀ {H9:Hp} {s9:Shared} {k:Nat},Inv X' ([]++L2.pinsAt fp s6.heap) (σ++[some xv]) H9 s9→W (i+1) k H9→∃ i v H',Inv X' [] (σ++[v]) H' s9∧tn i s9.heap∧(∀ b∈fp,H' b=none)∧W i k H':=fun {H9 s9 k} I9 w9=>by
        refine ⟨i+1,some xv,H9,I9.unpinned,T.keep _ _ _ st6 fun b hb o e=>(I9.pin (b,o) (List.mem_append_right _ (List.mem_append_right _ (L2.mem_pinsAt hb e)))).1,fun b hb=>?_,w9⟩
        obtain ⟨o,e,_⟩:=T.obj _ _ st6 b hb
        exact (I9.pin (b,o) (List.mem_append_right _ (List.mem_append_right _ (L2.mem_pinsAt hb e)))).2.1
      cases ok with
      | false =>
        obtain ⟨m',hm,w9⟩:=q8
        exact ⟨m',hm,again I8 w9⟩
      | true =>
        have ev:=hE _ s8 _ H8 _ I8 q8
        rw [pX,wX,aX,xX,eX] at ev
        refine thn ev fun y s9 ⟨yv,H9,I9,r9,ys,hd9,hz,m',hm,w9⟩=>?_
        have ap:=L2.mt_append (X:=X') _ s9 _ H9 (.ref d) [yv] (.ref d) [y] (fun _ H'=>H'=upd H9 d (.lst (ys++[yv]))) I9 rfl (.cons r9 .nil) ⟨d,ys,yv,rfl,rfl,hd9,hz,rfl⟩
        rw [pX,wX,aX,xX] at ap
        refine thn ap fun z s10 ⟨_,H10,I10,_,e10⟩=>?_
        subst e10
        exact ⟨m',hm,again I10 w9⟩
  exact codeAny_compStart_list (loop _ rfl) (T.self _ 0 _ _ _ (T.keep _ _ _ st3 fun b _ o e=>old b o e) (loop _ rfl))
theorem qCd {C:Addr} {h':Heap} {H':Hp} {s':Shared} (I:Inv X pins σ H' s') (f:FpOk X pins H' C) (hs:Heap.SameBut C s'.heap h'):Inv X pins σ H' { s' with heap:=h' } :=
 I.turned (t':=s'.toks) (fun b o hb e=>hs.extBut b o hb e) f.1 f.2.1 f.2.2.2.1 f.2.2.2.2.1 f.2.2.2.2.2
theorem qIc (K:CompOk X x scope) (nd:X.N.Nodup) (hc:X.calm=true) (hi:PI X (.Name x px) iter wi) (hfs:∀ x,foldedSetIterable iter X.env x=pure x)
    (hin:∀ cl C s3 H3 fp E,PE (cxC X x scope cl C s3 H3 fp E) elt te∧PTs (cxC X x scope cl C s3 H3 fp E) ifs tt):PE X (.ListComp elt [⟨.Name x px,iter,ifs,0⟩] scope pos) (tComp X.K wi tt te):=by
  intro pins s σ H Q I h
  rw [eval_ListComp]
  refine qFq (use:=none) K nd hc hi hfs hin I h fun d C H' s' m IX hn f q=>?_
  exact ⟨m,hn,fun h' hs'=>⟨.ref d,H',qCd IX f hs',rfl,q⟩⟩
theorem qIZ {y:Str} {i:Nat} {py spos:Pos} (K:CompOk X x scope) (nd:X.N.Nodup) (hc:X.calm=true) (hi:PI X (.Name x px) iter wi) (hfs:∀ x,foldedSetIterable iter X.env x=pure x)
    (hin:∀ cl C s3 H3 fp E,PE (cxC X x scope cl C s3 H3 fp E) elt te∧PTs (cxC X x scope cl C s3 H3 fp E) ifs tt) (hy:X.N[i]?=some y) (hk:X.env.scope.names.lookup y=some .local)
    (hsw:swapsWith (.ListComp elt [⟨.Name x px,iter,ifs,0⟩] scope pos) (some (.Name y py)) spos.line X.env=pure true) :
    PS X (.Assign [.Name y py] (.ListComp elt [⟨.Name x px,iter,ifs,0⟩] scope pos) spos) (fun D σ H=>tComp X.K wi tt te σ H fun v H'=>D.nx (σ.set i (some v)) H'):=by
  intro pins s σ H D I h
  rw [exec_Assign_Name_used _ _ _ _ hsw]
  refine wpAny_bind (wpAny_standAt (wpAny_bind ?_))
  show wpAny _ X.A (do let _ ← comprehension (.ListComp elt [⟨.Name x px,iter,ifs,0⟩] scope pos) scope X.env _ (newList []) false (eval iter X.env) (some (assign (.Name y py) X.env))) _ _ s
  refine wpAny_bind (wpAny_mono (qFq (use:=some (assign (.Name y py) X.env)) (Qf:=fun _ s'=>L2.SP X pins D .next s') K nd hc hi hfs hin I h fun d C H' s' m IX hn f q=>?_) (fun _ s' hq=>wpAny_pure (wpAny_pure hq)) fun _ _ e=>e)
  obtain ⟨oC,es,ep,hC,hr⟩:=id hn
  have dC:∀ v,oC.data≠.cell v:=fun v z=>by rw [hr.1] at z;cases z
  have IP:Inv X (pins++[(C,oC)]) σ H' s':=IX.pins_of fun p hp=>by
    rcases List.mem_append.mp hp with z | z
    · exact IX.pin p (List.mem_append_right _ z)
    · have e:p=(C,oC):=List.mem_singleton.mp z
      subst e
      exact ⟨hC,f.1,f.2.1,f.2.2.1,dC⟩
  show wpAny _ X.A (assign (.Name y py) X.env (.ref d)) _ _ _
  refine wpAny_assign_Name (store_ok IP nd hy (.inl hk) (v:=.ref d) rfl (fun s7 I7=>?_) (.inr hk))
  have k7:=(I7.pin (C,oC) (List.mem_append_right _ (List.mem_append_right _ (List.mem_singleton.mpr rfl)))).1
  exact ⟨m,⟨oC,es,ep,k7,hr⟩,fun h' hs'=>⟨_,H',qCd I7.unpinned f hs',q⟩⟩
end
end Fy
set_option Elab.async false
set_option linter.all false
set_option maxRecDepth 100000
set_option maxHeartbeats 4000000
namespace Fy
open PySem PySem.Spec PyProof.Rows
open L2 (V Hp HO VK TE TT TA TS TI Cx Inv RelV Vals SqL SqT Rd upd qAB qAC PE PT PA PS PSs EP TP PI PG PIE Turn FpOk Ends HOk frs thn)
noncomputable def ItRep (K:PySem.W.Frag) (ρ:List Addr) (H:Hp):It→L2.It→Prop
 | .row xs,J=>(∀ (i:Nat) ρ' H',Step ρ H ρ' H'→i<xs.length→J.go i H')∧(∀ (i:Nat) ρ' H' x H'',Step ρ H ρ' H'→i<xs.length→J.yld i H' x H''→H''=H'∧∃ d,xs[i]?=some d∧RepV K ρ' H' d x)∧∀ (i:Nat) ρ' H',Step ρ H ρ' H'→i=xs.length→J.stop i H'
 | .live k,J=>∃ a,ρ[k]?=some a∧J=L2.Itl K a
noncomputable def tDI (K:PySem.W.Frag) (W:WX) (m:Env→M It):TI:=fun σ H R=>∃ ρ env h,RepS K ρ H env σ∧RepH K ρ h H∧Post K (W.at σ) (fun ρ' H' r=>∀ J,ItRep K ρ' H' r J→R J H') ρ H (m env h)
theorem PI.imp {X:Cx} {tg e:Expr} {t t':TI} (h:PI X tg e t) (i:∀ σ H R,t' σ H R→t σ H R):PI X tg e t':=fun pins s σ H R I q=>h pins s σ H R I (i σ H R q)
theorem qFR {K:PySem.W.Frag} {ρ:List Addr} {H:Hp} (lo:Int) (n:Nat):ItRep K ρ H (.row (qAK lo n)) (L2.Itr lo n):=by
 have hl:(qAK lo n).length=n:=by unfold qAK;simp
 refine ⟨fun i ρ' H' _ hi=>by rw [hl] at hi;exact hi,fun i ρ' H' x H'' _ hi y=>?_,fun i ρ' H' _ hi=>by rw [hl] at hi;exact Nat.le_of_eq hi.symm⟩
 obtain ⟨rfl,rfl⟩:=y
 rw [hl] at hi
 refine ⟨rfl,.int (lo+i),?_,rfl⟩
 unfold qAK
 rw [List.getElem?_map,List.getElem?_range hi]
 rfl
theorem qLr {K:PySem.W.Frag} {ρ:List Addr} {H:Hp} (x:Tx):ItRep K ρ H (.row (x.map fun c=>D.str [c])) (Its ⟨x.toArray⟩):=by
 have hl:(x.map fun c=>D.str [c]).length=x.toArray.size:=by simp
 refine ⟨fun i ρ' H' _ hi=>by rw [hl] at hi;exact hi,fun i ρ' H' z H'' _ hi y=>?_,fun i ρ' H' _ hi=>by rw [hl] at hi;exact hi⟩
 obtain ⟨rfl,c,hc,rfl⟩:=y
 refine ⟨rfl,.str [c],?_,rfl⟩
 have hc:x.toArray[i]?=some c:=hc
 rw [List.getElem?_map]
 rw [List.getElem?_toArray] at hc
 rw [hc]
 rfl
theorem qLq {K:PySem.W.Frag} {ρ:List Addr} {H:Hp} {xs:List D} {vs:List V} {a:Addr} (ha:SqT K H a vs) (hx:RepL K ρ H xs vs):ItRep K ρ H (.row xs) (L2.Itt K a):=by
 have hl:=hx.length
 refine ⟨fun i ρ' H' e hi=>?_,fun i ρ' H' z H'' e hi y=>?_,fun i ρ' H' e hi=>⟨vs,e.sqt ha,by omega⟩⟩
 ·exact ⟨vs,vs[i]'(by omega),e.sqt ha,by simp [show i<vs.length by omega]⟩
 ·obtain ⟨rfl,y⟩:=y
  have q:xs[i]?=some xs[i]:=by simp [hi]
  obtain ⟨w,h1,h2⟩:=hx.get q
  have y':=y vs (e.sqt ha)
  rw [h1] at y'
  cases y'
  exact ⟨rfl,_,q,h2.mono e _ _⟩
section
variable {X:Cx} {F:Nat→List D→M D} {tg:Expr} {W:WX}
theorem di_of {e:Expr} {c:CE} (he:PE X e (tD X.K W (den F c))):PI X tg e (tDI X.K W (denI F (.of c))):=PI.imp (qN0 he) fun σ H Rr t=>by
 obtain ⟨ρ,env,h,s,r,p⟩:=t
 rw [denI] at p
 refine ⟨ρ,env,h,s,r,Post.bind p fun ρ1 h1 d H1 e1 r1 q v hv=>?_⟩
 cases d with
 | str x=>cases hv;exact .inr (.inr ⟨_,rfl,Post.ret (a:=It.row (x.map fun c=>D.str [c])) q r1 _ (qLr x)⟩)
 | tup xs =>
  obtain ⟨a,vs,rfl,k1,k2⟩:=hv
  exact .inr (.inl ⟨a,rfl,⟨vs,k1⟩,Post.ret (a:=It.row xs) q r1 _ (qLq k1 k2)⟩)
 | ref i =>
  have q:Post X.K (W.at σ) _ ρ1 H1 (match getL h1 i with | some _=>R.ok (It.live i) h1 | none=>.bad):=q
  cases z:getL h1 i with
  | none=>rw [z] at q;exact False.elim q
  | some xs =>
   rw [z] at q
   obtain ⟨a,k1,rfl⟩:=hv
   obtain ⟨b,vs,k2,k3,_⟩:=r1.list z
   rw [k1] at k2
   cases k2
   exact .inl ⟨a,rfl,⟨vs,k3⟩,Post.ret (a:=It.live i) q r1 _ ⟨a,k1,rfl⟩⟩
 | _=>exact False.elim q
theorem qMt {a:Expr} {p1 p2:Pos} {c:CE} (hgl:L2.Gl X "range") (hm:X.mg "range"=none) (he:PE X a (tD X.K W (den F c))) (hst:starEach [a] X.env=[(false,eval a X.env)]) :
    PI X tg (.Call (.Name "range" p1) [a] [] p2) (tDI X.K W (denI F (.rng1 c))):=PI.imp (L2.pi_range1 hgl hm (L2.pa_cons he L2.pa_nil hst) hst) fun σ H R t=>by
  obtain ⟨ρ,env,h,s,r,p⟩:=t
  rw [denI] at p
  refine ⟨ρ,env,h,s,r,Post.bind p fun ρ1 h1 d H1 e1 r1 q v hv=>?_⟩
  cases d with
  | int j =>
    cases hv
    obtain ⟨z,q⟩:=Post.when q
    exact ⟨j,rfl,by have:=z.1;omega,by have:=z.2;omega,Post.ret q r1 _ (qFR 0 j.toNat)⟩
  | _=>exact False.elim q
theorem qMs {a b:Expr} {p1 p2:Pos} {c c':CE} (hgl:L2.Gl X "range") (hm:X.mg "range"=none) (he:PE X a (tD X.K W (den F c))) (he':PE X b (tD X.K W (den F c'))) (hst:starEach [a,b] X.env=[(false,eval a X.env),(false,eval b X.env)]) (hst2:starEach [b] X.env=[(false,eval b X.env)]) :
    PI X tg (.Call (.Name "range" p1) [a,b] [] p2) (tDI X.K W (denI F (.rng2 c c'))):=PI.imp (L2.pi_range2 hgl hm (L2.pa_cons he (L2.pa_cons he' L2.pa_nil hst2) (by rw [hst,hst2])) hst hst2) fun σ H R t=>by
  obtain ⟨ρ,env,h,s,r,p⟩:=t
  rw [denI] at p
  refine ⟨ρ,env,h,s,r,Post.bind p fun ρ1 h1 d H1 e1 r1 q v hv=>?_⟩
  refine ⟨ρ1,env,h1,s.mono e1,r1,Post.bind q fun ρ2 h2 d2 H2 e2 r2 q2 w hw=>?_⟩
  have hv:=hv.mono e2 _ _
  cases d with
  | int i =>
    cases d2 with
    | int j =>
      cases hv
      cases hw
      obtain ⟨z,q⟩:=Post.when q2
      exact ⟨i,j,rfl,⟨by have:=z.1.1;omega,by have:=z.1.2;omega,by have:=z.2.1;omega,by have:=z.2.2;omega⟩,Post.ret q r2 _ (qFR i _)⟩
    | _=>exact False.elim q2
  | _=>exact False.elim q2
end
noncomputable def del (H:Hp) (d:Addr):Hp:=fun b=>if b=d then none else H b
theorem qBZ {H:Hp} {d:Addr}:del H d d=none:=if_pos rfl
theorem qBj {H:Hp} {d b:Addr} (h:b≠d):del H d b=H b:=if_neg h
theorem qCA {H:Hp} {d:Addr} {o:HO}:del (upd H d o) d=del H d:=by
 funext b
 by_cases h:b=d
 ·rw [h,qBZ,qBZ]
 ·rw [qBj h,qBj h,qAC h]
theorem qGA {H:Hp} {d:Addr} {o:HO} (h:H d=some o):upd (del H d) d o=H:=by
 funext b
 by_cases hb:b=d
 ·rw [hb,qAB,h]
 ·rw [qAC hb,qBj hb]
theorem qDh {H:Hp} {d:Addr} (h:H d=none):del H d=H:=by
 funext b
 by_cases hb:b=d
 ·rw [hb,qBZ,h]
 ·rw [qBj hb]
section
variable {K:PySem.W.Frag} {ρ:List Addr} {H:Hp} {d:Addr} {ys:List V}
theorem qLh (hd:H d=some (.lst ys)) {a:Addr} {vs:List V} (h:SqT K H a vs):SqT K (del H d) a vs:=by
 rcases h with (h | ⟨o,h⟩) | h
 ·exact .inl (.inl (by rw [qBj (by rintro rfl;rw [hd] at h;cases h)];exact h))
 ·exact .inl (.inr ⟨o,by rw [qBj (by rintro rfl;rw [hd] at h;cases h)];exact h⟩)
 ·exact .inr h
mutual
theorem RepV.del (hd:H d=some (.lst ys)):∀ (x:D) (v:V),RepV K ρ H x v→RepV K ρ (del H d) x v
 | .non,_,h=>h
 | .bl _,_,h=>h
 | .int _,_,h=>h
 | .str _,_,h=>h
 | .tup xs,v,⟨a,vs,h1,h2,h3⟩=>⟨a,vs,h1,qLh hd h2,RepL.del hd xs vs h3⟩
 | .ref _,_,h=>h
theorem RepL.del (hd:H d=some (.lst ys)):∀ (xs:List D) (vs:List V),RepL K ρ H xs vs→RepL K ρ (del H d) xs vs
 | [],_,h=>h
 | x::xs,_,⟨v,r,h1,h2,h3⟩=>⟨v,r,h1,RepV.del hd x v h2,RepL.del hd xs r h3⟩
end
theorem RepF.del {C:Addr} (hd:H d=some (.lst ys)):∀ (xs:List (Nat × D)) (vs:List (Str × V)),RepF K ρ H C xs vs→RepF K ρ (del H d) C xs vs
 | [],_,h=>h
 | x::xs,_,⟨v,r,h1,hb,hn,h2,h3⟩=>⟨v,r,h1,hb,hn,RepV.del hd _ v h2,RepF.del hd xs r h3⟩
theorem RepK.del (hd:H d=some (.lst ys)):∀ (xs:List (Ky × D)) (vs:List (L2.Key × V)),RepK K ρ H xs vs→RepK K ρ (del H d) xs vs
 | [],_,h=>h
 | x::xs,_,⟨v,r,h1,h2,h3⟩=>⟨v,r,h1,RepV.del hd _ v h2,RepK.del hd xs r h3⟩
theorem RepH.del {h:AH} (r:RepH K ρ h H) (hd:H d=some (.lst ys)) (hn:d∉ρ):RepH K ρ h (del H d):=by
 refine ⟨r.len,fun i o hi=>?_,r.inj⟩
 obtain ⟨a,h1,h2⟩:=r.obj i o hi
 have na:a≠d:=by
  rintro rfl
  exact hn (List.mem_of_getElem? h1)
 refine ⟨a,h1,?_⟩
 cases o with
 | lst xs =>
  obtain ⟨vs,k1,k2⟩:=h2
  exact ⟨vs,by rw [qBj na];exact k1,k2.del hd _ _⟩
 | rol xs =>
  obtain ⟨vs,k1,k2⟩:=h2
  refine ⟨vs,?_,k2.del hd _ _⟩
  rcases k1 with ⟨ob,k1⟩ | k1
  ·exact .inl ⟨ob,by rw [qBj na];exact k1⟩
  ·exact .inr k1
 | ins c fs =>
  obtain ⟨C,dx,vs,k1,kc,k2,k3⟩:=h2
  exact ⟨C,dx,vs,k1,kc,by rw [qBj na];exact k2,k3.del hd _ _⟩
 | dct kvs =>
  obtain ⟨vs,k1,k2⟩:=h2
  exact ⟨vs,by rw [qBj na];exact k1,k2.del hd _ _⟩
 | xc c =>
  obtain ⟨C,k1,k2⟩:=h2
  exact ⟨C,k1,by rw [qBj na];exact k2⟩
theorem Step.del {ρ':List Addr} {H':Hp} (e:Step ρ H ρ' H') (hn:d∉ρ) (hd:H d=some (.lst ys)):Step ρ (del H d) ρ' (del H' d)∧d∉ρ'∧H' d=some (.lst ys):=by
 refine ⟨⟨e.pre,fun a ha=>?_,fun a o h c=>?_⟩,fun z=>?_,e.keep _ _ hd (.inr hn)⟩
 ·rcases e.new a ha with z | z
  ·exact .inl z
  ·refine .inr ?_
   by_cases q:a=d
   ·rw [q];exact qBZ
   ·rw [qBj q];exact z
 ·have na:a≠d:=by
   rintro rfl
   rw [qBZ] at h
   cases h
  rw [qBj na] at h ⊢
  exact e.keep a o h c
 ·rcases e.new d z with q | q
  ·exact hn q
  ·rw [hd] at q;cases q
end
theorem qG7 {α β:Type} (a:α) (f:α→M β):M.bind (M.ret a) f=f a:=rfl
theorem qGQ (f:D→M (Option D)) (x:D) (r acc:List D):(M.bind (qA4 f (x::r)) fun rest=>newL (acc++rest))=M.bind (f x) fun y=>M.bind (qA4 f r) fun rest=>newL ((acc++y.toList)++rest):=by
 rw [qA4,qAa]
 congr 1
 funext y
 rw [qAa]
 congr 1
 funext ys
 rw [qG7]
 cases y <;> simp
section
variable {K:PySem.W.Frag} {F:Nat→List D→M D} {Q:VK} {w:W1} {W:WX}
structure Mid (K:PySem.W.Frag) (ρ1:List Addr) (H1:Hp) (d:Addr) (ρ:List Addr) (h:AH) (acc:List D) (ys:List V) (H:Hp):Prop where
 st:Step ρ1 H1 ρ (del H d)
 nd:d∉ρ
 at':H d=some (.lst ys)
 rh:RepH K ρ h (del H d)
 rl:RepL K ρ (del H d) acc ys
theorem Mid.up {ρ1 ρ:List Addr} {H1 H:Hp} {d:Addr} {h:AH} {acc:List D} {ys:List V} (G0:Mid K ρ1 H1 d ρ h acc ys H):Step ρ (del H d) ρ H:=by
 have:=Step.fresh (ρ:=ρ) (H:=del H d) (p:=d) (o:=.lst ys) qBZ
 rw [qGA G0.at'] at this
 exact this
theorem Mid.rh' {ρ1 ρ:List Addr} {H1 H:Hp} {d:Addr} {h:AH} {acc:List D} {ys:List V} (G0:Mid K ρ1 H1 d ρ h acc ys H):RepH K ρ h H:=by
 have:=G0.rh.fresh (p:=d) (o:=.lst ys) qBZ
 rw [qGA G0.at'] at this
 exact this
theorem Mid.go {ρ1 ρ ρ2:List Addr} {H1 H H2:Hp} {d:Addr} {h h2:AH} {acc:List D} {ys:List V} (G0:Mid K ρ1 H1 d ρ h acc ys H) (e:Step ρ H ρ2 H2) (r:RepH K ρ2 h2 H2):Step ρ (del H d) ρ2 (del H2 d)∧Mid K ρ1 H1 d ρ2 h2 acc ys H2:=by
 obtain ⟨e1,e2,e3⟩:=e.del G0.nd G0.at'
 exact ⟨e1,G0.st.trans e1,e2,e3,r.del e3 e2,G0.rl.mono e1 _ _⟩
theorem Mid.add {ρ1 ρ:List Addr} {H1 H:Hp} {d:Addr} {h:AH} {acc:List D} {ys:List V} {y:D} {v:V} (G0:Mid K ρ1 H1 d ρ h acc ys H) (hv:RepV K ρ H y v):Mid K ρ1 H1 d ρ h (acc++[y]) (ys++[v]) (upd H d (.lst (ys++[v]))):=by
 refine ⟨by rw [qCA];exact G0.st,G0.nd,qAB,by rw [qCA];exact G0.rh,?_⟩
 rw [qCA]
 exact G0.rl.append ⟨v,[],rfl,hv.del G0.at' _ _,rfl⟩
theorem emit {ρ1 ρ:List Addr} {H1 H:Hp} {d:Addr} {h:AH} {acc:List D} {ys:List V} {m:Env→M D} {rest:List D→M D} {env:Env} {σ:L2.St} {W:Hp→Prop} (G0:Mid K ρ1 H1 d ρ h acc ys H) (s:RepS K ρ H env σ) (hz:acc.length<16777216)
    (p:PostV K w Q ρ (del H d) (M.bind (m env).calm (fun y=>rest (acc++[y])) h))
    (hW:∀ ρ' h' acc' ys' H',Mid K ρ1 H1 d ρ' h' acc' ys' H'→acc'.length=acc.length+1→PostV K w Q ρ' (del H' d) (rest acc' h')→W H') :
    tD K WF m σ H fun v H3=>∃ ys,H3 d=some (.lst ys)∧ys.length<sizeLine∧W (upd H3 d (.lst (ys++[v]))):=by
  refine ⟨ρ,env,h,s,G0.rh',?_⟩
  unfold M.bind M.calm at p
  cases q:m env h with
  | ok y h2 =>
    rw [q] at p
    intro ρ2 H2 e2 r2 v hv
    obtain ⟨e3,M2⟩:=G0.go e2 r2
    refine ⟨ys,M2.at',by rw [G0.rl.length,szEq];exact hz,hW ρ2 h2 _ _ _ (M2.add hv) (by simp) ?_⟩
    rw [qCA]
    exact Post.mono p e3
  | exc c h2=>rw [q] at p;exact False.elim p
  | bad=>rw [q] at p;exact p
noncomputable def qJr (K:PySem.W.Frag) (f:Env→D→M (Option D)) (tt:Option TT) (te:TE):Prop :=
 ∀ (w:W1) (Q:VK) (ρ1 ρ:List Addr) (H1 H:Hp) (d:Addr) (h:AH) (acc:List D) (ys:List V) (rest:List D→M D) (env:Env) (σ:L2.St) (W:Hp→Prop) (x:D) (xv:V),Mid K ρ1 H1 d ρ h acc ys H→RepS K ρ H env σ→RepV K ρ H x xv→acc.length<16777216 →
  PostV K w Q ρ (del H d) (M.bind (f env x) (fun y=>rest (acc++y.toList)) h) →
  (∀ ρ' h' acc' ys' H',Mid K ρ1 H1 d ρ' h' acc' ys' H'→acc'.length≤acc.length+1→PostV K w Q ρ' (del H' d) (rest acc' h')→W H') →
  optT tt (σ++[some xv]) H fun b H2=>if b=true then te (σ++[some xv]) H2 fun v H3=>∃ ys,H3 d=some (.lst ys)∧ys.length<sizeLine∧W (upd H3 d (.lst (ys++[v]))) else W H2
theorem RepS.snoc {ρ:List Addr} {H:Hp} {env:Env} {σ:L2.St} {x:D} {xv:V} (s:RepS K ρ H env σ) (hx:RepV K ρ H x xv):RepS K ρ H (env++[some x]) (σ++[some xv]):=by
 refine ⟨by simp [s.1],fun i e hi=>?_⟩
 by_cases hlt:i<env.length
 ·rw [List.getElem?_append_left hlt] at hi
  rw [List.getElem?_append_left (by rw [← s.1];exact hlt)]
  exact s.2 i e hi
 ·rw [List.getElem?_append_right (Nat.le_of_not_lt hlt)] at hi
  rw [List.getElem?_append_right (by rw [← s.1];exact Nat.le_of_not_lt hlt),← s.1]
  cases q:i-env.length with
  | zero =>
   rw [q] at hi
   cases hi
   exact ⟨xv,rfl,hx⟩
  | succ n=>rw [q] at hi;simp at hi
theorem qEV (m:Env→M D):qJr K (fun env x=>compF m env x) none (tD K WF m):=by
 intro w Q ρ1 ρ H1 H d h acc ys rest env σ W x xv G0 s hx hz p hW
 refine L2.iteT (B:=W H) (emit (rest:=rest) G0 (s.snoc hx) hz ?_ fun ρ' h' acc' ys' H' M' hl p'=>hW ρ' h' acc' ys' H' M' (Nat.le_of_eq hl) p')
 have e:(M.bind (compF m env x) fun y=>rest (acc++y.toList))=M.bind (m (env++[some x])).calm fun y=>rest (acc++[y]):=by
  unfold compF
  rw [qAa]
  rfl
 rw [e] at p
 exact p
theorem qFN (m:Env→M D) (c:Env→M Bool):qJr K (fun env x=>qFB m c env x) (some (tDT K WF c)) (tD K WF m):=by
 intro w Q ρ1 ρ H1 H d h acc ys rest env σ W x xv G0 s hx hz p hW
 have p:PostV K w Q ρ (del H d) (M.bind (M.bind (c (env++[some x])).calm fun k=>if k then M.bind (m (env++[some x])).calm (fun y=>M.ret (some y)) else M.ret none) (fun y=>rest (acc++y.toList)) h):=p
 rw [qAa] at p
 refine ⟨ρ,env++[some x],h,s.snoc hx,G0.rh',?_⟩
 unfold M.bind M.calm at p
 cases q:c (env++[some x]) h with
 | ok k h2 =>
  rw [q] at p
  intro ρ2 H2 e2 r2
  obtain ⟨e3,M2⟩:=G0.go e2 r2
  have p:=Post.mono p e3
  cases k with
  | true =>
   refine L2.iteT (emit (rest:=rest) M2 ((s.snoc hx).mono e2) hz ?_ fun ρ' h' acc' ys' H' M' hl p'=>hW ρ' h' acc' ys' H' M' (Nat.le_of_eq hl) p')
   have e:(M.bind (M.bind (m (env++[some x])).calm fun y=>M.ret (some y)) fun y=>rest (acc++y.toList))=M.bind (m (env++[some x])).calm fun y=>rest (acc++[y]):=by
    rw [qAa]
    rfl
   have p':PostV K w Q ρ2 (del H2 d) (M.bind (M.bind (m (env++[some x])).calm fun y=>M.ret (some y)) (fun y=>rest (acc++y.toList)) h2):=p
   rw [e] at p'
   exact p'
  | false =>
   refine L2.iteF (hW ρ2 h2 acc ys H2 M2 (Nat.le_succ _) ?_)
   have p':PostV K w Q ρ2 (del H2 d) (rest (acc++[]) h2):=p
   rw [List.append_nil] at p'
   exact p'
 | exc _ h2=>rw [q] at p;exact False.elim p
 | bad=>rw [q] at p;exact p
theorem compI {f:Env→D→M (Option D)} {tt:Option TT} {te:TE} {mi:Env→M It} (ht:qJr K f tt te) {σ:L2.St} {H:Hp} (t:tD K W (fun env=>M.bind (mi env) fun r=>M.bind (mapIt (f env) r) newL) σ H Q):tComp K (tDI K W mi) tt te σ H Q:=by
 obtain ⟨ρ,env,h,s,r,p⟩:=t
 refine ⟨ρ,env,h,s,r,Post.bind p fun ρ1 h1 it H1 e1 r1 q J hJ d hd hK=>?_⟩
 have s1:=s.mono e1
 have nd:d∉ρ1:=fun z=>by
  obtain ⟨k,hk⟩:=List.getElem?_of_mem z
  have hlt:=(List.getElem?_eq_some_iff.mp hk).1
  obtain ⟨a,h2,h3⟩:=r1.obj k _ (List.getElem?_eq_getElem (by rw [← r1.len];exact hlt))
  rw [hk] at h2
  cases h2
  generalize h1[k]'(by rw [← r1.len];exact hlt)=o at h3
  cases o with
  | lst xs=>obtain ⟨vs,z1,_⟩:=h3;rw [hd] at z1;cases z1
  | rol xs =>
   obtain ⟨vs,z1,_⟩:=h3
   rcases z1 with ⟨ob,z1⟩ | ⟨ob,its,n,z1,_⟩
   ·rw [hd] at z1;cases z1
   ·rw [hK] at z1;cases z1
  | ins c fs=>obtain ⟨C,dx,vs,_,_,z1,_⟩:=h3;rw [hd] at z1;cases z1
  | dct kvs=>obtain ⟨vs,z1,_⟩:=h3;rw [hd] at z1;cases z1
  | xc c=>obtain ⟨C,_,z1⟩:=h3;rw [hd] at z1;cases z1
 have M0:Mid K ρ1 H1 d ρ1 h1 [] [] (upd H1 d (.lst [])):=⟨by rw [qCA,qDh hd];exact Step.refl _ _,nd,qAB,by rw [qCA,qDh hd];exact r1,rfl⟩
 have fin:∀ {w:W1} {ρ' h' acc ys H'},Mid K ρ1 H1 d ρ' h' acc ys H'→PostV K w Q ρ' (del H' d) (newL (acc++[]) h')→Q (.ref d) H':=fun {w ρ' h' acc ys H'} G0 p=>by
  rw [List.append_nil] at p
  have q:=(PostV.newL p G0.rh G0.rl).2 d qBZ
  rw [qGA G0.at'] at q
  exact q
 cases it with
 | row xs =>
  obtain ⟨go,yl,sp⟩:=hJ
  have q:PostV K (W.at σ) Q ρ1 H1 (M.bind (M.when (xs.length<16777216) (qA4 (f env) xs)) newL h1):=q
  have hz:xs.length<16777216:=by
   unfold M.bind M.when at q
   by_cases z:xs.length<16777216
   ·exact z
   ·rw [if_neg z] at q;exact False.elim q
  have q:PostV K (W.at σ) Q ρ1 H1 (M.bind (qA4 (f env) xs) (fun rest=>newL ([]++rest)) h1):=by
   unfold M.bind M.when at q
   rw [if_pos hz] at q
   exact q
  refine ⟨fun i m H'=>m=xs.length-i∧i≤xs.length∧∃ ρ' h' acc ys,Mid K ρ1 H1 d ρ' h' acc ys H'∧acc.length≤i∧PostV K (W.at σ) Q ρ' (del H' d) (M.bind (qA4 (f env) (xs.drop i)) (fun rest=>newL (acc++rest)) h'),⟨_,rfl,Nat.zero_le _,ρ1,h1,[],[],M0,Nat.le_refl _,by rw [qCA,qDh hd];exact q⟩,?_⟩
  rintro i m H' ⟨rfl,hi,ρ',h',acc,ys,G0,ha,p'⟩
  have up:Step ρ1 H1 ρ' H':=G0.st.trans G0.up
  by_cases hlt:i<xs.length
  ·refine .inr ⟨go i ρ' H' up hlt,fun x H'' y=>?_⟩
   obtain ⟨rfl,dx,hdx,hv⟩:=yl i ρ' H' x H'' up hlt y
   rw [List.drop_eq_getElem_cons hlt] at p'
   have ed:xs[i]=dx:=by
    rw [List.getElem?_eq_getElem hlt] at hdx
    exact Option.some.inj hdx
   rw [ed,qGQ] at p'
   exact ht _ Q ρ1 ρ' H1 H'' d h' acc ys (fun a=>M.bind (qA4 (f env) (xs.drop (i+1))) fun rest=>newL (a++rest)) env σ (fun H3=>∃ m',m'<xs.length-i∧m'=xs.length-(i+1)∧i+1≤xs.length∧∃ ρ' h' acc ys,Mid K ρ1 H1 d ρ' h' acc ys H3∧acc.length≤i+1∧PostV K (W.at σ) Q ρ' (del H3 d) (M.bind (qA4 (f env) (xs.drop (i+1))) (fun rest=>newL (acc++rest)) h')) dx x G0 (s1.mono up) hv (by omega) p'
    fun ρ2 h2 acc2 ys2 H2 M2 hl2 p2=>⟨xs.length-(i+1),by omega,rfl,hlt,ρ2,h2,acc2,ys2,M2,by omega,p2⟩
  ·have e:i=xs.length:=by omega
   subst e
   rw [List.drop_length] at p'
   exact .inl ⟨sp _ ρ' H' up rfl,fin G0 p'⟩
 | live k =>
  obtain ⟨a,ha,rfl⟩:=hJ
  have q:PostV K (W.at σ) Q ρ1 H1 (M.bind (M.when (liveN h1 k<16777216) (qAN (f env) k (liveN h1 k) 0)) newL h1):=q
  have hz:liveN h1 k<16777216:=by
   unfold M.bind M.when at q
   by_cases z:liveN h1 k<16777216
   ·exact z
   ·rw [if_neg z] at q;exact False.elim q
  have q:PostV K (W.at σ) Q ρ1 H1 (M.bind (qAN (f env) k (liveN h1 k) 0) (fun rest=>newL ([]++rest)) h1):=by
   unfold M.bind M.when at q
   rw [if_pos hz] at q
   exact q
  generalize liveN h1 k=n at hz q
  refine ⟨fun i m H'=>m+i=n∧∃ ρ' h' acc ys,Mid K ρ1 H1 d ρ' h' acc ys H'∧acc.length≤i∧PostV K (W.at σ) Q ρ' (del H' d) (M.bind (qAN (f env) k m i) (fun rest=>newL (acc++rest)) h'),⟨n,rfl,ρ1,h1,[],[],M0,Nat.le_refl _,by rw [qCA,qDh hd];exact q⟩,?_⟩
  rintro i m H' ⟨hm,ρ',h',acc,ys,G0,hl,p'⟩
  have up:Step ρ1 H1 ρ' H':=G0.st.trans G0.up
  cases m with
  | zero=>exact False.elim p'
  | succ m =>
   have r':=G0.rh'
   cases qg:getL h' k with
   | none =>
    unfold M.bind qAN at p'
    rw [qg] at p'
    exact False.elim p'
   | some xs =>
    obtain ⟨b,vs,h2,h3,h4⟩:=r'.list qg
    rw [qC4 up.pre ha] at h2
    cases h2
    cases qx:xs[i]? with
    | none =>
     refine .inl ⟨⟨vs,h3,?_⟩,fin (w:=W.at σ) G0 ?_⟩
     ·rw [h4.length]
      exact List.getElem?_eq_none_iff.mp qx
     ·unfold M.bind qAN at p'
      simp only [qg,qx] at p'
      exact p'
    | some dx =>
     obtain ⟨w,hw,hv⟩:=h4.get qx
     refine .inr ⟨⟨vs,w,h3,hw⟩,fun x H'' y=>?_⟩
     obtain ⟨rfl,y⟩:=y
     have ew:=y vs h3
     rw [hw] at ew
     cases ew
     have e:M.bind (qAN (f env) k (m+1) i) (fun rest=>newL (acc++rest)) h'=M.bind (f env dx) (fun y=>M.bind (qAN (f env) k m (i+1)) fun rest=>newL ((acc++y.toList)++rest)) h':=by
      have e1:qAN (f env) k (m+1) i h'=M.bind (f env dx) (fun y=>M.bind (qAN (f env) k m (i+1)) fun ys=>M.ret (match y with | some y=>y::ys | none=>ys)) h':=by
       rw [qAN]
       simp only [qg,qx] <;> rfl
      show R.bind (qAN (f env) k (m+1) i h') _=_
      rw [e1]
      show M.bind (M.bind (f env dx) _) (fun rest=>newL (acc++rest)) h'=_
      rw [qAa]
      congr 1
      funext y
      rw [qAa]
      congr 1
      funext ys
      rw [qG7]
      cases y <;> simp
     rw [e] at p'
     exact ht _ Q ρ1 ρ' H1 _ d h' acc ys (fun a=>M.bind (qAN (f env) k m (i+1)) fun rest=>newL (a++rest)) env σ (fun H3=>∃ m',m'<m+1∧m'+(i+1)=n∧∃ ρ' h' acc ys,Mid K ρ1 H1 d ρ' h' acc ys H3∧acc.length≤i+1∧PostV K (W.at σ) Q ρ' (del H3 d) (M.bind (qAN (f env) k m' (i+1)) (fun rest=>newL (acc++rest)) h')) dx _ G0 (s1.mono up) hv (by omega) p'
      fun ρ2 h2 acc2 ys2 H2 M2 hl2 p2=>⟨m,Nat.lt_succ_self _,by omega,ρ2,h2,acc2,ys2,M2,by omega,p2⟩
end
end Fy
set_option Elab.async false
set_option linter.all false
set_option maxRecDepth 100000
set_option maxHeartbeats 4000000
namespace Fy
open PySem PySem.Spec PyProof.Rows
open L2 (V Hp HO VK XK TE TT TA TS TI Cx Inv RelV Vals SqL SqT Rd upd qAB qAC PE PT PA PS PSs EP TP PI PG PIE Turn FpOk Ends HOk frs thn)
noncomputable def CXD (P:Program) (w:World) (ex:Nat→Option Addr):L2.CXT:=fun outer H s E e s' =>
 ∃ (a C:Addr) (c:Nat) (B:Heap) (a0:Value) (H':Hp),e=.ref a∧ex c=some C∧Heap.FlyingW B outer a (.ref C) a0 s'.heap∧HOk P w H' B ∧
  (∀ b o,s.heap.get? b=some o→b∉frs outer→∃ o',B.get? b=some o')∧L2.Un (frs outer) [] H H' s.heap s'.heap∧s'.os=s.os∧AllBare s'.gens∧E e (some c) H'
theorem CXD.imp {P:Program} {w:World} {ex:Nat→Option Addr} {outer:List PySem.Env} {H:Hp} {s s':Shared} {E E':XK} {e:Value} (x:CXD P w ex outer H s E e s') (h:∀ e c H',E e c H'→E' e c H'):CXD P w ex outer H s E' e s':=by
 obtain ⟨a,C,c,B,a0,H',h1,h2,h3,h4,h5,h6,h7,h8,h9⟩:=x
 exact ⟨a,C,c,B,a0,H',h1,h2,h3,h4,h5,h6,h7,h8,h _ _ _ h9⟩
section
variable {fs:List Addr} {H H':Hp} {h0 h1 h' B:Heap} {l:List PySem.Env}
theorem qIC (u:L2.Un (frs l) [] H H' h0 h1) (hB:B.StaysIn h1) (cov:∀ b o,h0.get? b=some o→b∉frs l→∃ o',B.get? b=some o') (fr:h1.FunFrames B l) (hB':B.StaysIn h') (up:h1.UpToSlots h'):L2.Un (frs l) [] H H' h0 h' where
 keep:=fun b o e n hb hx=>by
  obtain ⟨o',e'⟩:=cov b o e hb
  have k1:=u.keep b o e n hb hx
  have k2:=hB b o' e'
  rw [k1] at k2
  cases k2
  exact hB' b o e'
 slot:=fun b o e n hb hx=>by
  obtain ⟨sl,k1⟩:=u.slot b o e n hb hx
  obtain ⟨_,o2,k2,k3⟩:=fr.mem hb
  rw [k1] at k2
  cases k2
  obtain ⟨sl',k4⟩:=up b _ k1 k3
  exact ⟨sl',k4⟩
 free:=u.free
 there:=fun b o e hx=>by
  by_cases hb:b∈frs l
  ·obtain ⟨_,o2,k2,k3⟩:=fr.mem hb
   obtain ⟨sl',k4⟩:=up b _ k2 k3
   exact ⟨_,k4⟩
  ·obtain ⟨o',e'⟩:=cov b o e hb
   exact ⟨o',hB' b o' e'⟩
 tups:=u.tups
 frzs:=u.frzs
 tbls:=u.tbls
theorem qID {fs':List Addr} (u:L2.Un fs' [] H H' h0 h') (hs:∀ b∈fs',b∉fs→h0.get? b=none):L2.Un fs [] H H' h0 h' where
 keep:=fun b o e n hb hx=>u.keep b o e n (fun z=>by rw [hs b z hb] at e;cases e) hx
 slot:=fun b o e n hb hx=>u.any e n hx
 free:=u.free
 there:=u.there
 tups:=u.tups
 frzs:=u.frzs
 tbls:=u.tbls
end
theorem funFrames_hide' {base h:Heap} {as:List Addr} {l:List PySem.Env} (x:h.FunFrames base l) (ha:∀ b∈frs l,b∈as):h.FunFrames (PySem.W.hideAll h as) l :=
 PySem.W.funFrames_hide x fun env he a ha'=>ha a (List.mem_filterMap.mpr ⟨env,he,ha'⟩)
section
variable {X:Cx} {pins:List (Addr × Obj)} {σ:L2.St} {H:Hp} {s s':Shared} {ex:Nat→Option Addr}
theorem qEq {k:Nat} {f:Addr} {fd:FuncData} {ps:List Str} {sp:L2.Sp} {E:XK} {Q:VK} {us:List Value} {vs:List V} (F:L2.FnOk X.prog X.w X.K X.mg X.base (CXD X.prog X.w ex) k f fd ps sp) (hr:L2.Room k X.A) (hb:L2.Binds X.K fd ps [])
    (hx:∀ e s',CXD X.prog X.w ex X.stack H s E e s'→X.xe e s') (I:Inv X pins σ H s) (r:Vals vs us) (h:sp vs H Q E):wpAny (model X.prog X.w) X.A (call (.ref f) us) (EP X pins σ Q) X.xe s:=by
  have hl:us.length=ps.length:=by rw [← r.length];exact F.len _ _ _ _ h
  have hb':=hb s us I.kIn (by rw [List.append_nil];exact hl)
  rw [List.append_nil] at hb'
  refine wpAny_call (codeAny_mono (F.run X.A X.stack s H ⟨us,[]⟩ us vs Q E hr I.env0 hb' r h) fun r s' hq=>?_)
  cases r with
  | error e=>exact hx e s' hq
  | ok fl =>
    cases fl with
    | ret u=>exact I.after hq
    | next=>exact False.elim hq
    | brk=>exact False.elim hq
    | cont=>exact False.elim hq
end
section
variable {P:Program} {w:World} {K:PySem.W.Frag} {mg:Str→Option Value} {base:Heap} {N:List Str} {qual:Str} {scope:Scope} {f:Addr} {cd:Value} {A:Around} {outer:List PySem.Env} {s0:Shared} {H0:Hp} {E:XK} {ex:Nat→Option Addr}
variable {pins:List (Addr × Obj)} {σ:L2.St} {H:Hp} {s s':Shared}
noncomputable abbrev cxX (ex:Nat→Option Addr) (P:Program) (w:World) (K:PySem.W.Frag) (mg:Str→Option Value) (base:Heap) (N:List Str) (qual:Str) (scope:Scope) (f:Addr) (cd:Value) (A:Around) (outer:List PySem.Env) (s0:Shared) (H0:Hp) (E:XK):Cx:=L2.cxOf (CXD P w ex) P w K mg base N qual scope f cd A outer s0 H0 E
theorem qK8 {h':Heap} {H':Hp} (I:Inv (cxX ex P w K mg base N qual scope f cd A outer s0 H0 E) pins σ H s) (u:L2.Un (frs (cxX ex P w K mg base N qual scope f cd A outer s0 H0 E).stack) [] H H' s.heap h'):L2.Un (frs outer) [] H0 H' s0.heap h':=by
 have b1:L2.Un (frs outer) [] H0 H s0.heap s.heap:=I.base
 have b2:=b1.mono (fs':=frs (cxX ex P w K mg base N qual scope f cd A outer s0 H0 E).stack) (ex':=[]) (fun b hb=>by
  show b∈frs (envOfC qual scope s0.heap.objs.size f cd::outer)
  exact List.mem_cons_of_mem _ hb) fun _ z=>z
 refine qID (b2.trans u) fun b hb hn=>?_
 rcases List.mem_cons.mp (show b∈s0.heap.objs.size::frs outer from hb) with rfl | z
 ·cases q:s0.heap.get? s0.heap.objs.size with
  | none=>rfl
  | some o=>exact absurd (Heap.lt_size q) (Nat.lt_irrefl _)
 ·exact absurd z hn
theorem qIf {B:Heap} (I:Inv (cxX ex P w K mg base N qual scope f cd A outer s0 H0 E) pins σ H s) (cov:∀ b o,s.heap.get? b=some o→b∉frs (cxX ex P w K mg base N qual scope f cd A outer s0 H0 E).stack→∃ o',B.get? b=some o') :
    ∀ b o,s0.heap.get? b=some o→b∉frs outer→∃ o',B.get? b=some o':=fun b o e hb=>by
  have b1:L2.Un (frs outer) [] H0 H s0.heap s.heap:=I.base
  obtain ⟨o1,e1⟩:=b1.there b o e (by simp)
  refine cov b o1 e1 fun z=>?_
  rcases List.mem_cons.mp (show b∈s0.heap.objs.size::frs outer from z) with rfl | z
  · exact absurd (Heap.lt_size e) (Nat.lt_irrefl _)
  · exact hb z
theorem qI6 {W:WX} {e:Value} (hW:∀ c σ H,W c σ H→∀ e,E e (some c) H) (I:Inv (cxX ex P w K mg base N qual scope f cd A outer s0 H0 E) pins σ H s)
    (x:CXD P w ex (cxX ex P w K mg base N qual scope f cd A outer s0 H0 E).stack H s (fun _ co H'=>∃ c,co=some c∧W c σ H') e s'):(cxX ex P w K mg base N qual scope f cd A outer s0 H0 E).xe e s':=by
  obtain ⟨a,C,c,B,a0,H',rfl,h2,h3,h4,h5,h6,h7,h8,c',e',h9⟩:=x
  cases e'
  have fr:=I.ok.frames
  refine wpAny_leaves_onW (env:=envOfC qual scope s0.heap.objs.size f cd) (outer:=outer) fr rfl h3 fun h' hfl up=>?_
  have un:=qIC h6 h3.1 h5 h3.2.2.1 hfl.1 up
  refine ⟨a,C,c,B,a0,H',rfl,h2,hfl,h4,qIf I h5,qK8 I un,?_,h8,hW c σ H' h9 _⟩
  rw [show ({ s' with heap:=h' }:Shared).os=s'.os from rfl,h7]
  exact I.os
theorem qHs {W:WX} {a C:Addr} {c:Nat} {args:List Value} {h1:Heap} (hW:∀ c σ H,W c σ H→∀ e,E e (some c) H) (I:Inv (cxX ex P w K mg base N qual scope f cd A outer s0 H0 E) pins σ H s) (hc:ex c=some C)
    (m:Heap.MadeExcOf s.heap h1 a (.ref C) args) (hw:W c σ H):(cxX ex P w K mg base N qual scope f cd A outer s0 H0 E).xe (.ref a) { s with heap:=h1 }:=by
  have fr:=I.ok.frames
  have ff:=I.stack
  have hB:(PySem.W.hideAll s.heap (frs (cxX ex P w K mg base N qual scope f cd A outer s0 H0 E).stack)).StaysIn s.heap:=fun b o e=>PySem.W.of_hideAll _ e
  have hcov:∀ b o,s.heap.get? b=some o→b∉frs (cxX ex P w K mg base N qual scope f cd A outer s0 H0 E).stack→∃ o',(PySem.W.hideAll s.heap (frs (cxX ex P w K mg base N qual scope f cd A outer s0 H0 E).stack)).get? b=some o':=fun b o e hb=>⟨o,PySem.W.hideAll_get _ e hb⟩
  have hok:HOk P w H (PySem.W.hideAll s.heap (frs (cxX ex P w K mg base N qual scope f cd A outer s0 H0 E).stack)):=fun b u e=>by
    refine (show L2.ObjOk P w H s.heap b u from I.hok b u e).stay (fun c v hc q=>PySem.W.hideAll_get _ q fun z=>?_) (fun _ q=>q) fun _ _ q=>q
    have n:=I.stkFree c z
    rcases hc with rfl | hc
    · rw [e] at n;cases n
    · rw [hc] at n;cases n
  refine wpAny_leaves_madeW (env:=envOfC qual scope s0.heap.objs.size f cd) (outer:=outer) fr rfl hB (funFrames_hide' ff fun _ z=>z) m fun h' t hfl _ _ up=>?_
  have up':s.heap.UpToSlots h':=(Heap.UpToSlots.of_keeps m.keeps).trans up
  have un:=qIC (L2.Un.refl (fs:=frs (cxX ex P w K mg base N qual scope f cd A outer s0 H0 E).stack) (ex:=[]) (H:=H) (h:=s.heap)) hB hcov (funFrames_hide' ff fun _ z=>z) hfl.1 up'
  exact ⟨a,C,c,_,_,H,rfl,hc,hfl,hok,qIf I hcov,qK8 I un,I.os,I.bare,hW c σ H hw _⟩
end
end Fy
set_option Elab.async false
set_option linter.all false
set_option maxRecDepth 100000
set_option maxHeartbeats 4000000
namespace Fy
open PySem PySem.Spec PyProof.Rows
open L2 (V Hp HO VK XK TE TT TA TS TI Cx Inv RelV Vals SqL SqT Rd upd qAB qAC PE PT PA PS PSs EP TP PI PG PIE Turn FpOk Ends HOk frs thn)
noncomputable def isXC (K:PySem.W.Frag) (C:Addr):Bool:=PySem.W.excIn K C [.type "ValueError",.type "Exception",.type "BaseException",.type "object"] "ValueError.__new__"
theorem qNB {K:PySem.W.Frag} {h:Heap} {C:Addr} (X:K.In h) (q:isXC K C=true):∃ nm qn N bs bm hdct sn sub ab col dd k0 k1 k2 k3 k5 mN,h.get? C=some (excClassObj nm qn C N bs bm hdct sn sub ab col dd k0 k1 k2 k3 k5 "ValueError.__new__")∧h.Ns N mN∧mN "__init__"=none ∧
    OwnTail h [.type "ValueError",.type "Exception",.type "BaseException",.type "object"] bm:=by
  unfold isXC PySem.W.excIn at q
  cases hl:K.lookup C with
  | none=>rw [hl] at q;cases q
  | some ob =>
    rw [hl] at q
    have at':=X C ob hl
    split at q
    · rename_i dx cx sx eqo
      cases eqo
      split at q
      · rename_i Cx' tl w0 w1 w2 w3 nn w5 emro eslots
        simp only [Bool.and_eq_true,beq_iff_eq,Bool.not_eq_true'] at q
        obtain ⟨⟨⟨⟨⟨q1,q2⟩,q3⟩,q4⟩,q5⟩,q6⟩:=q
        obtain ⟨xa,xb,xc,xd,xe,xf,xg,xh,xi,xj,xk⟩:=cx
        simp only at emro q3 q5 q6
        subst q1 q2 emro q3
        have es:sx=#[w0,w1,w2,w3,some (.builtin "ValueError.__new__"),w5]:=by
          cases sx with
          | mk l=>exact congrArg Array.mk eslots
        subst es
        exact ⟨xa,xe,xd,xb,tl,xf,xg,xh,xi,xj,dx,w0,w1,w2,w3,w5,_,at',.of_isNs (PySem.W.isNs_of_in X q5),PySem.W.nsMap_none_of_in X q5 q6,PySem.W.tail_of_in X q4⟩
      · cases q
    · cases q
section
variable {X:Cx} {F:Nat→List D→M D} {B:Nat} {W:WX} {ex:Nat→Option Addr}
theorem qLp {x:Str} {C:Addr} {c:Nat} {msg:Str} {j:Nat} {np mp cpos pos:Pos} (hc:X.calm=true) (hg:L2.Gl X x) (hdb:(x == ("__debug__":Str))=false) (hm:X.mg x=some (.ref C)) (hK:isXC X.K C=true)
    (hx:∀ pins σ H s a args h',Inv X pins σ H s→Heap.MadeExcOf s.heap h' a (.ref C) args→W c σ H→X.xe (.ref a) { s with heap:=h' }) :
    PS X (.Raise (some (.Call (.Name x np) [.Constant (.str msg) j mp] [] cpos)) none pos) (tDS X.K W (denS F B (.raise c))):=by
  intro pins s σ H E I t
  obtain ⟨ρ,env,h,st,r,p⟩:=t
  have hw:W c σ H:=p ρ H σ (Step.refl _ _) r st
  obtain ⟨nm,qn,N,bs,bm,hdct,sn,sub,ab,col,dd,k0,k1,k2,k3,k5,mN,hC,hN,hni,T⟩:=qNB I.ok.mod.kin hK
  refine wpAny_Raise_call_subU (C:=C) (nm:=nm) (q:=qn) (N:=N) (bs:=bs) (bm:=bm) (hdct:=hdct) (sn:=sn) (sub:=sub) (ab:=ab) (col:=col) (dd:=dd) (k0:=k0) (k1:=k1) (k2:=k2) (k3:=k3) (k5:=k5) PySem.F.excBase_ValueError (by decide) PySem.F.excBase_ValueError (mN:=mN) (T.hasType PySem.F.excBase_ValueError.hasBase) (I.ok.hd hc) rfl hni
    (L2.ld_glob I hg hm ⟨rfl,?_⟩ hdb)
  refine Calls.evalArgs_plain ?_
  have pa:PA X [.Constant (.str msg) j mp] (L2.tCons (L2.tC (.str msg)) L2.tNil):=L2.pa_cons L2.pe_str L2.pa_nil
  refine thn (pa cpos pins s σ H (fun vs H'=>vs.length≤1∧H'=H) I ⟨Nat.le_refl _,rfl⟩) fun us s2 ⟨vs,H2,I2,rv,hl,e2⟩=>?_
  subst e2
  exact ⟨rfl,by rw [← rv.length];exact Nat.le_trans hl (by decide),I2.bk _ _ hC,hN.keeps I2.bk,T.keeps I2.bk,fun h' e m=>hx pins σ H2 s2 e us h' I2 m hw⟩
end
end Fy
set_option Elab.async false
set_option linter.all false
set_option maxRecDepth 100000
set_option maxHeartbeats 4000000
namespace Fy
open PySem PySem.Spec PyProof.Rows
open L2 (V Hp HO VK XK TE TT TA TS TI Cx Inv RelV Vals SqL SqT Rd upd qAB qAC PE PT PA PS PSs EP TP SP PI PG PIE Turn FpOk Ends HOk frs thn)
noncomputable abbrev hold (X:Cx) (pins:List (Addr × Obj)) (E:Value→Shared→Prop):Cx:={ X with pn:=X.pn++pins,xe:=E }
noncomputable abbrev mark (X:Cx) (e:Value):Cx:={ X with A:=X.A.mark (some e),calm:=false,xe:=fun _ _=>False }
section
variable {X:Cx} {pins pins':List (Addr × Obj)} {σ:L2.St} {H:Hp} {s:Shared} {E:Value→Shared→Prop}
theorem qIh (ok:X.Ok):(hold X pins E).Ok:=⟨ok.mod,ok.kind,ok.glob,ok.blt,ok.above,ok.inj,ok.has,ok.cab,ok.hd,ok.frames,ok.stk,ok.exf,ok.bs,ok.bsz,ok.noex,ok.exfs,ok.funs,ok.frf⟩
theorem qFU (ok:(hold X pins E).Ok):X.Ok:=⟨ok.mod,ok.kind,ok.glob,ok.blt,ok.above,ok.inj,ok.has,ok.cab,ok.hd,ok.frames,ok.stk,ok.exf,ok.bs,ok.bsz,ok.noex,ok.exfs,ok.funs,ok.frf⟩
theorem qLy {e:Value} (ok:X.Ok):(mark X e).Ok:=⟨ok.mod,ok.kind,ok.glob,ok.blt,ok.above,ok.inj,ok.has,ok.cab,(fun z=>by cases z),ok.frames,ok.stk,ok.exf,ok.bs,ok.bsz,ok.noex,ok.exfs,ok.funs,ok.frf⟩
theorem Inv.hold (I:Inv X pins σ H s) (E:Value→Shared→Prop):Inv (hold X pins E) [] σ H s:=⟨qIh I.ok,I.os,I.bare,I.base,I.loc,I.cell,I.free,I.freeC,fun p hp=>I.pin p (by simpa using hp),I.hok,I.len⟩
theorem Inv.unhold (I:Inv (Fy.hold X pins E) pins' σ H s):Inv X pins σ H s:=⟨qFU I.ok,I.os,I.bare,I.base,I.loc,I.cell,I.free,I.freeC,fun p hp=>I.pin p (List.mem_append_left _ hp),I.hok,I.len⟩
theorem Inv.mark {e:Value} (I:Inv X pins σ H s):Inv (mark X e) pins σ H s:=⟨qLy I.ok,I.os,I.bare,I.base,I.loc,I.cell,I.free,I.freeC,I.pin,I.hok,I.len⟩
theorem Inv.unmark {e:Value} (I:Inv (Fy.mark X e) pins σ H s) (ok:X.Ok):Inv X pins σ H s:=⟨ok,I.os,I.bare,I.base,I.loc,I.cell,I.free,I.freeC,I.pin,I.hok,I.len⟩
theorem SP.unhold {D:Ends} {f:Flow} {s':Shared} (h:SP (Fy.hold X pins E) pins' D f s'):SP X pins D f s':=by
 cases f with
 | next=>obtain ⟨σ',H',I,q⟩:=h;exact ⟨σ',H',Inv.unhold I,q⟩
 | brk=>obtain ⟨σ',H',I,q⟩:=h;exact ⟨σ',H',Inv.unhold I,q⟩
 | cont=>obtain ⟨σ',H',I,q⟩:=h;exact ⟨σ',H',Inv.unhold I,q⟩
 | ret u=>obtain ⟨v,σ',H',I,r,q⟩:=h;exact ⟨v,σ',H',Inv.unhold I,r,q⟩
theorem SP.unmark {e:Value} {D:Ends} {f:Flow} {s':Shared} (h:SP (Fy.mark X e) pins D f s') (ok:X.Ok):SP X pins D f s':=by
 cases f with
 | next=>obtain ⟨σ',H',I,q⟩:=h;exact ⟨σ',H',Inv.unmark I ok,q⟩
 | brk=>obtain ⟨σ',H',I,q⟩:=h;exact ⟨σ',H',Inv.unmark I ok,q⟩
 | cont=>obtain ⟨σ',H',I,q⟩:=h;exact ⟨σ',H',Inv.unmark I ok,q⟩
 | ret u=>obtain ⟨v,σ',H',I,r,q⟩:=h;exact ⟨v,σ',H',Inv.unmark I ok,r,q⟩
end
theorem qGJ {P:Program} {w:World} {H:Hp} {h:Heap} {a:Addr} {o:HO} (x:L2.ObjOk P w H h a o):∃ ob,h.get? a=some ob:=by
 cases o with
 | lst xs=>obtain ⟨_,_,_,_,e⟩:=x;exact ⟨_,e⟩
 | tup xs=>obtain ⟨_,_,_,ob,e,_⟩:=x;exact ⟨_,e⟩
 | dK kvs=>obtain ⟨_,_,_,_,o,_,_,e,_⟩:=x;exact ⟨_,e⟩
 | dT kvs=>obtain ⟨_,_,_,_,o,_,_,e,_⟩:=x;exact ⟨_,e⟩
 | set S n=>obtain ⟨o,_,_,_,e,_⟩:=x;exact ⟨_,e⟩
 | ins C dx fs=>obtain ⟨_,_,_,e,_⟩:=x;exact ⟨_,e⟩
 | own y=>exact x
 | xd fs=>obtain ⟨_,⟨_,_,_,e,_⟩,_⟩:=x;exact ⟨_,e⟩
 | rng lo hi=>obtain ⟨_,_,_,e⟩:=x;exact ⟨_,e⟩
 | frz ob u=>obtain ⟨e,_⟩:=x;exact ⟨_,e⟩
 | tbl ps=>exact ⟨_,(show h.get? a=some _ from x)⟩
 | met f y=>exact ⟨_,(show h.get? a=some _ from x)⟩
 | ext φ=>obtain ⟨_,⟨_,e⟩,_⟩:=x;exact ⟨_,e⟩
section
variable {X:Cx} {pins:List (Addr × Obj)} {σ:L2.St} {H:Hp} {s:Shared}
theorem Inv.track {a:Addr} {o:HO} (I:Inv X pins σ H s) (hn:H a=none) (h0:X.s₀.heap.get? a=none) (hl:a≠X.env.locals) (hc:∀ x c,X.env.cells.lookup x=some c→c≠a) (hp:∀ p∈X.pn++pins,p.1≠a)
    (new:L2.ObjOk X.prog X.w (upd H a o) s.heap a o):Inv X pins σ (upd H a o) s:=by
  refine ⟨I.ok,I.os,I.bare,⟨I.base.keep,I.base.slot,fun b ob q n hx=>?_,I.base.there,fun b xs q=>?_,fun b ob u q=>?_,fun b ps q=>?_⟩,I.loc,I.cell,?_,fun x c e=>?_,fun p hpp=>?_,fun b u e=>?_,I.len⟩
  · rw [qAC (fun z=>by rw [z,h0] at q;cases q)]
    exact I.base.free b ob q n hx
  · have:=I.base.tups b xs q
    rw [qAC (L2.ne_of_none this hn)]
    exact this
  · have:=I.base.frzs b ob u q
    rw [qAC (L2.ne_of_none this hn)]
    exact this
  · obtain ⟨more,e⟩:=I.base.tbls b ps q
    exact ⟨more,by rw [qAC (L2.ne_of_none e hn)];exact e⟩
  · rw [qAC (Ne.symm hl)]
    exact I.free
  · rw [qAC (hc x c e)]
    exact I.freeC x c e
  · obtain ⟨e,n,ne,nf,d⟩:=I.pin p hpp
    exact ⟨e,by rw [qAC (hp p hpp)];exact n,ne,nf,d⟩
  · by_cases hb:b=a
    · subst hb
      rw [qAB] at e
      cases e
      exact new
    · rw [qAC hb] at e
      exact (I.hok b u e).stay (fun c v _ q=>q) (fun c q=>by rw [qAC (L2.ne_of_none q hn)];exact q) fun c xs q=>by rw [qAC (L2.ne_of_none q hn)];exact q
theorem Inv.blank {h':Heap} {m':Str→Option Value} {tk:Nat} (I:Inv X pins σ H s) (hn':h'.Ns X.env.locals m') (hs:Heap.SameBut X.env.locals s.heap h'):Inv X pins (σ.map fun _=>none) H { s with heap:=h',toks:=tk }:=by
 have cne:=I.cne
 refine ⟨I.ok,I.os,I.bare,⟨fun b o e n hb hx=>?_,fun b o e n hb hx=>?_,I.base.free,fun b o e hx=>?_,I.base.tups,I.base.frzs,I.base.tbls⟩,⟨_,hn',fun j y v' e1 e2 e3=>?_⟩,fun y c e=>?_,I.free,I.freeC,fun p hp=>?_,fun b ob e=>?_,by simpa using I.len⟩
 ·exact (hs.2 b (Nat.ne_of_lt (Nat.lt_of_lt_of_le (Heap.lt_size e) I.ok.above))).trans (I.base.keep b o e n hb hx)
 ·obtain ⟨sl,e1⟩:=I.base.slot b o e n hb hx
  exact ⟨sl,(hs.2 b (Nat.ne_of_lt (Nat.lt_of_lt_of_le (Heap.lt_size e) I.ok.above))).trans e1⟩
 ·obtain ⟨o',e1⟩:=I.base.there b o e hx
  exact ⟨o',(hs.2 b (Nat.ne_of_lt (Nat.lt_of_lt_of_le (Heap.lt_size e) I.ok.above))).trans e1⟩
 ·rw [List.getElem?_map] at e2
  cases q:σ[j]? with
  | none=>rw [q] at e2;cases e2
  | some z=>rw [q] at e2;cases e2
 ·obtain ⟨w',z⟩:=I.cell y c e
  exact ⟨w',z.sameBut hs (cne y c e)⟩
 ·obtain ⟨e,n,ne,nf,d⟩:=I.pin p hp
  exact ⟨(hs.2 p.1 ne).trans e,n,ne,nf,d⟩
 ·have hfree:=I.free
  refine (I.hok b ob e).stay (fun c w' hc q=>(hs.2 c ?_).trans q) (fun _ q=>q) fun _ _ q=>q
  rintro rfl
  rcases hc with rfl | hc
  ·rw [hfree] at e;cases e
  ·rw [hfree] at hc;cases hc
end
section
variable {X:Cx} {F:Nat→List D→M D} {B:Nat} {W:WX} {ex:Nat→Option Addr}
noncomputable def HOf (X:Cx) (F:Nat→List D→M D) (B:Nat) (ex:Nat→Option Addr):List ExceptHandler→CH→Prop
  | [],.nil=>True
  | .ExceptHandler (some (.Name x np)) none body pos::r,.cons cs k r'=>(∃ C,L2.Gl X x∧(x == ("__debug__":Str))=false∧X.mg x=some (.ref C)∧∀ c D,ex c=some D→PySem.W.exmOne X.K (.ref D) (.ref C)=some (cs.contains c)) ∧
      (∃ b0 rest,body=b0::rest)∧(∀ e,PSs (mark X e) body (tDS X.K WF (denS F B k)))∧HOf X F B ex r r'
  | .ExceptHandler (some (.Name x np)) (some n) body pos::r,.as cs i k r'=>(∃ C,L2.Gl X x∧(x == ("__debug__":Str))=false∧X.mg x=some (.ref C)∧∀ c D,ex c=some D→PySem.W.exmOne X.K (.ref D) (.ref C)=some (cs.contains c)) ∧
      (∃ b0 rest,body=b0::rest)∧(X.ex=[]∧X.N.Nodup∧X.N[i]?=some n∧X.env.scope.names.lookup n=some .local∧∀ c C,ex c=some C→ClsAt X.K c C)∧(∀ e,PSs (mark X e) body (tDS X.K WF (denS F B k)))∧HOf X F B ex r r'
  | _,_=>False
structure Look (X:Cx) (ex:Nat→Option Addr) (pins:List (Addr × Obj)) (σ:L2.St) (Hc H:Hp) (s0 s:Shared) (Bs:Heap) (a C:Addr) (a0:Value):Prop where
 inv:Inv X pins σ Hc s0
 fl:Heap.FlyingW Bs X.stack a (.ref C) a0 s.heap
 hok:HOk X.prog X.w H Bs
 cov:∀ b o,s0.heap.get? b=some o→b∉frs X.stack→∃ o',Bs.get? b=some o'
 un:L2.Un (frs X.stack) [] Hc H s0.heap s.heap
 os:s.os=s0.os
 bare:AllBare s.gens
theorem Look.go {pins:List (Addr × Obj)} {σ:L2.St} {Hc H:Hp} {s0 s:Shared} {Bs h':Heap} {a C:Addr} {a0:Value} (L:Look X ex pins σ Hc H s0 s Bs a C a0) (fl:Heap.FlyingW Bs X.stack a (.ref C) a0 h') (up:s.heap.UpToSlots h'):Look X ex pins σ Hc H s0 { s with heap:=h' } Bs a C a0 :=
 ⟨L.inv,fl,L.hok,L.cov,qIC L.un L.fl.1 L.cov L.fl.2.2.1 fl.1 up,L.os,L.bare⟩
theorem Look.now {pins:List (Addr × Obj)} {σ:L2.St} {Hc H:Hp} {s0 s:Shared} {Bs:Heap} {a C:Addr} {a0:Value} (L:Look X ex pins σ Hc H s0 s Bs a C a0):Inv X pins σ H s :=
 L.inv.call' L.os L.un (L.hok.kept L.fl.1) L.bare fun b hb=>absurd hb (by simp)
theorem Look.ty {pins:List (Addr × Obj)} {σ:L2.St} {Hc H:Hp} {s0 s:Shared} {Bs:Heap} {a C:Addr} {a0:Value} {M:Model} (L:Look X ex pins σ Hc H s0 s Bs a C a0):PySem.W.Looks M s.heap (typeOf (.ref a)) (.ref C):=by
 obtain ⟨ob,h1,h2⟩:=L.fl.there
 exact h2 ▸ (PySem.W.Looks.ld h1).andThen .now
theorem Look.new {pins:List (Addr × Obj)} {σ:L2.St} {Hc H:Hp} {s0 s:Shared} {Bs:Heap} {a C:Addr} {a0:Value} (L:Look X ex pins σ Hc H s0 s Bs a C a0):s0.heap.get? a=none:=by
 cases q:s0.heap.get? a with
 | none=>rfl
 | some o =>
  exfalso
  by_cases hf:a∈frs X.stack
  ·obtain ⟨_,o2,k2,k3⟩:=L.fl.2.2.1.mem hf
   obtain ⟨oe,vs,T,oT,ts,t1,t2,t3,_⟩:=L.fl.2.2.2
   rw [t1] at k2
   cases k2
   exact k3 vs t3
  ·obtain ⟨o',e⟩:=L.cov a o q hf
   rw [L.fl.2.1] at e
   cases e
theorem Look.free {pins:List (Addr × Obj)} {σ:L2.St} {Hc H:Hp} {s0 s:Shared} {Bs:Heap} {a C:Addr} {a0:Value} (L:Look X ex pins σ Hc H s0 s Bs a C a0):H a=none:=by
 cases q:H a with
 | none=>rfl
 | some o =>
  obtain ⟨ob,e⟩:=qGJ (L.hok a o q)
  rw [L.fl.2.1] at e
  cases e
noncomputable def Clz (X:Cx) (F:Nat→List D→M D) (B:Nat) (ex:Nat→Option Addr) (W:WX) (pins:List (Addr × Obj)) (σ:L2.St) (E:Ends) (hs:List ExceptHandler) (ch:CH):Prop :=
 ∀ (Hc H:Hp) (s0 s:Shared) (Bs:Heap) (a C:Addr) (a0:Value) (c:Nat),ex c=some C→Look X ex pins σ Hc H s0 s Bs a C a0 →
  (∃ ρ env h,RepS X.K ρ H env σ∧RepH X.K ρ h H∧PostS X.K W E ρ H (denH F B ch c env h))→wpAny (model X.prog X.w) X.A (handleBy (.ref a) X.env hs) (SP X pins E) X.xe s
theorem qKn {pins:List (Addr × Obj)} {σ:L2.St} {E:Ends} {x:Str} {np pos:Pos} {body:List Stmt} {r:List ExceptHandler} {cs:List Nat} {k:CS} {r':CH} (hh:HOf X F B ex (.ExceptHandler (some (.Name x np)) none body pos::r) (.cons cs k r')) (ih:Clz X F B ex W pins σ E r r'):Clz X F B ex W pins σ E (.ExceptHandler (some (.Name x np)) none body pos::r) (.cons cs k r'):=by
 rintro Hc H s0 s Bs a C a0 c hc L ⟨ρ,env,h,st,rh,p⟩
 obtain ⟨⟨C',g1,g2,g3,g4⟩,⟨b0,rest,hb⟩,hsu,hr⟩:=hh
 have I:=L.now
 rw [denH] at p
 refine wpAny_handleBy_cons (codeAny_handlers_test (L2.ld_glob (X:=mark X (.ref a)) (Inv.mark I) g1 g3 ?_ g2)) (by intro q;cases q)
 refine (PySem.W.exm_one I.kIn L.ty (g4 c C hc)).here ?_
 cases q:cs.contains c with
 | false =>
  rw [q] at p
  exact ih _ _ _ _ _ _ _ _ _ hc L ⟨ρ,env,h,st,rh,p⟩
 | true =>
  rw [q] at p
  subst hb
  refine codeAny_handlers_suite (lands_againW L.fl fun h6 fl6 up6=>?_)
  have L6:=L.go fl6 up6
  have p:PostS X.K W E ρ H (SR.calm (denS F B k env h)):=p
  have p':PostS X.K WF E ρ H (denS F B k env h):=by
   cases z:denS F B k env h with
   | nx _ _=>rw [z] at p;exact p
   | rt _ _=>rw [z] at p;exact p
   | bk _ _=>rw [z] at p;exact p
   | ct _ _=>rw [z] at p;exact p
   | exc _ _ _=>rw [z] at p;exact False.elim p
   | bad=>rw [z] at p;exact p
  exact wpAny_mono (hsu (.ref a) pins _ σ H E (Inv.mark L6.now) ⟨ρ,env,h,st,rh,p'⟩) (fun f s7 q7=>SP.unmark q7 I.ok) fun _ _ z=>False.elim z
theorem qKo {pins:List (Addr × Obj)} {σ:L2.St} {E:Ends} {x n:Str} {np pos:Pos} {body:List Stmt} {r:List ExceptHandler} {cs:List Nat} {i:Nat} {k:CS} {r':CH} (hh:HOf X F B ex (.ExceptHandler (some (.Name x np)) (some n) body pos::r) (.as cs i k r')) (ih:Clz X F B ex W pins σ E r r'):Clz X F B ex W pins σ E (.ExceptHandler (some (.Name x np)) (some n) body pos::r) (.as cs i k r'):=by
  rintro Hc H s0 s Bs a C a0 c hc L ⟨ρ,env,h,st,rh,p⟩
  obtain ⟨⟨C',g1,g2,g3,g4⟩,⟨b0,rest,hb⟩,⟨n0,n1,n2,n3,n4⟩,hsu,hr⟩:=hh
  have I:=L.now
  rw [denH] at p
  refine wpAny_handleBy_cons (codeAny_handlers_test (L2.ld_glob (X:=mark X (.ref a)) (Inv.mark I) g1 g3 ?_ g2)) (by intro q;cases q)
  refine (PySem.W.exm_one I.kIn L.ty (g4 c C hc)).here ?_
  cases q:cs.contains c with
  | false =>
    rw [q] at p
    exact ih _ _ _ _ _ _ _ _ _ hc L ⟨ρ,env,h,st,rh,p⟩
  | true =>
    rw [q] at p
    subst hb
    refine codeAny_handlers_suite_as (lands_againW L.fl fun h6 fl6 up6=>?_)
    have L6:=L.go fl6 up6
    have new:=L.new
    have hfree:=L6.free
    have hs0:X.s₀.heap.get? a=none:=by
      cases z:X.s₀.heap.get? a with
      | none=>rfl
      | some o =>
        obtain ⟨o',e⟩:=L.inv.base.there a o z (by rw [n0];exact List.not_mem_nil)
        rw [new] at e
        cases e
    obtain ⟨ob,hob,hcl⟩:=L6.fl.there
    have It:Inv X pins σ (upd H a (xcO a C)) { s with heap:=h6 }:=Inv.track L6.now hfree hs0 (fun z=>by
        obtain ⟨m,hn,_⟩:=L.inv.loc
        obtain ⟨oL,_,_,hoL,_⟩:=id hn
        rw [← z,new] at hoL
        cases hoL) (fun y c' e z=>by
        obtain ⟨w',oc,hoc,_⟩:=L.inv.cell y c' e
        rw [z,new] at hoc
        cases hoc) (fun pp hpp z=>by
        have:=(L.inv.pin pp hpp).1
        rw [z,new] at this
        cases this) ⟨⟨ob,hob,hcl⟩,⟨ob,hob⟩,fun h1 h2 ⟨o1,e1,e2⟩ k=>⟨o1,k o1 e1,e2⟩⟩
    have step:Step ρ H (ρ++[a]) (upd H a (xcO a C)):=Step.new1 hfree
    have rh':RepH X.K (ρ++[a]) (h++[.xc c]) (upd H a (xcO a C)):=rh.newO hfree ⟨C,n4 c C hc,qAB⟩
    have hlen:(ρ++[a])[h.length]?=some a:=by rw [← rh.len,List.getElem?_append_right (Nat.le_refl _)];simp
    have st':RepS X.K (ρ++[a]) (upd H a (xcO a C)) (env.set i (some (.ref h.length))) (σ.set i (some (.ref a))):=(st.mono step).set i ⟨a,hlen,rfl⟩
    have p:PostS X.K W E ρ H (SR.rtO (denS F B k (env.set i (some (.ref h.length))) (h++[.xc c]))):=p
    have p':PostS X.K WF { E with nx:=fun _ _=>False,bk:=fun _ _=>False,ct:=fun _ _=>False } (ρ++[a]) (upd H a (xcO a C)) (denS F B k (env.set i (some (.ref h.length))) (h++[.xc c])):=by
      cases z:denS F B k (env.set i (some (.ref h.length))) (h++[.xc c]) with
      | rt d g=>rw [z] at p;exact fun ρ' H' v e' r' hv=>p ρ' H' v (step.trans e') r' hv
      | nx _ _=>rw [z] at p;exact False.elim p
      | bk _ _=>rw [z] at p;exact False.elim p
      | ct _ _=>rw [z] at p;exact False.elim p
      | exc _ _ _=>rw [z] at p;exact False.elim p
      | bad=>rw [z] at p;exact p
    refine L2.store_ok (X:=mark X (.ref a)) (v:=.ref a) (Inv.mark It) n1 n2 (.inl n3) rfl (fun s7 I7=>?_) (.inr n3)
    refine wpAny_mono (hsu (.ref a) pins s7 _ _ _ I7 ⟨_,_,_,st',rh',p'⟩) (fun f s8 q8=>?_) fun _ _ z=>False.elim z
    cases f with
    | next=>obtain ⟨_,_,_,z⟩:=q8;exact False.elim z
    | brk=>obtain ⟨_,_,_,z⟩:=q8;exact False.elim z
    | cont=>obtain ⟨_,_,_,z⟩:=q8;exact False.elim z
    | ret u =>
      obtain ⟨v,σ',H',I8,rv,qv⟩:=q8
      have I9:=Inv.unmark I8 I.ok
      obtain ⟨m,hn,_⟩:=I9.loc
      refine wpAny_nameGoes n3 hn (by rw [I9.ok.kind];rfl) fun h' m' hn' hs'=>?_
      exact ⟨v,_,H',Inv.blank I9 hn' hs',rv,qv⟩
theorem qM0 {pins:List (Addr × Obj)} {σ:L2.St} {E:Ends}:∀ (hs:List ExceptHandler) (ch:CH),HOf X F B ex hs ch→Clz X F B ex W pins σ E hs ch:=by
 intro hs
 induction hs with
 | nil =>
  intro ch hh
  cases ch with
  | nil=>rintro Hc H s0 s Bs a C a0 c hc L ⟨ρ,env,h,st,rh,p⟩;exact False.elim p
  | _=>exact False.elim hh
 | cons hd r ih =>
  intro ch hh
  obtain ⟨ty,nm,body,pos⟩:=hd
  cases ty with
  | none=>exact False.elim hh
  | some t =>
   cases t with
   | Name x np =>
    cases nm with
    | none =>
     cases ch with
     | cons cs k r'=>exact qKn hh (ih r' hh.2.2.2)
     | _=>exact False.elim hh
    | some n =>
     cases ch with
     | «as» cs i k r'=>exact qKo hh (ih r' hh.2.2.2.2)
     | _=>exact False.elim hh
   | _=>exact False.elim hh
theorem s_try {body:List Stmt} {h0:ExceptHandler} {hs:List ExceptHandler} {pos:Pos} {cb:CS} {ch:CH} (hstk:X.stack=X.env::X.outer∧X.env.frame=some X.env.locals) (hh:HOf X F B ex (h0::hs) ch)
    (hb:∀ (pins:List (Addr × Obj)) (W1:WX),PSs (hold X pins fun e s'=>∃ pins' σ H s0,Inv (hold X pins fun _ _=>False) pins' σ H s0∧CXD X.prog X.w ex X.stack H s0 (fun _ co H'=>∃ c,co=some c∧W1 c σ H') e s') body (tDS X.K W1 (denS F B cb))) :
    PS X (.Try body (h0::hs) [] [] pos) (tDS X.K W (denS F B (.tryx cb ch))):=by
  intro pins s σ H E I t
  obtain ⟨ρ,env,h,st,r,p⟩:=t
  rw [denS] at p
  show wpAny _ _ (do standAt pos;tryStmt false (execs body X.env) (h0::hs) (execs [] X.env) [] X.env) _ _ s
  refine wpAny_bind (wpAny_standAt (wpAny_tryStmt_except ?_))
  have p1:PostS X.K (fun c st H'=>∃ ρ env h,RepS X.K ρ H' env st∧RepH X.K ρ h H'∧PostS X.K W E ρ H' (denH F B ch c env h)) E ρ H (denS F B cb env h):=by
    cases z:denS F B cb env h with
    | nx _ _=>rw [z] at p;exact p
    | rt _ _=>rw [z] at p;exact p
    | bk _ _=>rw [z] at p;exact p
    | ct _ _=>rw [z] at p;exact p
    | exc c e g=>rw [z] at p;exact fun ρ' H' st' e' r' s'=>⟨ρ',e,g,s',r',PostS.mono p e'⟩
    | bad=>rw [z] at p;exact p
  refine wpAny_mono (hb pins _ [] s σ H E (Inv.hold I _) ⟨ρ,env,h,st,r,p1⟩) (fun f s1 q1=>?_) fun e s1 q1=>?_
  · have q:=SP.unhold q1
    cases f with
    | next=>exact wpAny_execs_nil q
    | brk=>exact q
    | cont=>exact q
    | ret u=>exact q
  · obtain ⟨pins',σ',Hc,s0,I0,a,C,c,Bs,a0,H',rfl,h2,h3,h4,h5,h6,h7,h8,c',e',ρ',env',g',st',r',p'⟩:=q1
    cases e'
    have I0':Inv X pins σ' Hc s0:=Inv.unhold I0
    have L:Look X ex pins σ' Hc H' s0 s1 Bs a C a0:=⟨I0',h3,h4,h5,h6,h7,h8⟩
    have fr:=I.ok.frames
    rw [hstk.1] at fr
    have fl:=h3
    rw [hstk.1] at fl
    refine wpAny_looks_onW fr hstk.2 fl fun h4' held up4=>?_
    refine wpAny_landsW held fun h5' fl5 up5=>?_
    rw [← hstk.1] at fl5
    exact qM0 (h0::hs) ch hh _ _ _ _ _ _ _ _ _ h2 (L.go fl5 (up4.trans up5)) ⟨ρ',env',g',st',r',p'⟩
end
end Fy
set_option Elab.async false
set_option linter.all false
set_option maxRecDepth 100000
set_option maxHeartbeats 4000000
namespace Fy
open PySem PySem.Spec PySem.Calls PyProof.Rows PySem.W
structure XGet (K:Frag) (C:Addr):Prop where
 ga:findIn K (.ref C) "__getattribute__"=some (some (.builtin "BaseException.__getattribute__"))
 gt:findIn K (.ref C) "__getattr__"=some none
 cl:findIn K (.ref C) "__class__"=some (some (.builtin "object.__class__"))
 ob:subIn K (.ref C) (.type "object")=some true
 be:subIn K (.ref C) (.type "BaseException")=some true
 is:isClsIn K C=true
section
variable {prog:Program} {w:World} {A:Around} {E:Value→Shared→Prop} {h:Heap} {g:Array GenState} {d:Drawn} {t:Nat} {os:OsState} {a C:Addr} {o:Obj} {K:Frag}
end
end Fy
set_option Elab.async false
set_option linter.all false
set_option maxRecDepth 100000
set_option maxHeartbeats 4000000
namespace Fy
open PySem PySem.Spec PySem.Calls PyProof.Rows
open L2 (V Hp HO VK XK TE TT TA TS TI Cx Inv RelV Vals SqL SqT Rd upd qAB qAC PE PT PA PS PSs EP TP SP PI PG PIE Turn FpOk Ends HOk frs thn OpR CallR)
theorem qLF {K:PySem.W.Frag} {t c:Value} {b:Bool} (h:PySem.W.exmOne K t c=some b) (hb:(t == c)=true→b=true):PySem.W.kitOne K t c=some b:=by
 unfold PySem.W.exmOne at h
 unfold PySem.W.kitOne
 split
 ·rename_i q;rw [hb q]
 ·split at h
  ·exact h
  ·cases h
section
variable {X:Cx} {F:Nat→List D→M D} {W:WX}
end
end Fy
set_option Elab.async false
set_option linter.all false
set_option maxRecDepth 100000
set_option maxHeartbeats 4000000
namespace Fy
open PySem PySem.Spec PySem.Calls PyProof.Rows
open L2 (V Hp HO VK XK TE TT TA TS TI Cx Inv RelV Vals SqL SqT Rd upd qAB qAC PE PT PA PS PSs EP TP SP PI PG PIE Turn FpOk Ends HOk frs thn OpR CallR)
noncomputable def vl (l:List Nat) (a:Nat):Nat:=l.foldl (fun a d=>a*256+d) a
theorem qGM:∀ (f n:Nat) (acc:List Nat),n<256 ^ f→vl (nmGo f n acc) 0=vl acc n
 | 0,n,acc,h=>by
  have:n=0:=by rw [Nat.pow_zero] at h;omega
  subst this
  rfl
 | f+1,n,acc,h=>by
  unfold nmGo
  by_cases q:n=0
  ·rw [if_pos q,q]
  ·rw [if_neg q,qGM f (n / 256) (n % 256::acc) (by rw [Nat.pow_succ] at h;exact Nat.div_lt_of_lt_mul (by rw [Nat.mul_comm];exact h))]
   show vl acc (n / 256*256+n % 256)=_
   rw [Nat.div_add_mod' n 256]
theorem qEx {a b:Nat} (ha:a<256 ^ 60) (hb:b<256 ^ 60) (h:nmOf a=nmOf b):a=b:=by
 unfold nmOf at h
 have h1:(nmGo 60 a []).toArray=(nmGo 60 b []).toArray:=congrArg Str.cps h
 have h2:nmGo 60 a []=nmGo 60 b []:=by simpa using h1
 have e1:=qGM 60 a [] ha
 have e2:=qGM 60 b [] hb
 rw [h2,e2] at e1
 exact e1.symm
section
variable {K:PySem.W.Frag} {ρ:List Addr} {H:Hp} {C:Addr}
theorem RepF.len:∀ {fs:List (Nat × D)} {vs:List (Str × V)},RepF K ρ H C fs vs→vs.length=fs.length
 | [],_,h=>by cases h;rfl
 | x::xs,_,⟨v,r,h1,_,_,_,h3⟩=>by subst h1;simp [RepF.len h3]
theorem RepF.get {k:Nat} {d:D}:∀ {fs:List (Nat × D)} {vs:List (Str × V)},RepF K ρ H C fs vs→getN k fs=some d→∃ v,vs.lookup (nmOf k)=some v∧RepV K ρ H d v∧L2.NoAttr K C (nmOf k)∧k<256 ^ 60
 | [],_,_,e=>by cases e
 | (g,x)::xs,_,⟨v,r,h1,hb,hn,h2,h3⟩,e=>by
  subst h1
  unfold getN at e
  by_cases q:(g == k)=true
  ·rw [if_pos q] at e
   cases e
   have:g=k:=by simpa using q
   subst this
   exact ⟨v,by simp [List.lookup],h2,hn,hb⟩
  ·rw [if_neg q] at e
   obtain ⟨w,k1,k2,k3,k4⟩:=RepF.get h3 e
   refine ⟨w,?_,k2,k3,k4⟩
   have ne:(nmOf k == nmOf g)=false:=beq_eq_false_iff_ne.mpr fun z=>q (by rw [qEx k4 hb z];simp)
   show List.lookup (nmOf k) ((nmOf g,v)::r)=_
   rw [List.lookup_cons,ne]
   exact k1
theorem RepF.none {k:Nat} (hk:k<256 ^ 60):∀ {fs:List (Nat × D)} {vs:List (Str × V)},RepF K ρ H C fs vs→getN k fs=none→vs.lookup (nmOf k)=none
 | [],_,h,_=>by cases h;rfl
 | (g,x)::xs,_,⟨v,r,h1,hb,hn,h2,h3⟩,e=>by
  subst h1
  unfold getN at e
  by_cases q:(g == k)=true
  ·rw [if_pos q] at e;cases e
  ·rw [if_neg q] at e
   have ne:(nmOf k == nmOf g)=false:=beq_eq_false_iff_ne.mpr fun z=>q (by rw [qEx hk hb z];simp)
   show List.lookup (nmOf k) ((nmOf g,v)::r)=_
   rw [List.lookup_cons,ne]
   exact RepF.none hk h3 e
theorem RepF.put {k:Nat} {d:D} {v:V} (hk:k<256 ^ 60) (hn:L2.NoAttr K C (nmOf k)) (hv:RepV K ρ H d v):∀ {fs:List (Nat × D)} {vs:List (Str × V)},RepF K ρ H C fs vs→RepF K ρ H C (putN k d fs) (L2.putF (nmOf k) v vs)
 | [],_,h=>by cases h;exact ⟨v,[],rfl,hk,hn,hv,rfl⟩
 | (g,x)::xs,_,⟨w,r,h1,hb,hn',h2,h3⟩=>by
  subst h1
  unfold putN
  show RepF K ρ H C _ (if nmOf g=nmOf k then (nmOf g,v)::r else (nmOf g,w)::L2.putF (nmOf k) v r)
  by_cases q:(g == k)=true
  ·have:g=k:=by simpa using q
   subst this
   rw [if_pos q,if_pos rfl]
   exact ⟨v,r,rfl,hk,hn,hv,h3⟩
  ·have hb':g<256 ^ 60:=hb
   rw [if_neg q,if_neg fun z=>q (by rw [qEx hb' hk z];simp)]
   exact ⟨w,_,rfl,hb,hn',h2,RepF.put hk hn hv h3⟩
end
section
variable {X:Cx} {F:Nat→List D→M D} {B:Nat} {W:WX}
theorem d_fld {e:Expr} {ca:CE} {k:Nat} {f:Str} {pos:Pos} (hf:f=nmOf k) (he:PE X e (tD X.K W (den F ca))) (hb:attributeBase e f X.env (eval e X.env)=eval e X.env):PE X (.Attribute e f pos) (tD X.K W (den F (.un (.fld k) ca))):=by
 subst hf
 refine PE.imp (L2.pe_fld he hb) fun σ H Q t=>?_
 obtain ⟨ρ,env,h,s,r,p⟩:=one t
 refine ⟨ρ,env,h,s,r,Post.imp p fun ρ' H' d q v hv=>?_⟩
 obtain ⟨w,ρ2,h2,d2,r2,hd,p2⟩:=q v hv
 cases d2 with
 | ref i =>
  have p2:PostV X.K w Q ρ2 H' (match h2[i]? with | some (.ins _ fs)=>(match getN k fs with | some d=>.ok d h2 | none=>.bad) | _=>.bad):=p2
  split at p2
  ·rename_i c fs hi
   cases g:getN k fs with
   | none=>rw [g] at p2;exact False.elim p2
   | some d =>
    rw [g] at p2
    obtain ⟨a,ha,C,dx,vs,k1,k2,k3,k4⟩:=r2.obj i _ hi
    obtain ⟨a',ha',rfl⟩:=hd
    rw [ha] at ha'
    cases ha'
    obtain ⟨u,l1,l2,l3,_⟩:=k4.get g
    exact ⟨a,C,dx,vs,u,rfl,k3,k2,l3,l1,PostV.now p2 r2 l2⟩
  ·exact False.elim p2
 | _=>exact (show False from p2).elim
theorem qNr {o e:Expr} {ca ce:CE} {k:Nat} {cs:List Nat} {f:Str} {pos pos':Pos} (hf:f=nmOf k) (hk:k<256 ^ 60) (hna:∀ c C,cs.contains c=true→ClsAt X.K c C→L2.NoAttr X.K C (nmOf k))
    (ho:PE X o (tD X.K W (den F ca))) (he:PE X e (tD X.K W (den F ce))) (hs:swapsWith e (some (.Attribute o f pos')) pos.line X.env=pure false):PS X (.Assign [.Attribute o f pos'] e pos) (tDS X.K W (denS F B (.setF ca k cs ce))):=by
  subst hf
  refine PS.imp (L2.ps_fld ho he hs) fun E σ H t=>?_
  obtain ⟨ρ,env,h,s,r,p⟩:=t
  rw [denS] at p
  refine ⟨ρ,env,h,s,r,PostS.ofR s p fun ρ1 h1 d H1 e1 r1 q v hv=>⟨ρ1,env,h1,s.mono e1,r1,?_⟩⟩
  have q:PostS X.K W E ρ1 H1 (SR.ofR env ((den F ca env h1).bind fun x g=>setFD k cs d x g) fun _ h2=>.nx env h2):=q
  cases z:den F ca env h1 with
  | ok x h2 =>
    rw [z] at q
    have q:PostS X.K W E ρ1 H1 (SR.ofR env (setFD k cs d x h2) fun _ h2=>.nx env h2):=q
    intro ρ2 H2 e2 r2 vx hvx
    cases x with
    | ref i =>
      have q:PostS X.K W E ρ1 H1 (SR.ofR env (match h2[i]? with | some (.ins c fs)=>if cs.contains c=true∧fs.length<1000 then .ok () (h2.set i (.ins c (putN k d fs))) else .bad | _=>.bad) fun _ h2=>.nx env h2):=q
      cases hi:h2[i]? with
      | none=>rw [hi] at q;exact False.elim q
      | some ob =>
        rw [hi] at q
        cases ob with
        | ins c fs =>
          have q:PostS X.K W E ρ1 H1 (SR.ofR env (if cs.contains c=true∧fs.length<1000 then .ok () (h2.set i (.ins c (putN k d fs))) else .bad) fun _ h2=>.nx env h2):=q
          by_cases hc:cs.contains c=true∧fs.length<1000
          · rw [if_pos hc] at q
            obtain ⟨a,ha,C,dx,vs,k1,k2,k3,k4⟩:=r2.obj i _ hi
            obtain ⟨a',ha',rfl⟩:=hvx
            rw [ha] at ha'
            cases ha'
            have na:=hna c C hc.1 k1
            have stp:Step ρ2 H2 ρ2 (upd H2 a (.ins C dx (L2.putF (nmOf k) v vs))):=Step.turn k3 rfl (List.mem_of_getElem? ha)
            refine ⟨a,C,dx,vs,rfl,k3,k2,na,by rw [k4.len];exact hc.2,?_⟩
            have rf:=k4.put hk na (hv.mono e2 _ _)
            exact q ρ2 _ σ (e2.trans stp) (r2.setO hi rfl rfl ha k3 rfl ⟨C,dx,_,k1,k2,qAB,rf.mono stp _ _⟩) ((s.mono e1).mono (e2.trans stp))
          · rw [if_neg hc] at q;exact False.elim q
        | _=>exact (show False from q).elim
    | _=>exact (show False from q).elim
  | exc c h2 =>
    rw [z] at q
    exact fun ρ' H' e' r'=>q ρ' H' σ e' r' ((s.mono e1).mono e')
  | bad=>rw [z] at q;exact q
end
end Fy
set_option Elab.async false
set_option linter.all false
set_option maxRecDepth 100000
set_option maxHeartbeats 4000000
namespace Fy
open PySem PySem.Spec PySem.Calls PyProof.Rows
open L2 (V Hp HO VK XK TE TT TA TS TI Cx Inv RelV Vals SqL SqT Rd upd qAB qAC PE PT PA PS PSs EP TP SP PI PG PIE Turn FpOk Ends HOk frs thn OpR CallR)
section
variable {X:Cx} {F:Nat→List D→M D} {B:Nat} {W:WX} {ex:Nat→Option Addr} {k:Nat}
noncomputable def MtOk (X:Cx) (F:Nat→List D→M D) (k:Nat) (ex:Nat→Option Addr) (m:Str) (tb:List (Nat × Nat)):Prop :=
 ∀ cc fi C,tbN tb cc=some fi→ClsAt X.K cc C→L2.Cls X.K C∧∃ f fd ps,L2.Meth X.K C m f∧L2.Binds X.K fd ps []∧L2.FnOk X.prog X.w X.K X.mg X.base (CXD X.prog X.w ex) k f fd ps (spD X.K (F fi))
noncomputable def mQ (X:Cx) (F:Nat→List D→M D) (W:WX) (σ:L2.St) (env:Env) (mk:Nat) (tb:List (Nat × Nat)) (cl:CL) (Q:VK):VK:=fun x H1 =>
 ∃ ρ h d,RepS X.K ρ H1 env σ∧RepH X.K ρ h H1∧RepV X.K ρ H1 d x∧PostV X.K (W.at σ) Q ρ H1 (((mclsD mk d).bind fun c=>match tbN tb c with | some f=>(denL F cl env).bind fun xs=>F f (d::xs) | none=>M.bad) h)
theorem mQ_of {mk:Nat} {tb:List (Nat × Nat)} {cl:CL} {ca:CE} {ρ:List Addr} {env:Env} {h:AH} {σ:L2.St} {H:Hp} {Q:VK} (st:RepS X.K ρ H env σ) (p:PostV X.K (W.at σ) Q ρ H (den F (.meth mk tb ca cl) env h)) :
    PostV X.K (W.at σ) (mQ X F W σ env mk tb cl Q) ρ H (den F ca env h):=by
  rw [den] at p
  exact Post.bind p fun ρ1 h1 d H1 e1 r1 q v hv=>⟨ρ1,h1,d,st.mono e1,r1,hv,q⟩
theorem mQ_go {mk:Nat} {tb:List (Nat × Nat)} {cl:CL} {env:Env} {σ:L2.St} {H1:Hp} {Q:VK} {x:V} {m:Str} (hm:MtOk X F k ex m tb) (hn:m=nmOf mk) (hb:mk<256 ^ 60) (q:mQ X F W σ env mk tb cl Q x H1) :
    ∃ a C dx vs f fd ps ρ h d,x=.ref a∧H1 a=some (.ins C dx vs)∧vs.lookup m=none∧L2.Cls X.K C∧L2.Meth X.K C m f∧L2.Binds X.K fd ps []∧RepS X.K ρ H1 env σ∧RepH X.K ρ h H1∧RepV X.K ρ H1 d x ∧
      ∃ fi,L2.FnOk X.prog X.w X.K X.mg X.base (CXD X.prog X.w ex) k f fd ps (spD X.K (F fi))∧PostV X.K (W.at σ) Q ρ H1 ((denL F cl env).bind (fun xs=>F fi (d::xs)) h):=by
  obtain ⟨ρ,h,d,st,r,hd,p⟩:=q
  cases d with
  | ref i =>
    have p:PostV X.K (W.at σ) Q ρ H1 ((match h[i]? with | some (.ins c fs)=>if (getN mk fs).isNone then R.ok c h else .bad | _=>.bad).bind fun c g=>(match tbN tb c with | some f=>(denL F cl env).bind fun xs=>F f (.ref i::xs) | none=>M.bad) g):=p
    cases hi:h[i]? with
    | none=>rw [hi] at p;exact False.elim p
    | some ob =>
      rw [hi] at p
      cases ob with
      | ins c fs =>
        cases g:getN mk fs with
        | some _=>rw [show (match some (O.ins c fs) with | some (.ins c fs)=>if (getN mk fs).isNone then R.ok c h else .bad | _=>.bad)=(if (getN mk fs).isNone then R.ok c h else .bad) from rfl,g] at p;exact False.elim p
        | none =>
          rw [show (match some (O.ins c fs) with | some (.ins c fs)=>if (getN mk fs).isNone then R.ok c h else .bad | _=>.bad)=(if (getN mk fs).isNone then R.ok c h else .bad) from rfl,g] at p
          have p:PostV X.K (W.at σ) Q ρ H1 ((match tbN tb c with | some f=>(denL F cl env).bind fun xs=>F f (.ref i::xs) | none=>M.bad) h):=p
          obtain ⟨a,ha,C,dx,vs,k1,k2,k3,k4⟩:=r.obj i _ hi
          obtain ⟨a',ha',rfl⟩:=id hd
          rw [ha] at ha'
          cases ha'
          cases ht:tbN tb c with
          | none=>rw [ht] at p;exact False.elim p
          | some fi =>
            rw [ht] at p
            obtain ⟨_,f,fd,ps,m1,m2,m3⟩:=hm c fi C ht k1
            refine ⟨a,C,dx,vs,f,fd,ps,ρ,h,.ref i,rfl,k3,?_,k2,m1,m2,st,r,hd,fi,m3,p⟩
            rw [hn]
            exact k4.none hb g
      | _=>exact (show False from p).elim
  | _=>exact (show False from p).elim
theorem qK0 {fi:Nat} {d:D} {ρ1:List Addr} {h1:AH} {H1:Hp} {env:Env} {σ:L2.St} {Q:VK} {cl:CL} {x:V} (hd:RepV X.K ρ1 H1 d x) (p:PostV X.K (W.at σ) Q ρ1 H1 ((denL F cl env).bind (fun xs=>F fi (d::xs)) h1)) :
    Post X.K (W.at σ) (fun ρ' H' ds=>∀ vs,RepL X.K ρ' H' ds vs→spD X.K (F fi) (x::vs) H' Q fun _ co H'=>∃ c,co=some c∧W c σ H') ρ1 H1 (denL F cl env h1) :=
  Post.bind p fun ρ2 h2 ds H2 e2 r2 q vs hvs=>⟨ρ2,h2,d::ds,r2,⟨x,vs,rfl,hd.mono e2 _ _,hvs⟩,by
    cases z:F fi (d::ds) h2 with
    | ok a g=>rw [z] at q;exact q
    | exc c g=>rw [z] at q;exact fun ρ' H' e' r' _=>⟨c,rfl,q ρ' H' e' r'⟩
    | bad=>rw [z] at q;exact q⟩
theorem qJj {o:Expr} {m:Str} {apos pos:Pos} {args:List Expr} {env:PySem.Env} (hbase:attributeBase o m env (eval o env)=eval o env) (hline:(apos.endLine == pos.line)=true)
    (hfew:methodCallForm (args.length+([]:List Keyword).length) (backTo pos (starEach args env)) (backToKw pos (keywordEach [] env))=true) :
    eval (.Call (.Attribute o m apos) args [] pos) env=(do
      let ov ← eval o env
      standAt apos.atName
      let (f,first) ← holding [ov] (getMethod ov m (do return (← importBound o env).getD true))
      callWith pos f first (backTo pos (starEach args env)) (backToKw pos (keywordEach [] env))):=by
  rw [arm_eval_Call,hbase]
  unfold methodCall
  rw [hfew]
  unfold calleeOf methodCallPos
  simp only [hline,Bool.not_true,Bool.false_or,if_true]
  rfl
theorem qPA {o e:Expr} {es:List Expr} {ca:CE} {cl:CL} {mk:Nat} {tb:List (Nat × Nat)} {m:Str} {apos pos:Pos} (hm:MtOk X F k ex m tb) (hn:m=nmOf mk) (hb:mk<256 ^ 60) (hr:L2.Room k X.A)
    (hxc:∀ pins σ H s0 e s',Inv X pins σ H s0→CXD X.prog X.w ex X.stack H s0 (fun _ co H'=>∃ c,co=some c∧W c σ H') e s'→X.xe e s')
    (ho:PE X o (tD X.K W (den F ca))) (ha:PA X (e::es) (tDL X.K W (denL F cl))) (hbase:attributeBase o m X.env (eval o X.env)=eval o X.env) (hline:(apos.endLine == pos.line)=true)
    (hfew:methodCallForm ((e::es).length+([]:List Keyword).length) (backTo pos (starEach (e::es) X.env)) (backToKw pos (keywordEach [] X.env))=true)
    (hst:starEach (e::es) X.env=(false,eval e X.env)::starEach es X.env) (hpl:(backTo pos (starEach es X.env)).any (·.1)=false) :
    PE X (.Call (.Attribute o m apos) (e::es) [] pos) (tD X.K W (den F (.meth mk tb ca cl))):=by
  intro pins s σ H Q I t
  obtain ⟨ρ,env,h,st,r,p⟩:=t
  refine PySem.W.methodCall_KW (thn (ho pins s σ H (mQ X F W σ env mk tb cl Q) I ⟨ρ,env,h,st,r,mQ_of st p⟩) fun u s1 z=>?_) (qJj hbase hline hfew)
  obtain ⟨x,H1,I1,rx,q⟩:=z
  obtain ⟨a,C,dx,vs,f,fd,ps,ρ1,h1,d,rfl,hH,hl,hc,hmt,hbi,st1,r1,hd,fi,FO,p1⟩:=mQ_go hm hn hb q
  obtain rfl:u=Value.ref a:=rx
  refine L2.getmeth_ok I1 hH hc hmt hl ?_
  refine PySem.W.callWith_K (first:=[.ref a]) (h₀:=X.base) I.ok.mod.kin hmt.kp (thn (ha pos pins s1 σ H1 _ I1 ⟨ρ1,env,h1,st1,r1,qK0 hd p1⟩) fun us s2 ⟨vs2,H2,I2,r2,q2⟩=>⟨I2.kIn,?_⟩) hst hpl
  exact qEq (us:=.ref a::us) (vs:=.ref a::vs2) FO hr hbi (fun e s' z=>hxc pins σ H2 s2 e s' I2 z) I2 (.cons rfl r2) q2
theorem qMv {o:Expr} {ca:CE} {mk:Nat} {tb:List (Nat × Nat)} {m:Str} {apos pos:Pos} (hm:MtOk X F k ex m tb) (hn:m=nmOf mk) (hb:mk<256 ^ 60) (hr:L2.Room k X.A)
    (hxc:∀ pins σ H s0 e s',Inv X pins σ H s0→CXD X.prog X.w ex X.stack H s0 (fun _ co H'=>∃ c,co=some c∧W c σ H') e s'→X.xe e s')
    (ho:PE X o (tD X.K W (den F ca))) (hbase:attributeBase o m X.env (eval o X.env)=eval o X.env) (hline:(apos.endLine == pos.line)=true):PE X (.Call (.Attribute o m apos) [] [] pos) (tD X.K W (den F (.meth mk tb ca .nil))):=by
  intro pins s σ H Q I t
  obtain ⟨ρ,env,h,st,r,p⟩:=t
  refine PySem.W.methodCall_KW (thn (ho pins s σ H (mQ X F W σ env mk tb .nil Q) I ⟨ρ,env,h,st,r,mQ_of st p⟩) fun u s1 z=>?_) (qJj hbase hline rfl)
  obtain ⟨x,H1,I1,rx,q⟩:=z
  obtain ⟨a,C,dx,vs,f,fd,ps,ρ1,h1,d,rfl,hH,hl,hc,hmt,hbi,st1,r1,hd,fi,FO,p1⟩:=mQ_go hm hn hb q
  obtain rfl:u=Value.ref a:=rx
  refine L2.getmeth_ok I1 hH hc hmt hl ?_
  have q2:=Post.ret (a:=([]:List D)) (h:=h1) (qK0 (cl:=.nil) hd p1) r1 [] rfl
  exact PySem.W.callWith_K0 (first:=[.ref a]) I1.kIn hmt.kp (qEq (us:=[.ref a]) (vs:=[.ref a]) FO hr hbi (fun e s' z=>hxc pins σ H1 s1 e s' I1 z) I1 (.cons rfl .nil) q2)
theorem qFQ {pins:List (Addr × Obj)} {σ:L2.St} {H:Hp} {s:Shared} {Q:VK} {us:List Value} {vs:List V} {C f:Addr} {fd:FuncData} {ps:List Str} {sp:L2.Sp} {E:XK} (M:L2.Mk X.K C f) (F:L2.FnOk X.prog X.w X.K X.mg X.base (CXD X.prog X.w ex) k f fd ps sp) (hr:L2.Room (k+1) X.A) {ds:List Value} {dvs:List V} (hb:L2.Binds X.K fd ps ds) (hd:Vals dvs ds)
    (hx:∀ pins H s e s',Inv X pins σ H s→CXD X.prog X.w ex X.stack H s E e s'→X.xe e s') (I:Inv X pins σ H s) (r:Vals vs us)
    (h:∀ x dx,H x=none→H dx=none→dx≠x→sp (.ref x::(vs++dvs)) (upd (upd H dx (.own x)) x (.ins C dx [])) (fun v H2=>v=.non∧Q (.ref x) H2) E) :
    wpAny (model X.prog X.w) X.A (call (.ref C) us) (EP X pins σ Q) X.xe s:=by
  have hq:=h (s.heap.objs.size+1) s.heap.objs.size (I.hok.fresh (Nat.le_succ _)) (I.hok.fresh (Nat.le_refl _)) (Nat.ne_of_lt (Nat.lt_succ_self _))
  have I2:=L2.Inv.made (C:=C) I
  have r2:Vals (V.ref (s.heap.objs.size+1)::(vs++dvs)) (Value.ref (s.heap.objs.size+1)::(us++ds)):=.cons rfl (r.append hd)
  have hl:(Value.ref (s.heap.objs.size+1)::us++ds).length=ps.length:=by
    have e:=r2.length
    rw [F.len _ _ _ _ hq] at e
    exact e.symm
  refine wpAny_call (L2.make_map (f:=f) I.kIn M.makes M.init (beq_iff_eq.mp M.fn) (codeAny_mono (F.run _ X.stack _ _ ⟨Value.ref (s.heap.objs.size+1)::us,[]⟩ (Value.ref (s.heap.objs.size+1)::(us++ds)) _ _ E (hr.make C us [])
    (I2.env0.make C us []) (hb _ (Value.ref (s.heap.objs.size+1)::us) I2.kIn hl) r2 hq) fun r s' hq'=>?_))
  cases r with
  | error e=>exact hx pins _ _ e s' I2 hq'
  | ok fl =>
    cases fl with
    | ret u =>
      obtain ⟨v,H',I3,rv,ev,q3⟩:=I2.after hq'
      subst ev
      exact ⟨rv,⟨V.ref (s.heap.objs.size+1),H',I3,rfl,q3⟩⟩
    | next=>exact False.elim hq'
    | brk=>exact False.elim hq'
    | cont=>exact False.elim hq'
theorem qFj {c fi:Nat} {C:Addr} {ρ1:List Addr} {h1:AH} {H1:Hp} {Q:VK} {ds:List D} {vs:List V} {w:W1} (hc:ClsAt X.K c C) (hcl:L2.Cls X.K C) (r:RepH X.K ρ1 h1 H1) (hl:RepL X.K ρ1 H1 ds vs)
    (p:PostV X.K w Q ρ1 H1 (makeD F c fi ds h1)):∀ x dx,H1 x=none→H1 dx=none→dx≠x →
    spD X.K (F fi) (.ref x::(vs++[])) (upd (upd H1 dx (.own x)) x (.ins C dx [])) (fun v H2=>v=.non∧Q (.ref x) H2) fun _ co H'=>∃ c,co=some c∧w c H':=by
  intro x dx hx hdx ne
  rw [List.append_nil]
  have hx':upd H1 dx (.own x) x=none:=by rw [qAC (Ne.symm ne)];exact hx
  have s1:Step ρ1 H1 ρ1 (upd H1 dx (.own x)):=Step.fresh hdx
  have s2:Step ρ1 (upd H1 dx (.own x)) (ρ1++[x]) (upd (upd H1 dx (.own x)) x (.ins C dx [])):=Step.new1 hx'
  have r2:RepH X.K (ρ1++[x]) (h1++[.ins c []]) (upd (upd H1 dx (.own x)) x (.ins C dx [])):=(r.fresh hdx).newO hx' ⟨C,dx,[],hc,hcl,qAB,rfl⟩
  have hi:(ρ1++[x])[h1.length]?=some x:=by rw [← r.len,List.getElem?_append_right (Nat.le_refl _)];simp
  refine ⟨ρ1++[x],h1++[.ins c []],.ref h1.length::ds,r2,⟨.ref x,vs,rfl,⟨x,hi,rfl⟩,hl.mono (s1.trans s2) _ _⟩,?_⟩
  have p:PostV X.K w Q ρ1 H1 ((F fi (.ref h1.length::ds) (h1++[.ins c []])).bind fun d h'=>match d with | .non=>.ok (.ref h1.length) h' | _=>.bad):=p
  cases z:F fi (.ref h1.length::ds) (h1++[.ins c []]) with
  | ok d g =>
    rw [z] at p
    cases d with
    | non =>
      intro ρ' H' e' r' v hv
      refine ⟨hv,?_⟩
      have e2:=(s1.trans s2).trans e'
      exact p ρ' H' e2 r' (.ref x) ⟨x,qC4 e'.pre hi,rfl⟩
    | _=>exact (show False from p).elim
  | exc cc g =>
    rw [z] at p
    exact fun ρ' H' e' r' _=>⟨cc,rfl,p ρ' H' ((s1.trans s2).trans e') r'⟩
  | bad=>rw [z] at p;exact p
theorem qPB {y:Str} {e:Expr} {es:List Expr} {cl:CL} {c fi:Nat} {C f:Addr} {fd:FuncData} {ps:List Str} {p1 pos:Pos} (hg:L2.Gl X y) (hdb:(y == ("__debug__":Str))=false) (hmg:X.mg y=some (.ref C)) (hc:ClsAt X.K c C) (hcl:L2.Cls X.K C) (M:L2.Mk X.K C f)
    (hb:L2.Binds X.K fd ps []) (FO:L2.FnOk X.prog X.w X.K X.mg X.base (CXD X.prog X.w ex) k f fd ps (spD X.K (F fi))) (hr:L2.Room (k+1) X.A)
    (hxc:∀ pins σ H s0 e s',Inv X pins σ H s0→CXD X.prog X.w ex X.stack H s0 (fun _ co H'=>∃ c,co=some c∧W c σ H') e s'→X.xe e s')
    (ha:PA X (e::es) (tDL X.K W (denL F cl))) (hst:starEach (e::es) X.env=(false,eval e X.env)::starEach es X.env) (hpl:(backTo pos (starEach es X.env)).any (·.1)=false) :
    PE X (.Call (.Name y p1) (e::es) [] pos) (tD X.K W (den F (.make c fi cl))):=by
  intro pins s σ H Q I t
  obtain ⟨ρ,env,h,st,r,p⟩:=t
  rw [den] at p
  refine wpAny_Call_Name_kw (L2.ld_glob I hg hmg ?_ hdb)
  refine PySem.W.callWith_K (h₀:=X.base) I.ok.mod.kin M.kp (thn (ha pos pins s σ H (fun vs H1=>∀ x dx,H1 x=none→H1 dx=none→dx≠x→spD X.K (F fi) (.ref x::(vs++[])) (upd (upd H1 dx (.own x)) x (.ins C dx [])) (fun v H2=>v=.non∧Q (.ref x) H2) fun _ co H'=>∃ c,co=some c∧W c σ H') I
    ⟨ρ,env,h,st,r,Post.bind p fun ρ1 h1 ds H1 e1 r1 q vs hvs=>qFj hc hcl r1 hvs q⟩) fun us s1 ⟨vs,H1,I1,rv,q⟩=>⟨I1.kIn,?_⟩) hst hpl
  exact qFQ M FO hr hb .nil (fun pins H s e s' I z=>hxc pins σ H s e s' I z) I1 rv q
theorem qMw {y:Str} {c fi:Nat} {C f:Addr} {fd:FuncData} {ps:List Str} {p1 pos:Pos} (hg:L2.Gl X y) (hdb:(y == ("__debug__":Str))=false) (hmg:X.mg y=some (.ref C)) (hc:ClsAt X.K c C) (hcl:L2.Cls X.K C) (M:L2.Mk X.K C f)
    (hb:L2.Binds X.K fd ps []) (FO:L2.FnOk X.prog X.w X.K X.mg X.base (CXD X.prog X.w ex) k f fd ps (spD X.K (F fi))) (hr:L2.Room (k+1) X.A)
    (hxc:∀ pins σ H s0 e s',Inv X pins σ H s0→CXD X.prog X.w ex X.stack H s0 (fun _ co H'=>∃ c,co=some c∧W c σ H') e s'→X.xe e s') :
    PE X (.Call (.Name y p1) [] [] pos) (tD X.K W (den F (.make c fi .nil))):=by
  intro pins s σ H Q I t
  obtain ⟨ρ,env,h,st,r,p⟩:=t
  rw [den,denL] at p
  refine wpAny_Call_Name_kw (L2.ld_glob I hg hmg ?_ hdb)
  exact PySem.W.callWith_K0 I.kIn M.kp (qFQ (us:=[]) (vs:=[]) M FO hr hb .nil (fun pins H s e s' I z=>hxc pins σ H s e s' I z) I .nil (qFj (ds:=[]) hc hcl r rfl p))
end
end Fy
set_option Elab.async false
set_option linter.all false
set_option maxRecDepth 100000
set_option maxHeartbeats 4000000
namespace Fy
open PySem PySem.Spec PySem.Calls PyProof.Rows
open L2 (V Hp HO VK XK TE TT TA TS TI Cx Inv RelV Vals SqL SqT Rd upd qAB qAC PE PT PA PS PSs EP TP SP PI PG PIE Turn FpOk Ends HOk frs thn OpR CallR)
section
variable {X:Cx} {F:Nat→List D→M D} {B:Nat} {W:WX}
theorem qOj (n:Nat) (i:Int):L2.ixN n i=ixN n i:=rfl
theorem RepL.set {K:PySem.W.Frag} {ρ:List Addr} {H:Hp} {d:D} {v:V} (hv:RepV K ρ H d v):∀ {ds:List D} {vs:List V} (n:Nat),RepL K ρ H ds vs→RepL K ρ H (ds.set n d) (vs.set n v)
 | [],_,n,h=>by cases h;simp [RepL]
 | x::ds,_,0,⟨u,r,h1,h2,h3⟩=>by subst h1;exact ⟨v,r,rfl,hv,h3⟩
 | x::ds,_,n+1,⟨u,r,h1,h2,h3⟩=>by subst h1;exact ⟨u,r.set n v,rfl,h2,RepL.set hv n h3⟩
noncomputable def rSetD:V→V→V→Hp→(Hp→Prop)→Prop:=fun o i v H Q=>L2.rSetL o i v H Q∨∃ a vs k,o=.ref a∧i=L2.kV k∧H a=some (.dK vs)∧vs.length<sizeLine∧Q (upd H a (.dK (L2.putK vs k v)))
theorem set_D:L2.PSet X rSetD:=by
 intro pins s σ H o i v ov iv u Q I ro ri rv h
 rcases h with h | ⟨a,vs,k,rfl,rfl,hH,hl,q⟩
 ·exact L2.set_list pins s σ H o i v ov iv u Q I ro ri rv h
 ·cases ro
  exact qO6 I hH hl ri rv fun s' I'=>⟨_,I',q⟩
theorem put_K {W:WX} {E:Ends} {ρ ρ3:List Addr} {H H3:Hp} {env:Env} {h3:AH} {σ:L2.St} {k:Nat} {ky:Ky} {d:D} {v vx vy:V} (s:RepS X.K ρ H env σ) (e:Step ρ H ρ3 H3) (r3:RepH X.K ρ3 h3 H3) (hvx:RepV X.K ρ3 H3 (.ref k) vx) (hvy:RepV X.K ρ3 H3 (kyD ky) vy) (hv:RepV X.K ρ3 H3 d v)
    (q:PostS X.K W E ρ H (SR.ofR env (putKD d k ky h3) fun _ h2=>.nx env h2)):rSetD vx vy v H3 fun H'=>E.nx σ H':=by
  have q:PostS X.K W E ρ H (SR.ofR env (match h3[k]? with | some (.dct kvs)=>(if kvs.length<16777216 then .ok () (h3.set k (.dct (putY kvs ky d))) else .bad) | _=>.bad) fun _ h2=>.nx env h2):=q
  cases hk:h3[k]? with
  | none=>rw [hk] at q;exact False.elim q
  | some ob =>
    rw [hk] at q
    cases ob with
    | dct kvs =>
      by_cases z:kvs.length<16777216
      · have q:PostS X.K W E ρ H (SR.ofR env (if kvs.length<16777216 then .ok () (h3.set k (.dct (putY kvs ky d))) else .bad) fun _ h2=>.nx env h2):=q
        rw [if_pos z] at q
        obtain ⟨a,vs,rfl,ha,hH,hl⟩:=r3.dict hk hvx
        have hy:=ky_of hvy
        subst hy
        have stp:Step ρ3 H3 ρ3 (upd H3 a (.dK (L2.putK vs (kyV ky) v))):=Step.turn hH rfl (List.mem_of_getElem? ha)
        refine .inr ⟨a,vs,kyV ky,rfl,rfl,hH,by rw [← hl.length,szEq];exact z,?_⟩
        exact q ρ3 _ σ (e.trans stp) (r3.setDict hk ha hH (hl.put ky hv)) (s.mono (e.trans stp))
      · have q:PostS X.K W E ρ H (SR.ofR env (if kvs.length<16777216 then .ok () (h3.set k (.dct (putY kvs ky d))) else .bad) fun _ h2=>.nx env h2):=q
        rw [if_neg z] at q
        exact False.elim q
    | _=>exact (show False from q).elim
theorem qLn {o i e:Expr} {ca ci ce:CE} {pos pos':Pos} (ho:PE X o (tD X.K W (den F ca))) (hi:PE X i (tD X.K W (den F ci))) (he:PE X e (tD X.K W (den F ce))) (ha:∀ v,assign (.Subscript o i pos') X.env v=(do
      let ov ← holding [v] (eval o X.env)
      let iv ← holding [v,ov] (eval i X.env)
      standAt pos'
      holding [v,ov,iv] (setItem ov iv v)
      release [v,ov,iv] [])) (hs:swapsWithSole [.Subscript o i pos'] e pos.line X.env=pure false) (hw:swappedStores [.Subscript o i pos'] e X.env=pure none):PS X (.Assign [.Subscript o i pos'] e pos) (tDS X.K W (denS F B (.setIx ca ci ce))):=by
  refine PS.imp (L2.ps_asg he (L2.pg_sub ho hi set_D ha) hs hw) fun E σ H t=>?_
  obtain ⟨ρ,env,h,s,r,p⟩:=t
  rw [denS] at p
  refine ⟨ρ,env,h,s,r,PostS.ofR s p fun ρ1 h1 d H1 e1 r1 q v hv=>⟨ρ1,env,h1,s.mono e1,r1,?_⟩⟩
  have q:PostS X.K W E ρ1 H1 (SR.ofR env ((den F ca env h1).bind fun x g=>((den F ci env).bind fun y=>qEX d x y) g) fun _ h2=>.nx env h2):=q
  cases z:den F ca env h1 with
  | ok x h2 =>
    rw [z] at q
    have q:PostS X.K W E ρ1 H1 (SR.ofR env ((den F ci env h2).bind fun y g=>qEX d x y g) fun _ h2=>.nx env h2):=q
    intro ρ2 H2 e2 r2 vx hvx
    refine ⟨ρ2,env,h2,(s.mono e1).mono e2,r2,?_⟩
    cases z2:den F ci env h2 with
    | ok y h3 =>
      rw [z2] at q
      have q:PostS X.K W E ρ1 H1 (SR.ofR env (qEX d x y h3) fun _ h2=>.nx env h2):=q
      intro ρ3 H3 e3 r3 vy hvy
      cases x with
      | ref k =>
        cases y with
        | int j =>
          have q:PostS X.K W E ρ1 H1 (SR.ofR env (match h3[k]? with | some (.lst xs)=>(match ixN xs.length j with | some p=>.ok () (h3.set k (.lst (xs.set p d))) | none=>.bad) | _=>putKD d k (.int j) h3) fun _ h2=>.nx env h2):=q
          have e13:=e2.trans e3
          cases hk:h3[k]? with
          | none =>
            rw [hk] at q
            exact put_K (ky:=.int j) (s.mono e1) e13 r3 (hvx.mono e3 _ _) hvy (hv.mono e13 _ _) q
          | some ob =>
            rw [hk] at q
            cases ob with
            | lst xs =>
              have q:PostS X.K W E ρ1 H1 (SR.ofR env (match ixN xs.length j with | some p=>.ok () (h3.set k (.lst (xs.set p d))) | none=>.bad) fun _ h2=>.nx env h2):=q
              cases hx:ixN xs.length j with
              | none=>rw [hx] at q;exact False.elim q
              | some n =>
                rw [hx] at q
                cases hvy
                obtain ⟨a,vs,rfl,ha',hH,hl⟩:=r3.own hk (hvx.mono e3 _ _)
                have stp:Step ρ3 H3 ρ3 (upd H3 a (.lst (vs.set n v))):=Step.turn hH rfl (List.mem_of_getElem? ha')
                refine .inl ⟨a,vs,j,n,rfl,rfl,hH,by rw [qOj,hl.length];exact hx,?_⟩
                exact q ρ3 _ σ (e13.trans stp) (r3.setList hk ha' hH (RepL.set ((hv.mono e13 _ _)) n hl)) ((s.mono e1).mono (e13.trans stp))
            | _=>exact put_K (ky:=.int j) (s.mono e1) e13 r3 (hvx.mono e3 _ _) hvy (hv.mono e13 _ _) q
        | str j=>exact put_K (ky:=.str j) (s.mono e1) (e2.trans e3) r3 (hvx.mono e3 _ _) hvy (hv.mono (e2.trans e3) _ _) q
        | _=>exact (show False from q).elim
      | _=>exact (show False from q).elim
    | exc c h3 =>
      rw [z2] at q
      exact fun ρ' H' e' r'=>q ρ' H' σ (e2.trans e') r' ((s.mono e1).mono (e2.trans e'))
    | bad=>rw [z2] at q;exact q
  | exc c h2 =>
    rw [z] at q
    exact fun ρ' H' e' r'=>q ρ' H' σ e' r' ((s.mono e1).mono e')
  | bad=>rw [z] at q;exact q
end
end Fy
set_option Elab.async false
set_option linter.all false
set_option maxRecDepth 100000
set_option maxHeartbeats 4000000
namespace Fy
open PySem PySem.Spec PyProof.Rows
open L2 (V Hp HO VK TE TT TA TS TI Cx Inv RelV Vals SqL SqT Rd upd qAB qAC PE PT PA PS PSs EP OpR CallR IxR MtR SlR PO TO PI PG PIE Turn FpOk Ends)
inductive GK where
 | fn (i:Nat) | con (d:D) | blt | exc (c:Nat) | cls (c f:Nat)
structure Cc where
 N:List Str
 sc:Scope
 G:List (Str × GK)
 xs:List (Nat × List Nat)
 calm:Bool
 rs:Bool
 M:List (Str × Nat × List (Nat × Nat))
 A:List (Str × Nat × List Nat)
noncomputable def Cc.slot (c:Cc) (x:Str):Option Nat:=match c.sc.names.lookup x with
 | some .local=>if x == "__debug__" || x == "__classdict__" then none else c.N.idxOf? x
 | some .cell=>if x == "__debug__" || x == "__classdict__" then none else c.N.idxOf? x
 | some .free=>if x == "__debug__" || x == "__classdict__" then none else c.N.idxOf? x
 | _=>none
noncomputable def Cc.own (c:Cc) (x:Str):Option Nat:=match c.sc.names.lookup x with
 | some .local=>c.N.idxOf? x
 | some .cell=>c.N.idxOf? x
 | _=>none
noncomputable def Cc.glob (c:Cc) (x:Str):Option GK:=match c.sc.names.lookup x with
 | some .globalImplicit=>if x == "__debug__" || x == "__name__" then none else c.G.lookup x
 | _=>none
noncomputable def Cc.isB (c:Cc) (x:Str):Bool:=match c.glob x with
 | some .blt=>true
 | _=>false
noncomputable def Cc.loc (c:Cc) (x:Str):Option Nat:=match c.sc.names.lookup x with
 | some .local=>c.N.idxOf? x
 | _=>none
noncomputable def qLQ:Const→Option CE
 | .none=>some (.lit .non)
 | .bool b=>some (.lit (.bl b))
 | .int i=>some (.lit (.int i))
 | .str s=>some (.lit (.str s.cps.toList))
 | _=>none
noncomputable def binO:Operator→Option Bi
 | .Add=>some .add | .Sub=>some .sub | .Mult=>some .mul | .FloorDiv=>some .fdiv | .Mod=>some .mod | .Pow=>some .pow
 | _=>none
noncomputable def cmpO:CmpOp→Option Bi
 | .Eq=>some .eq | .NotEq=>some .ne | .Lt=>some .lt | .LtE=>some .le | .Gt=>some .gt | .GtE=>some .ge | .In=>some .isin | .NotIn=>some .notin
 | _=>none
noncomputable def bi1 (x:Str):Option Un:=if x="len" then some .len else if x="ord" then some .ord else if x="int" then some .int else if x="list" then some .list else none
noncomputable def bi1c (x:Str):Option Un:=if x="all" then some .all else none
noncomputable def bi2 (x:Str):Option Bi:=if x="min" then some .min2 else if x="max" then some .max2 else none
noncomputable def tyN (x:Str):Option Ty:=if x="int" then some .int else if x="str" then some .str else if x="bool" then some .bool else if x="list" then some .list else if x="tuple" then some .tuple else none
noncomputable def onWay:CE→Bool
 | .un (.fld k) _=>k == 122519838744953
 | _=>false
noncomputable def me1 (x:Str):Option Bi:=if x="append" then some .append else if x="join" then some .join else none
noncomputable def me1p (a:CE) (x:Str):Option Bi:=match onWay a&&decide (x="pop") with
 | true=>some .lpop
 | false=>me1 x
noncomputable def qAY:Expr→Bool
 | .Starred _ _=>false
 | _=>true
noncomputable def qEw:Expr→Bool
 | .Slice _ _ _ _=>false
 | _=>true
noncomputable def qB2:Expr→Bool
 | .Call (.Name _ _) [] [] _=>false
 | _=>true
noncomputable def qK5:Expr→Bool
 | .UnaryOp _ _ _=>false
 | .BoolOp _ _ _=>false
 | .IfExp _ _ _ _=>false
 | .Compare _ _ _ _=>false
 | _=>true
noncomputable def noSet:Expr→Bool
 | .Set _ _ _=>false
 | _=>true
noncomputable def qJB:Expr→Option Bool
 | .Constant (.bool b) _ _=>some b
 | _=>none
noncomputable def isNone:Expr→Bool
 | .Constant .none _ _=>true
 | _=>false
noncomputable def qK4 (scope sc:Scope):Scope:={ scope with names:=scope.names.map fun (n,k)=>if (k == .free&&sc.kind == .function&&sc.names.lookup n == some .cell) then (n,.cell) else (n,k) }
noncomputable def Cc.inner (c:Cc) (x:Str) (scope:Scope):Cc:=⟨maskN c.N x++[x],qK4 scope c.sc,c.G,c.xs,c.calm,false,c.M,c.A⟩
noncomputable def Cc.compOk (c:Cc) (x:Str) (scope:Scope):Bool :=
 decide (scope.kind=.function)&&scope.names.all (fun y=>decide (y.2≠.cell))&&scope.names.all (fun y=>decide (y.2=.local→scope.names.lookup y.1=some .local))&&decide (scope.names.lookup x=some .local)
 &&scope.names.all (fun y=>decide (y.2=.free→c.sc.names.lookup y.1=some .cell∨c.sc.names.lookup y.1=some .free))&&(decide (x≠noN)&&(decide (x∉c.N) || (decide (noN∉c.N)&&decide (scope.names.lookup noN=none))))&&scope.names.all (fun y=>decide (y.1≠x→y.2=.local→y.1∉c.N))
noncomputable def need {α:Type} (b:Bool) (x:α):Option α:=match b with
 | true=>some x
 | false=>none
theorem qAD {α:Type} {b:Bool} {x r:α} (h:need b x=some r):b=true∧x=r:=by
 cases b with
 | true=>exact ⟨rfl,Option.some.inj h⟩
 | false=>cases h
theorem bd_ok {α β:Type} {o:Option α} {f:α→Option β} {r:β} (h:o.bind f=some r):∃ a,o=some a∧f a=some r:=by
 cases o with
 | none=>cases h
 | some a=>exact ⟨a,rfl,h⟩
structure Rc where
 e:Cc→Expr→Option CE
 cmp:Cc→Expr→CmpOp→Expr→Option CE
 b:Cc→Str→List Expr→Option CE
 l:Cc→List Expr→Option CL
 o:Cc→Option Expr→Option CP
 t:Cc→Expr→Option CT
 tb:Cc→BoolOp→List Expr→Option CT
 i:Cc→Expr→Option CI
noncomputable def isSl:Expr→Option (Option Expr × Option Expr)
 | .Slice lo hi st _=>match st with
  | none=>some (lo,hi)
  | some _=>none
 | _=>none
theorem qMb {b:Expr} {q:Option Expr × Option Expr} (h:isSl b=some q):∃ p,b=.Slice q.1 q.2 none p:=by
 cases b with
 | Slice l u s p =>
  cases s with
  | none=>cases h;exact ⟨p,rfl⟩
  | some _=>cases h
 | _=>cases h
noncomputable def isOne:Expr→Bool
 | .Constant (.int i) _ _=>decide (i=1)
 | _=>false
noncomputable def isM1:Expr→Bool
 | .UnaryOp .USub a _=>isOne a
 | _=>false
noncomputable def isRev:Expr→Bool
 | .Slice none none (some e) _=>isM1 e
 | _=>false
noncomputable def isS:Expr→Option Str
 | .Constant k _ _=>match k with
  | .str s=>some s
  | _=>none
 | _=>none
theorem qOp {b:Expr} {s:Str} (h:isS b=some s):∃ j p,b=.Constant (.str s) j p:=by
 cases b with
 | Constant k j p =>
  cases k with
  | str s=>cases h;exact ⟨j,p,rfl⟩
  | _=>cases h
 | _=>cases h
noncomputable def isNm:Expr→Option Str
 | .Name x _=>some x
 | _=>none
theorem qDy {b:Expr} {s:Str} (h:isNm b=some s):∃ p,b=.Name s p:=by
 cases b with
 | Name x p=>cases h;exact ⟨p,rfl⟩
 | _=>cases h
structure Gn where
 x:Str
 p:Pos
 iter:Expr
 ifs:List Expr
noncomputable def isGen:List Comprehension→Option Gn
 | []=>none
 | g::r=>match r with
  | []=>match g.target with
   | .Name x p=>need (decide (g.is_async=0)) ⟨x,p,g.iter,g.ifs⟩
   | _=>none
  | _::_=>none
theorem qHL {gs:List Comprehension} {q:Gn} (h:isGen gs=some q):gs=[⟨.Name q.x q.p,q.iter,q.ifs,0⟩]:=by
 cases gs with
 | nil=>cases h
 | cons g r =>
  cases r with
  | cons _ _=>cases h
  | nil =>
   obtain ⟨t,it,f,a⟩:=g
   cases t with
   | Name x p =>
    obtain ⟨h1,rfl⟩:=qAD h
    have h2:a=0:=of_decide_eq_true h1
    subst h2
    rfl
   | _=>cases h
noncomputable def sName (c:Cc) (x:Str):Option CE:=match c.slot x with
 | some i=>some (.var i)
 | none=>match c.glob x with
  | some (.con d)=>some (.lit d)
  | _=>none
noncomputable def sUn (r:Rc) (c:Cc) (a:Expr):UnaryOp→Option CE
 | .Not=>(r.e c a).bind fun x=>some (.not x)
 | .USub=>(r.e c a).bind fun x=>some (.un .neg x)
 | _=>none
noncomputable def sBool (r:Rc) (c:Cc) (op:BoolOp) (pos:Pos):List Expr→Option CE
 | []=>none
 | a::es=>match es with
  | []=>r.e c a
  | b::es=>(r.e c a).bind fun x=>(r.e c (.BoolOp op (b::es) pos)).bind fun y=>some (match op with | .And=>.and x y | .Or=>.or x y)
noncomputable def qK1 (r:Rc) (c:Cc) (a:Expr) (op op':CmpOp) (b d:Expr):Option CE :=
 (cmpO op).bind fun o=>(cmpO op').bind fun p=>(r.e c a).bind fun x=>(r.e c b).bind fun y=>(r.e c d).bind fun z=>need (!lastMarks [op,op'] [b,d]) (.chain o p x y z)
noncomputable def qEp (r:Rc) (c:Cc) (a:Expr) (ops:List CmpOp) (cs:List Expr):Option CE:=match ops with
 | []=>none
 | op::ops=>match cs with
  | []=>none
  | b::cs=>match ops with
   | []=>match cs with
    | []=>r.cmp c a op b
    | _::_=>none
   | op'::ops=>match ops with
    | _::_=>none
    | []=>match cs with
     | []=>none
     | d::cs=>match cs with
      | []=>qK1 r c a op op' b d
      | _::_=>none
noncomputable def sSub (r:Rc) (c:Cc) (a b:Expr):Option CE:=match isRev b with
 | true=>none
 | false=>match isSl b with
  | some q=>(r.e c a).bind fun x=>(r.o c q.1).bind fun l=>(r.o c q.2).bind fun u=>some (.sl x l u)
  | none=>(r.e c a).bind fun x=>(r.e c b).bind fun y=>need (qEw b) (.bi .ix x y)
noncomputable def qK2 (r:Rc) (c:Cc) (x:Str) (es:List Expr):Option GK→Option CE
 | some (.fn i)=>match es with
  | []=>need c.calm (.call i .nil)
  | e::es=>(r.l c (e::es)).bind fun l=>need c.calm (.call i l)
 | some .blt=>r.b c x es
 | some (.cls k f)=>match es with
  | []=>need c.calm (.make k f .nil)
  | e::es=>(r.l c (e::es)).bind fun l=>need c.calm (.make k f l)
 | _=>none
noncomputable def sMeth (r:Rc) (c:Cc) (m:Str) (ok:Bool) (x:CE) (es:List Expr):Option (Nat × List (Nat × Nat))→Option CE
 | some q=>match es with
  | []=>need (c.calm&&ok) (.meth q.1 q.2 x .nil)
  | e::es=>(r.l c (e::es)).bind fun l=>need (c.calm&&ok&&decide (es.length<20)) (.meth q.1 q.2 x l)
 | none=>match es with
  | []=>none
  | b::es=>match es with
   | []=>(me1p x m).bind fun o=>(r.e c b).bind fun y=>need (ok&&qAY b) (.me o x y)
   | d::es=>match es with
    | []=>match decide (m="setdefault") with
     | true=>none
     | false=>none
    | _::_=>none
noncomputable def sCall (r:Rc) (c:Cc) (f:Expr) (es:List Expr) (ks:List Keyword) (p:Pos):Option CE:=match ks with
 | _::_=>none
 | []=>match f with
  | .Name x _=>qK2 r c x es (c.glob x)
  | .Attribute a m ap=>(r.e c a).bind fun x=>sMeth r c m (qB2 a&&(ap.endLine == p.line)) x es (c.M.lookup m)
  | _=>none
noncomputable def sComp (r:Rc) (c:Cc) (elt:Expr) (scope:Scope) (q:Gn):Option CE:=match q.ifs with
 | []=>(r.i c q.iter).bind fun it=>(r.e (c.inner q.x scope) elt).bind fun y=>need (c.calm&&c.compOk q.x scope) (.comp y it)
 | t::ts=>match ts with
  | []=>(r.i c q.iter).bind fun it=>(r.t (c.inner q.x scope) t).bind fun z=>(r.e (c.inner q.x scope) elt).bind fun y=>need (c.calm&&c.compOk q.x scope) (.compIf y z it)
  | _::_=>none
noncomputable def rdKey:Option Expr→Option Ky
 | none=>none
 | some e=>match e with
  | .Constant k _ _=>match k with
   | .str s=>some (.str s.cps.toList)
   | .int i=>some (.int i)
   | _=>none
  | _=>none
noncomputable def qIY:List (Option Expr)→Option (List Ky)
 | []=>some []
 | k::ks=>(rdKey k).bind fun x=>(qIY ks).bind fun xs=>some (x::xs)
noncomputable def qIX (r:Rc) (c:Cc):List Expr→Option CL
 | []=>some .nil
 | e::es=>(r.e c e).bind fun x=>(qIX r c es).bind fun l=>some (.cons x l)
noncomputable def sDisp (r:Rc) (c:Cc) (keys:List (Option Expr)) (values:List Expr):Option CE :=
 (qIY keys).bind fun ks=>(qIX r c values).bind fun l=>need (decide (keys.length=values.length)&&decide (keys.length≤15)) (.disp ks l)
noncomputable def eS (r:Rc) (c:Cc):Expr→Option CE
 | .Constant k _ _=>qLQ k
 | .Name x _=>sName c x
 | .BinOp a op b _=>(binO op).bind fun o=>(r.e c a).bind fun x=>(r.e c b).bind fun y=>some (.bi o x y)
 | .UnaryOp op a _=>sUn r c a op
 | .BoolOp op es pos=>sBool r c op pos es
 | .Compare a ops cs _=>qEp r c a ops cs
 | .Tuple es _ _=>(r.l c es).bind fun l=>some (.tup l)
 | .List es _=>(r.l c es).bind fun l=>some (.lst l)
 | .Subscript a b _=>sSub r c a b
 | .Dict keys values _=>sDisp r c keys values
 | .Call f es ks p=>sCall r c f es ks p
 | .Attribute a f _=>(c.A.lookup f).bind fun k=>(r.e c a).bind fun x=>need (qB2 a) (.un (.fld k.1) x)
 | .ListComp elt gens scope _=>(isGen gens).bind fun q=>sComp r c elt scope q
 | _=>none
noncomputable def sIs (u:Un) (v:Bool→Un) (x:CE) (b:Expr):Option CE:=match isNone b with
 | true=>some (.un u x)
 | false=>(qJB b).bind fun k=>some (.un (v k) x)
noncomputable def sCmp (r:Rc) (c:Cc) (a:Expr) (op:CmpOp) (b:Expr):Option CE:=(cmpO op).bind fun o=>(r.e c a).bind fun x=>(r.e c b).bind fun y=>need (!behindInMarks op b) (.bi o x y)
noncomputable def cmpS (r:Rc) (c:Cc) (a:Expr) (op:CmpOp) (b:Expr):Option CE:=match op with
 | .Is=>(r.e c a).bind fun x=>sIs .isN .isB x b
 | .IsNot=>(r.e c a).bind fun x=>sIs .notN .nsB x b
 | op=>sCmp r c a op b
noncomputable def sIsi (r:Rc) (c:Cc) (a:Expr) (y:Str):Option CE:=(r.e c a).bind fun z=>match tyN y with
 | some t=>need (qAY a&&c.isB y) (.un (.isi t) z)
 | none=>none
noncomputable def sB1 (c:Cc) (x:Str) (a:Expr) (y:CE):Option CE:=match bi1 x with
 | some o=>need (qAY a) (.un o y)
 | none=>(bi1c x).bind fun o=>need (qAY a&&c.calm) (.un o y)
noncomputable def sB2 (r:Rc) (c:Cc) (x:Str) (a b:Expr):Option CE:=(bi2 x).bind fun o=>(r.e c a).bind fun u=>(r.e c b).bind fun v=>need (qAY a&&qAY b&&c.calm) (.bi o u v)
noncomputable def isRg:Expr→Option (List Expr)
 | .Call f es ks _=>match ks with
  | []=>match f with
   | .Name x _=>need (decide (x="range")) es
   | _=>none
  | _::_=>none
 | _=>none
theorem qJA {e:Expr} {es:List Expr} (h:isRg e=some es):∃ p q,e=.Call (.Name "range" p) es [] q:=by
 cases e with
 | Call f es ks q =>
  cases ks with
  | cons _ _=>cases h
  | nil =>
   cases f with
   | Name x p =>
    obtain ⟨h1,rfl⟩:=qAD h
    rw [of_decide_eq_true h1]
    exact ⟨p,q,rfl⟩
   | _=>cases h
 | _=>cases h
noncomputable def sLr (r:Rc) (c:Cc) (x:Str):List Expr→Option CE
 | []=>none
 | a::es=>match es with
  | []=>(r.e c a).bind fun y=>need (decide (x="list")&&(c.calm&&(c.isB "range"&&qAY a))) (.un .lrng y)
  | b::es=>match es with
   | []=>(r.e c a).bind fun y=>(r.e c b).bind fun z=>need (decide (x="list")&&(c.calm&&(c.isB "range"&&(qAY a&&qAY b)))) (.bi .lrng y z)
   | _::_=>none
noncomputable def bS (r:Rc) (c:Cc) (x:Str):List Expr→Option CE
 | []=>none
 | a::es=>match es with
  | []=>match isRg a with
   | some es=>sLr r c x es
   | none=>(r.e c a).bind fun y=>sB1 c x a y
  | b::es=>match es with
   | []=>match decide (x="isinstance") with
    | true=>(isNm b).bind fun y=>sIsi r c a y
    | false=>sB2 r c x a b
   | _::_=>none
noncomputable def lS (r:Rc) (c:Cc):List Expr→Option CL
 | []=>some .nil
 | e::es=>(r.e c e).bind fun x=>(r.l c es).bind fun l=>need (qAY e) (.cons x l)
noncomputable def oS (r:Rc) (c:Cc):Option Expr→Option CP
 | none=>some .no
 | some e=>(r.e c e).bind fun x=>some (.at x)
noncomputable def sT (r:Rc) (c:Cc) (e:Expr):Option CT:=(r.e c e).bind fun x=>need (qK5 e) (.val x)
noncomputable def tS (r:Rc) (c:Cc) (e:Expr):Option CT:=match e with
 | .UnaryOp op a _=>match op with
  | .Not=>(r.t c a).bind fun x=>some (.not x)
  | _=>none
 | .BoolOp op es _=>r.tb c op es
 | .Compare a ops cs _=>(qEp r c a ops cs).bind fun x=>some (.val x)
 | e=>sT r c e
noncomputable def tbS (r:Rc) (c:Cc) (op:BoolOp):List Expr→Option CT
 | []=>none
 | a::es=>match es with
  | []=>r.t c a
  | b::es=>(r.t c a).bind fun x=>(r.tb c op (b::es)).bind fun y=>some (match op with | .And=>.and x y | .Or=>.or x y)
noncomputable def sRg (r:Rc) (c:Cc):List Expr→Option CI
 | []=>none
 | a::es=>match es with
  | []=>(r.e c a).bind fun y=>need (qAY a&&c.isB "range") (.rng1 y)
  | b::es=>match es with
   | []=>(r.e c a).bind fun y=>(r.e c b).bind fun z=>need (qAY a&&qAY b&&c.isB "range") (.rng2 y z)
   | _::_=>none
noncomputable def iS (r:Rc) (c:Cc) (e:Expr):Option CI:=match isRg e with
 | some es=>sRg r c es
 | none=>(r.e c e).bind fun y=>need (noSet e) (.of y)
noncomputable def nextR (r:Rc):Rc:=⟨eS r,cmpS r,bS r,lS r,oS r,tS r,tbS r,iS r⟩
noncomputable def rcN:Nat→Rc
 | 0=>⟨fun _ _=>none,fun _ _ _ _=>none,fun _ _ _=>none,fun _ _=>none,fun _ _=>none,fun _ _=>none,fun _ _ _=>none,fun _ _=>none⟩
 | n+1=>nextR (rcN n)
noncomputable def qLJ:Expr→Bool
 | .ListComp _ gs _ _=>match isGen gs with
  | some q=>decide (q.ifs.length≤1)
  | none=>false
 | _=>false
noncomputable def qFg:Expr→Bool
 | .ListComp _ _ _ _=>false
 | .SetComp _ _ _ _=>false
 | .DictComp _ _ _ _ _=>false
 | _=>true
noncomputable def Cc.still (c:Cc):Cc:={ c with rs:=false }
noncomputable def Cc.dull (c:Cc):Cc:={ c with rs:=false,calm:=false }
structure Rs where
 s:Cc→Stmt→Option CS
 ss:Cc→List Stmt→Option CS
 h:Cc→List ExceptHandler→Option CH
noncomputable def sSet (r:Rc) (c:Cc) (e:Expr):Expr→Option CS
 | .Name x _=>(c.own x).bind fun i=>(r.e c e).bind fun y=>need (qFg e || qLJ e) (.set (.nm i) y)
 | .Attribute o f _=>(c.A.lookup f).bind fun k=>(r.e c o).bind fun x=>(r.e c e).bind fun y=>need (qFg e) (.setF x k.1 k.2 y)
 | .Subscript o i _=>(r.e c o).bind fun x=>(r.e c i).bind fun z=>(r.e c e).bind fun y=>need (qFg e&&qEw i) (.setIx x z y)
 | _=>none
noncomputable def isTg (c:Cc):Expr→Option TG
 | .Name x _=>(c.own x).bind fun i=>some (.nm i)
 | .Tuple es _ _=>match es with
  | [a,b]=>(isNm a).bind fun x=>(isNm b).bind fun y=>(c.own x).bind fun i=>(c.own y).bind fun j=>some (.two i j)
  | _=>none
 | _=>none
noncomputable def isRs:Expr→Option Str
 | .Call f es ks _=>match ks with
  | []=>match es with
   | [k]=>(isS k).bind fun _=>isNm f
   | _=>none
  | _::_=>none
 | _=>none
theorem qMc {e:Expr} {x:Str} (h:isRs e=some x):∃ p s j q z,e=.Call (.Name x p) [.Constant (.str s) j q] [] z:=by
 cases e with
 | Call f es ks z =>
  cases ks with
  | cons _ _=>cases h
  | nil =>
   cases es with
   | nil=>cases h
   | cons k es =>
    cases es with
    | cons _ _=>cases h
    | nil =>
     obtain ⟨s,h1,h2⟩:=bd_ok h
     obtain ⟨j,q,rfl⟩:=qOp h1
     obtain ⟨p,rfl⟩:=qDy h2
     exact ⟨p,s,j,q,z,rfl⟩
 | _=>cases h
noncomputable def qIV (c:Cc) (x:Str):Option CS:=match c.glob x with
 | some (.exc i)=>need (c.rs&&c.calm) (.raise i)
 | _=>none
noncomputable def sTry (q:Rs) (c:Cc) (a:List Stmt) (hs:List ExceptHandler) (els fin:List Stmt):Option CS:=match hs with
 | []=>none
 | h::hs=>match els with
  | _::_=>none
  | []=>match fin with
   | _::_=>none
   | []=>(q.ss c.still a).bind fun x=>(q.h c (h::hs)).bind fun y=>need c.calm (.tryx x y)
noncomputable def stS (r:Rc) (q:Rs) (c:Cc):Stmt→Option CS
 | .Assign ts e _=>match ts with
  | [t]=>sSet r c e t
  | _=>none
 | .Expr e _=>(r.e c e).bind fun y=>need (qFg e) (.exp y)
 | .Return v _=>match v with
  | some e=>(r.e c e).bind fun y=>some (.ret y)
  | none=>some .retN
 | .Pass _=>some .skip
 | .Break _=>some .brk
 | .Continue _=>some .cnt
 | .If t a b _=>(r.t c t).bind fun z=>(q.ss c a).bind fun x=>(q.ss c b).bind fun y=>some (.ite z x y)
 | .For tg it a els _=>match els with
  | []=>(isTg c tg).bind fun t=>(r.i c it).bind fun z=>(q.ss c.still a).bind fun y=>need c.calm (.fori t z y)
  | _::_=>none
 | .Raise x y _=>match y with
  | some _=>none
  | none=>match x with
   | none=>none
   | some e=>(isRs e).bind fun x=>qIV c x
 | .Try a hs els fin _=>sTry q c a hs els fin
 | _=>none
noncomputable def ssS (q:Rs) (c:Cc):List Stmt→Option CS
 | []=>some .skip
 | s::r=>match r with
  | []=>some ((q.s c s).getD .opq)
  | t::r=>(q.ss c (t::r)).bind fun y=>some (.seq ((q.s c s).getD .opq) y)
noncomputable def sH (q:Rs) (c:Cc) (i:Nat) (nm:Option Str) (b:List Stmt) (r:List ExceptHandler):Option CH:=match b with
 | []=>none
 | s::b=>(c.xs.lookup i).bind fun cs=>(q.ss c.dull (s::b)).bind fun k=>(q.h c r).bind fun z=>match nm with
  | none=>some (.cons cs k z)
  | some m=>(c.loc m).bind fun j=>some (.as cs j k z)
noncomputable def hS (q:Rs) (c:Cc):List ExceptHandler→Option CH
 | []=>some .nil
 | .ExceptHandler ty nm b _::r=>match ty with
  | none=>none
  | some t=>(isNm t).bind fun x=>match c.glob x with
   | some (.exc i)=>sH q c i nm b r
   | _=>none
noncomputable def nextS (r:Rc) (q:Rs):Rs:=⟨stS r q,ssS q,hS q⟩
noncomputable def rsN:Nat→Rs
 | 0=>⟨fun _ _=>none,fun _ _=>none,fun _ _=>none⟩
 | n+1=>nextS (rcN n) (rsN n)
noncomputable def cSs (c:Cc) (n:Nat) (b:List Stmt):Option CS:=(rsN n).ss c b
end Fy
set_option Elab.async false
set_option linter.all false
set_option maxRecDepth 100000
set_option maxHeartbeats 4000000
namespace Fy
open PySem PySem.Spec PyProof.Rows
open L2 (V Hp HO VK TE TT TA TS TI Cx Inv RelV Vals SqL SqT Rd upd qAB qAC PE PT PA PS PSs EP OpR CallR IxR MtR SlR PO TO PI PG PIE Turn FpOk Ends)
noncomputable def GOk (X:Cx) (F:Nat→List D→M D) (k:Nat) (ex:Nat→Option Addr) (x:Str):GK→Prop
 | .fn i=>∃ f fd ps,X.mg x=some (.ref f)∧PySem.W.keepIn X.K (.ref f)=true∧L2.Binds X.K fd ps []∧L2.FnOk X.prog X.w X.K X.mg X.base (CXD X.prog X.w ex) k f fd ps (spD X.K (F i))
 | .con d=>∃ v u,X.mg x=some u∧RelV v u∧∀ ρ H,RepV X.K ρ H d v
 | .blt=>X.mg x=none
 | .exc c=>∃ C,X.mg x=some (.ref C)∧ex c=some C∧isXC X.K C=true
 | .cls c i=>∃ C f fd ps,X.mg x=some (.ref C)∧ClsAt X.K c C∧L2.Cls X.K C∧L2.Mk X.K C f∧L2.Binds X.K fd ps []∧L2.FnOk X.prog X.w X.K X.mg X.base (CXD X.prog X.w ex) k f fd ps (spD X.K (F i))
structure Body (X:Cx) (c:Cc) (F:Nat→List D→M D) (k:Nat) (ex:Nat→Option Addr) (W:WX):Prop where
 N:X.N=c.N
 nd:c.N.Nodup
 sc:X.env.scope=c.sc
 calm:c.calm=true→X.calm=true
 room:c.calm=true→L2.Room (k+1) X.A
 hu:X.A.units+64<cLine
 glob:∀ x g,c.G.lookup x=some g→GOk X F k ex x g
 xq:∀ i cs xl C j D,c.xs.lookup i=some cs→c.xs.lookup 1=some xl→ex i=some C→ClsAt X.K j D→xl.contains j=true→PySem.W.kitOne X.K (.ref D) (.ref C)=some (cs.contains j)
 xv:∀ cs xl j D,c.xs.lookup 0=some cs→c.xs.lookup 1=some xl→ClsAt X.K j D→xl.contains j=true→PySem.W.kitOne X.K (.ref D) (.type "ValueError")=some (cs.contains j)
 mt:∀ m mk tb,c.M.lookup m=some (mk,tb)→m=nmOf mk∧mk<256 ^ 60∧MtOk X F k ex m tb
 at':∀ f kk cs,c.A.lookup f=some (kk,cs)→f=nmOf kk∧kk<256 ^ 60∧∀ cc C,cs.contains cc=true→ClsAt X.K cc C→L2.NoAttr X.K C (nmOf kk)
 xg:∀ xl j D,c.xs.lookup 1=some xl→ClsAt X.K j D→xl.contains j=true→XGet X.K D
 xc:∀ pins σ H s0 e s',Inv X pins σ H s0→CXD X.prog X.w ex X.stack H s0 (fun _ co H'=>∃ c,co=some c∧W c σ H') e s'→X.xe e s'
structure BodyS (X:Cx) (c:Cc) (F:Nat→List D→M D) (k:Nat) (ex:Nat→Option Addr) (W:WX):Prop extends Body X c F k ex W where
 fn:∀ x,X.fn x=true
 stk:X.stack=X.env::X.outer∧X.env.frame=some X.env.locals
 noex:X.ex=[]
 xcl:∀ i C,ex i=some C→ClsAt X.K i C
 xr:c.rs=true→∀ pins σ H s a args h' i C,ex i=some C→Inv X pins σ H s→Heap.MadeExcOf s.heap h' a (.ref C) args→W i σ H→X.xe (.ref a) { s with heap:=h' }
 xm:∀ i cs C j D,c.xs.lookup i=some cs→ex i=some C→ex j=some D→PySem.W.exmOne X.K (.ref D) (.ref C)=some (cs.contains j)
theorem qE5 {l:List Str} {x:Str} {i:Nat} (h:l.idxOf? x=some i):l[i]?=some x:=by
 unfold List.idxOf? at h
 rw [List.findIdx?_eq_some_iff_getElem] at h
 obtain ⟨h1,h2,_⟩:=h
 rw [List.getElem?_eq_getElem h1]
 simpa using h2
theorem qBC {e:Expr} {es:List Expr} {env:PySem.Env} (h:qAY e=true):starEach (e::es) env=(false,eval e env)::starEach es env:=by
 cases e <;> first | rfl | cases h
theorem qJ4 {env:PySem.Env}:starEach [] env=[]:=rfl
theorem star1 {e:Expr} {env:PySem.Env} (h:qAY e=true):starEach [e] env=[(false,eval e env)]:=by rw [qBC h,qJ4]
theorem star2 {e e':Expr} {env:PySem.Env} (h:qAY e=true) (h':qAY e'=true):starEach [e,e'] env=[(false,eval e env),(false,eval e' env)]:=by rw [qBC h,star1 h']
noncomputable def stars:List Expr→Bool
 | []=>true
 | e::es=>qAY e&&stars es
theorem qDe {env:PySem.Env} {pos:Pos}:∀ {es:List Expr},stars es=true→(backTo pos (starEach es env)).any (·.1)=false
 | [],_=>rfl
 | e::es,h=>by
  have h:=Bool.and_eq_true_iff.mp h
  rw [qBC h.1]
  show (false || (backTo pos (starEach es env)).any (·.1))=false
  rw [qDe h.2]
  rfl
theorem qDB {o:Expr} {m:Str} {env:PySem.Env} {w:Sem Value} (h:qB2 o=true):attributeBase o m env w=w:=by
 cases o with
 | Call f es ks pos =>
  cases f with
  | Name id p =>
   cases es with
   | nil =>
    cases ks with
    | nil=>cases h
    | cons _ _=>rfl
   | cons _ _=>rfl
  | _=>rfl
 | _=>rfl
theorem qKY {b:Expr} (h:qEw b=true):L2.PlainIx b:=by
 intro o i
 cases b <;> first | rfl | cases h
section
variable {X:Cx} {c:Cc} {F:Nat→List D→M D} {k B:Nat} {ex:Nat→Option Addr} {W:WX}
theorem Body.vis (T:Body X c F k ex W) {x:Str} {i:Nat} (h:c.slot x=some i):X.N[i]?=some x∧L2.Vis X.env.scope x∧(x == ("__debug__":Str))=false∧(x == ("__classdict__":Str))=false:=by
 unfold Cc.slot at h
 rw [T.N]
 have key:∀ {kd:NameKind},c.sc.names.lookup x=some kd→(kd=.local∨kd=.cell∨kd=.free)→(if (x == ("__debug__":Str) || x == ("__classdict__":Str))=true then none else c.N.idxOf? x)=some i→c.N[i]?=some x∧L2.Vis X.env.scope x∧(x == ("__debug__":Str))=false∧(x == ("__classdict__":Str))=false:=by
  intro kd hk hd hi
  split at hi
  ·cases hi
  ·rename_i hn
   refine ⟨qE5 hi,?_,?_⟩
   ·unfold L2.Vis
    rw [T.sc,hk]
    rcases hd with rfl | rfl | rfl <;> simp
   ·simpa using hn
 split at h
 ·rename_i hk;exact key hk (.inl rfl) h
 ·rename_i hk;exact key hk (.inr (.inl rfl)) h
 ·rename_i hk;exact key hk (.inr (.inr rfl)) h
 ·cases h
theorem Body.loc (T:Body X c F k ex W) {x:Str} {i:Nat} (h:c.own x=some i):X.N[i]?=some x∧L2.Loc X.env.scope x:=by
 unfold Cc.own at h
 rw [T.N]
 split at h
 ·rename_i hk
  refine ⟨qE5 h,.inl ?_⟩
  rw [T.sc]
  exact hk
 ·rename_i hk
  refine ⟨qE5 h,.inr ?_⟩
  rw [T.sc]
  exact hk
 ·cases h
theorem Body.gl (T:Body X c F k ex W) {x:Str} {g:GK} (h:c.glob x=some g):L2.Gl X x∧(x == ("__debug__":Str))=false∧x≠"__name__"∧GOk X F k ex x g:=by
 unfold Cc.glob at h
 split at h
 ·rename_i hk
  split at h
  ·cases h
  ·rename_i hn
   refine ⟨?_,by revert hn;cases (x == ("__debug__":Str)) <;> simp,fun z=>hn (by simp [z]),T.glob x g h⟩
   show X.env.scope.names.lookup x=_
   rw [T.sc]
   exact hk
 ·cases h
theorem Body.nd' (T:Body X c F k ex W):X.N.Nodup:=by rw [T.N];exact T.nd
theorem qM5 {op:Operator} {o:Bi} (h:binO op=some o):OpR X (binaryOp op) (rB X.K o):=by
 cases op <;> first | (cases h;first | exact qLx | exact qLt | exact qLv | exact qKA | exact qLw | exact qLu) | cases h
theorem qCC (T:Body X c F k ex W) {op:CmpOp} {o:Bi} (h:cmpO op=some o):isCmp o=true∧OpR X (compareOp op) (rB X.K o):=by
 cases op <;> first
  | (cases h;exact ⟨rfl,by first | exact qOB T.hu | exact qN5 T.hu | exact qN6 | exact qN7 | exact qN9 | exact qOA | exact qN8 T.hu | exact qIg⟩)
  | cases h
theorem qPI (T:Body X c F k ex W) {x:Str} {o:Un} {a:Expr} {ca:CE} {p pos:Pos} (h:bi1 x=some o) (hg:c.glob x=some .blt) (ha:PE X a (tD X.K W (den F ca))) (hs:qAY a=true):PE X (.Call (.Name x p) [a] [] pos) (tD X.K W (den F (.un o ca))):=by
 obtain ⟨g1,g2,g3,g4⟩:=T.gl hg
 have st:=star1 (env:=X.env) hs
 have go:∀ {id:String},CallR X (.builtin id) (rC X.K o)→bootBuiltins x=some (.builtin id)→PE X (.Call (.Name x p) [a] [] pos) (tD X.K W (den F (.un o ca))):=fun hc hv =>
  qFA (a:=a) (L2.pe_callB hc g1 g4 hv (L2.pa_cons ha L2.pa_nil (by rw [st];rfl)) g3 g2 (by rw [st];rfl)) fun x H Q z=>⟨x,rfl,z⟩
 have goT:∀ {id:String},CallR X (.type id) (rC X.K o)→bootBuiltins x=some (.type id)→PE X (.Call (.Name x p) [a] [] pos) (tD X.K W (den F (.un o ca))):=fun hc hv =>
  qFA (a:=a) (L2.pe_callTy hc g1 g4 hv (L2.pa_cons ha L2.pa_nil (by rw [st];rfl)) g3 g2 (by rw [st];rfl)) fun x H Q z=>⟨x,rfl,z⟩
 unfold bi1 at h
 split at h
 ·rename_i e;subst e;cases h;exact go qJg (by decide +kernel)
 split at h
 ·rename_i e;subst e;cases h;exact go qJf (by decide +kernel)
 split at h
 ·rename_i e;subst e;cases h;exact goT qJi (by decide +kernel)
 split at h
 ·rename_i e;subst e;cases h;exact goT qH1 (by decide +kernel)
 ·cases h
theorem qM6 (T:Body X c F k ex W) (hc:c.calm=true) {x:Str} {o:Un} {a:Expr} {ca:CE} {p pos:Pos} (h:bi1c x=some o) (hg:c.glob x=some .blt) (ha:PE X a (tD X.K W (den F ca))) (hs:qAY a=true):PE X (.Call (.Name x p) [a] [] pos) (tD X.K W (den F (.un o ca))):=by
 obtain ⟨g1,g2,g3,g4⟩:=T.gl hg
 have st:=star1 (env:=X.env) hs
 have go:∀ {id:String},CallR X (.builtin id) (rC X.K o)→bootBuiltins x=some (.builtin id)→PE X (.Call (.Name x p) [a] [] pos) (tD X.K W (den F (.un o ca))):=fun hc hv =>
  qFA (a:=a) (L2.pe_callB hc g1 g4 hv (L2.pa_cons ha L2.pa_nil (by rw [st];rfl)) g3 g2 (by rw [st];rfl)) fun x H Q z=>⟨x,rfl,z⟩
 unfold bi1c at h
 split at h
 ·rename_i e;subst e;cases h;exact go (qJk (T.calm hc)) (by decide +kernel)
 ·cases h
theorem qPH (T:Body X c F k ex W) (hc:c.calm=true) {x:Str} {o:Bi} {a b:Expr} {ca cb:CE} {p pos:Pos} (h:bi2 x=some o) (hg:c.glob x=some .blt) (ha:PE X a (tD X.K W (den F ca))) (hb:PE X b (tD X.K W (den F cb))) (hs:qAY a=true) (hs':qAY b=true):PE X (.Call (.Name x p) [a,b] [] pos) (tD X.K W (den F (.bi o ca cb))):=by
 obtain ⟨g1,g2,g3,g4⟩:=T.gl hg
 have st:=star2 (env:=X.env) hs hs'
 have st1:=star1 (env:=X.env) hs'
 have go:∀ {id:String},CallR X (.builtin id) (rC2 X.K o)→bootBuiltins x=some (.builtin id)→PE X (.Call (.Name x p) [a,b] [] pos) (tD X.K W (den F (.bi o ca cb))):=fun hc hv =>
  qJY (L2.pe_callB hc g1 g4 hv (L2.pa_cons ha (L2.pa_cons hb L2.pa_nil (by rw [st1];rfl)) (by rw [st,st1])) g3 g2 (by rw [st,st1]) (by rw [st1];rfl)) fun x y H Q z=>⟨x,y,rfl,z⟩
 unfold bi2 at h
 split at h
 ·rename_i e;subst e;cases h;exact go (qHz (T.calm hc)) (by decide +kernel)
 split at h
 ·rename_i e;subst e;cases h;exact go (qH0 (T.calm hc)) (by decide +kernel)
 ·cases h
theorem qOn (T:Body X c F k ex W) {x y:Str} {t:Ty} {a:Expr} {ca:CE} {p p2 pos:Pos} (hx:x="isinstance") (ht:tyN y=some t) (hg:c.glob x=some .blt) (hy:c.isB y=true) (ha:PE X a (tD X.K W (den F ca))) (hs:qAY a=true):PE X (.Call (.Name x p) [a,.Name y p2] [] pos) (tD X.K W (den F (.un (.isi t) ca))):=by
 obtain ⟨g1,g2,g3,g4⟩:=T.gl hg
 have hy':c.glob y=some .blt:=by
  unfold Cc.isB at hy
  split at hy
  ·assumption
  ·cases hy
 obtain ⟨k1,k2,k3,k4⟩:=T.gl hy'
 refine d_isi hx g1 g4 k1 k4 ?_ k3 k2 ha (star2 hs rfl)
 unfold tyN at ht
 split at ht
 ·rename_i e;subst e;cases ht;decide +kernel
 split at ht
 ·rename_i e;subst e;cases ht;decide +kernel
 split at ht
 ·rename_i e;subst e;cases ht;decide +kernel
 split at ht
 ·rename_i e;subst e;cases ht;decide +kernel
 split at ht
 ·rename_i e;subst e;cases ht;decide +kernel
 ·cases ht
theorem qOU (T:Body X c F k ex W) {m:Str} {o:Bi} {a b:Expr} {ca cb:CE} {ap p:Pos} (h:me1 m=some o) (ha:PE X a (tD X.K W (den F ca))) (hb:PE X b (tD X.K W (den F cb))) (hs:qAY b=true) (hsu:qB2 a=true) (hl:(ap.endLine == p.line)=true):PE X (.Call (.Attribute a m ap) [b] [] p) (tD X.K W (den F (.me o ca cb))):=by
 unfold me1 at h
 split at h
 ·rename_i e;cases h;exact qKk e ha hb (qDB hsu) hl (star1 hs)
 split at h
 ·rename_i e;cases h;exact qPD e ha hb (qDB hsu) hl (star1 hs)
 ·cases h
theorem qMO (T:Body X c F k ex W) {m:Str} {o:Bi} {a b:Expr} {ca cb:CE} {ap p:Pos} (h:me1p ca m=some o) (ha:PE X a (tD X.K W (den F ca))) (hb:PE X b (tD X.K W (den F cb))) (hs:qAY b=true) (hsu:qB2 a=true) (hl:(ap.endLine == p.line)=true):PE X (.Call (.Attribute a m ap) [b] [] p) (tD X.K W (den F (.me o ca cb))):=by
 unfold me1p at h
 cases q:onWay ca&&decide (m="pop") with
 | true =>
  rw [q] at h
  cases h
  exact qPC (of_decide_eq_true (Bool.and_eq_true_iff.mp q).2) ha hb (qDB hsu) hl (star1 hs)
 | false =>
  rw [q] at h
  exact qOU T h ha hb hs hsu hl
theorem qKl {kc:Const} {ce:CE} {j:Nat} {pos:Pos} (h:qLQ kc=some ce):PE X (.Constant kc j pos) (tD X.K W (den F ce)):=by
 cases kc with
 | none=>cases h;exact d_lit L2.pe_non fun _ _=>rfl
 | bool b=>cases h;exact d_lit L2.pe_bl fun _ _=>rfl
 | int i=>cases h;exact d_lit L2.pe_int fun _ _=>rfl
 | str s=>cases h;exact d_lit L2.pe_str fun _ _=>(show V.str s=V.str ⟨s.cps.toList.toArray⟩ by simp)
 | _=>cases h
theorem qM2 (T:Body X c F k ex W) (hc:c.calm=true) {x:Str} {i:Nat} {e:Expr} {es:List Expr} {cl:CL} {p pos:Pos} (h:c.glob x=some (.fn i)) (ha:PA X (e::es) (tDL X.K W (denL F cl))) (hs:stars (e::es)=true):PE X (.Call (.Name x p) (e::es) [] pos) (tD X.K W (den F (.call i cl))):=by
 obtain ⟨g1,g2,g3,f,fd,ps,hm,hk,hb,FO⟩:=T.gl h
 have hs':=Bool.and_eq_true_iff.mp hs
 intro pins s σ H Q I t
 obtain ⟨ρ,env,hh,st,r,pp⟩:=t
 rw [den] at pp
 refine wpAny_Call_Name_kw (L2.ld_glob I g1 hm ?_ g2)
 refine PySem.W.callWith_K (h₀:=X.base) I.ok.mod.kin hk (L2.thn (ha pos pins s σ H (fun vs H1=>spD X.K (F i) vs H1 Q fun _ co H'=>∃ c,co=some c∧W c σ H') I ⟨ρ,env,hh,st,r,Post.bind pp fun ρ1 h1 ds H1 e1 r1 q vs hvs=>?_⟩) fun us s1 z=>?_) (qBC hs'.1) (qDe hs'.2)
 ·exact ⟨ρ1,h1,ds,r1,hvs,by
   cases z:F i ds h1 with
   | ok a g=>rw [z] at q;exact q
   | exc c g=>rw [z] at q;exact fun ρ' H' e' r' _=>⟨c,rfl,q ρ' H' e' r'⟩
   | bad=>rw [z] at q;exact q⟩
 ·obtain ⟨vs,H1,I1,rv,q1⟩:=z
  exact ⟨I1.kIn,qEq FO ((T.room hc).mono (Nat.le_succ _)) hb (fun e s' x=>T.xc pins σ H1 s1 e s' I1 x) I1 rv q1⟩
theorem qKv (T:Body X c F k ex W) (hc:c.calm=true) {x:Str} {i:Nat} {p pos:Pos} (h:c.glob x=some (.fn i)):PE X (.Call (.Name x p) [] [] pos) (tD X.K W (den F (.call i .nil))):=by
 obtain ⟨g1,g2,g3,f,fd,ps,hm,hk,hb,FO⟩:=T.gl h
 intro pins s σ H Q I t
 obtain ⟨ρ,env,hh,st,r,pp⟩:=t
 rw [den,denL] at pp
 refine wpAny_Call_Name_kw (L2.ld_glob I g1 hm ?_ g2)
 refine PySem.W.callWith_K0 I.kIn hk (qEq (us:=[]) (vs:=[]) (E:=fun _ co H'=>∃ c,co=some c∧W c σ H') FO ((T.room hc).mono (Nat.le_succ _)) hb (fun e s' x=>T.xc pins σ H s e s' I x) I .nil ⟨ρ,hh,[],r,rfl,?_⟩)
 have q:PostV X.K (W.at σ) Q ρ H (F i [] hh):=pp
 cases z:F i [] hh with
 | ok a g=>rw [z] at q;exact q
 | exc c g=>rw [z] at q;exact fun ρ' H' e' r' _=>⟨c,rfl,q ρ' H' e' r'⟩
 | bad=>rw [z] at q;exact q
theorem qMP (T:Body X c F k ex W) (hc:c.calm=true) {x:Str} {cc i:Nat} {e:Expr} {es:List Expr} {cl:CL} {p pos:Pos} (h:c.glob x=some (.cls cc i)) (ha:PA X (e::es) (tDL X.K W (denL F cl))) (hs:stars (e::es)=true):PE X (.Call (.Name x p) (e::es) [] pos) (tD X.K W (den F (.make cc i cl))):=by
 obtain ⟨g1,g2,g3,C,f,fd,ps,hm,h1,h2,h3,h4,h5⟩:=T.gl h
 have hs':=Bool.and_eq_true_iff.mp hs
 exact qPB g1 g2 hm h1 h2 h3 h4 h5 (T.room hc) T.xc ha (qBC hs'.1) (qDe hs'.2)
theorem qKT (T:Body X c F k ex W) (hc:c.calm=true) {x:Str} {cc i:Nat} {p pos:Pos} (h:c.glob x=some (.cls cc i)):PE X (.Call (.Name x p) [] [] pos) (tD X.K W (den F (.make cc i .nil))):=by
 obtain ⟨g1,g2,g3,C,f,fd,ps,hm,h1,h2,h3,h4,h5⟩:=T.gl h
 exact qMw g1 g2 hm h1 h2 h3 h4 h5 (T.room hc) T.xc
theorem qG5 {env:PySem.Env} {pos:Pos}:∀ {es:List Expr},stars es=true→(backTo pos (starEach es env)).all (fun x=>!x.1)=true
 | [],_=>rfl
 | e::es,h=>by
  have h:=Bool.and_eq_true_iff.mp h
  rw [qBC h.1]
  show (!false&&(backTo pos (starEach es env)).all (fun x=>!x.1))=true
  rw [qG5 h.2]
  rfl
theorem qMJ (T:Body X c F k ex W) (hc:c.calm=true) {a e:Expr} {es:List Expr} {ca:CE} {cl:CL} {mk:Nat} {tb:List (Nat × Nat)} {m:Str} {ap pos:Pos} (h:c.M.lookup m=some (mk,tb)) (ho:PE X a (tD X.K W (den F ca))) (ha:PA X (e::es) (tDL X.K W (denL F cl))) (hs:stars (e::es)=true) (hsu:qB2 a=true) (hl:(ap.endLine == pos.line)=true) (hn:es.length<20) :
    PE X (.Call (.Attribute a m ap) (e::es) [] pos) (tD X.K W (den F (.meth mk tb ca cl))):=by
  obtain ⟨m1,m2,m3⟩:=T.mt m mk tb h
  have hs':=Bool.and_eq_true_iff.mp hs
  refine qPA m3 m1 m2 ((T.room hc).mono (Nat.le_succ _)) T.xc ho ha (qDB hsu) hl ?_ (qBC hs'.1) (qDe hs'.2)
  unfold methodCallForm
  rw [qG5 hs]
  show (true&&true&&decide ((e::es).length+0+0<30))=true
  simp only [List.length_cons,Bool.and_self,Bool.true_and,decide_eq_true_eq]
  omega
theorem qKN (T:Body X c F k ex W) (hc:c.calm=true) {a:Expr} {ca:CE} {mk:Nat} {tb:List (Nat × Nat)} {m:Str} {ap pos:Pos} (h:c.M.lookup m=some (mk,tb)) (ho:PE X a (tD X.K W (den F ca))) (hsu:qB2 a=true) (hl:(ap.endLine == pos.line)=true) :
    PE X (.Call (.Attribute a m ap) [] [] pos) (tD X.K W (den F (.meth mk tb ca .nil))):=by
  obtain ⟨m1,m2,m3⟩:=T.mt m mk tb h
  exact qMv m3 m1 m2 ((T.room hc).mono (Nat.le_succ _)) T.xc ho (qDB hsu) hl
theorem qFm {b:Expr} (h:isNone b=true):∃ j pos,b=.Constant .none j pos:=by
 unfold isNone at h
 split at h
 ·exact ⟨_,_,rfl⟩
 ·cases h
theorem qFn {b:Expr} {k:Bool} (h:qJB b=some k):∃ j pos,b=.Constant (.bool k) j pos:=by
 unfold qJB at h
 split at h
 ·cases h;exact ⟨_,_,rfl⟩
 ·cases h
theorem qIb {e:Expr} {env:PySem.Env} (h:qK5 e=true) (whole:Sem Value):isTrue e env whole=(do let v ← whole;standAt e.pos;holding [v] (truthy v)):=by
 cases e <;> first | rfl | cases h
theorem qB8 {e:Expr} {env:PySem.Env} (h:noSet e=true) (x:Value):foldedSetIterable e env x=pure x:=by
 cases e <;> first | rfl | cases h
theorem qCB (T:Body X c F k ex W) {x:Str} {scope:Scope} (h:c.compOk x scope=true):CompOk X x scope:=by
 unfold Cc.compOk at h
 simp only [Bool.and_eq_true,Bool.or_eq_true,decide_eq_true_eq,List.all_eq_true] at h
 obtain ⟨⟨⟨⟨⟨⟨h1,h2⟩,h3⟩,h4⟩,h5⟩,h6⟩,h7⟩:=h
 refine ⟨h1,h2,h3,h4,fun y hy hf=>?_,h6.1,fun z=>?_,fun y hne hy hm=>h7 _ (qBS hy) hne rfl (by rw [← T.N];exact hm)⟩
 rotate_left
 ·rw [T.N] at z ⊢
  rcases h6.2 with w | w
  ·exact absurd z w
  ·exact w
 show X.env.scope.names.lookup y.1=_∨X.env.scope.names.lookup y.1=_
 rw [T.sc]
 exact h5 y hy hf
theorem qCP (T:Body X c F k ex W) {x:Str} {scope:Scope} (h:c.compOk x scope=true) (cl:List (Str × Addr)) (C:Addr) (s3:Shared) (H3:Hp) (fp:List Addr) (E:Value→Shared→Prop):Body (cxC X x scope cl C s3 H3 fp E) (c.inner x scope) F k ex WF:=by
 have K:=qCB T h
 refine ⟨?_,?_,?_,T.calm,T.room,T.hu,fun y g hg=>?_,T.xq,T.xv,T.mt,T.at',T.xg,fun pins σ H s0 e s' I x=>?_⟩
 ·show maskN X.N x++[x]=maskN c.N x++[x]
  rw [T.N]
 ·show (maskN c.N x++[x]).Nodup
  exact qIt T.nd K.new fun z=>by have:=(K.hole (by rw [T.N];exact z)).1;rw [T.N] at this;exact this
 ·show relabel scope X.env=qK4 scope c.sc
  rw [← T.sc]
  rfl
 ·have:=T.glob y g hg
  cases g <;> exact this
 ·obtain ⟨_,_,_,_,_,_,_,_,_,_,_,_,_,_,_,_,z⟩:=x
  exact False.elim z
structure AllOk (X:Cx) (c:Cc) (F:Nat→List D→M D) (W:WX) (r:Rc):Prop where
 e:∀ e ce,r.e c e=some ce→PE X e (tD X.K W (den F ce))
 cmp:∀ a op b ce pos,r.cmp c a op b=some ce→PE X (.Compare a [op] [b] pos) (tD X.K W (den F ce))∧PT X (.Compare a [op] [b] pos) (tDT X.K W (denT F (.val ce)))
 b:∀ x es ce p pos,c.glob x=some .blt→r.b c x es=some ce→PE X (.Call (.Name x p) es [] pos) (tD X.K W (den F ce))
 l:∀ es cl,r.l c es=some cl→PA X es (tDL X.K W (denL F cl))∧stars es=true
 o:∀ o cp,r.o c o=some cp→PO X o (tDP X.K W (denP F cp))
 t:∀ e ct,r.t c e=some ct→PT X e (tDT X.K W (denT F ct))
 tb:∀ op es ct pos,r.tb c op es=some ct→L2.PW X (.BoolOp op es pos) (tDT X.K W (denT F ct))
 i:∀ tg e ci,r.i c e=some ci→PI X tg e (tDI X.K W (denI F ci))∧noSet e=true
end
end Fy
set_option Elab.async false
set_option linter.all false
set_option maxRecDepth 100000
set_option maxHeartbeats 4000000
namespace Fy
open PySem PySem.Spec PyProof.Rows
open L2 (V Hp HO VK TE TT TA TS TI Cx Inv RelV Vals SqL SqT Rd upd qAB qAC PE PT PA PS PSs EP OpR CallR IxR MtR SlR PO TO PI PG PIE Turn FpOk Ends)
section
variable {X:Cx} {c:Cc} {F:Nat→List D→M D} {k B:Nat} {ex:Nat→Option Addr} {W:WX}
theorem qMG (T:Body X c F k ex W) {x:Str} {pos:Pos} {ce:CE} (h:sName c x=some ce):PE X (.Name x pos) (tD X.K W (den F ce)):=by
 unfold sName at h
 cases q:c.slot x with
 | some i =>
  rw [q] at h
  cases h
  obtain ⟨h1,h2,h3,h4⟩:=T.vis q
  exact d_var (L2.pe_var h1 h2 h3 h4)
 | none =>
  rw [q] at h
  cases w:c.glob x with
  | none=>rw [w] at h;cases h
  | some g =>
   rw [w] at h
   cases g with
   | con d =>
    cases h
    obtain ⟨g1,g2,g3,v,u,hm,hr,hv⟩:=T.gl w
    exact d_lit (L2.pe_glob g1 hm hr g2) hv
   | _=>cases h
theorem un_ok {r:Rc} (A:AllOk X c F W r) {op:UnaryOp} {a:Expr} {pos:Pos} {ce:CE} (h:sUn r c a op=some ce):PE X (.UnaryOp op a pos) (tD X.K W (den F ce)):=by
 cases op with
 | Not=>obtain ⟨x,hx,h⟩:=bd_ok h;cases h;exact d_not (A.e a x hx)
 | USub=>obtain ⟨x,hx,h⟩:=bd_ok h;cases h;exact d_neg (A.e a x hx)
 | _=>cases h
theorem qM4 {r:Rc} (A:AllOk X c F W r) {op:BoolOp} {es:List Expr} {pos:Pos} {ce:CE} (h:sBool r c op pos es=some ce):PE X (.BoolOp op es pos) (tD X.K W (den F ce)):=by
 cases es with
 | nil=>cases h
 | cons a es =>
  cases es with
  | nil=>exact L2.pe_one (A.e a ce h)
  | cons b es =>
   obtain ⟨x,hx,h⟩:=bd_ok h
   obtain ⟨y,hy,h⟩:=bd_ok h
   cases op with
   | And=>cases h;exact d_and (A.e a x hx) (A.e _ y hy)
   | Or=>cases h;exact d_or (A.e a x hx) (A.e _ y hy)
theorem qKp (T:Body X c F k ex W) {r:Rc} (A:AllOk X c F W r) {a b d:Expr} {op op':CmpOp} {ce:CE} {pos:Pos} (h:qK1 r c a op op' b d=some ce) :
    PE X (.Compare a [op,op'] [b,d] pos) (tD X.K W (den F ce))∧PT X (.Compare a [op,op'] [b,d] pos) (tDT X.K W (denT F (.val ce))):=by
  obtain ⟨o,ho,h⟩:=bd_ok h
  obtain ⟨p,hp,h⟩:=bd_ok h
  obtain ⟨x,hx,h⟩:=bd_ok h
  obtain ⟨y,hy,h⟩:=bd_ok h
  obtain ⟨z,hz,h⟩:=bd_ok h
  obtain ⟨hl,rfl⟩:=qAD h
  have hl:lastMarks [op,op'] [b,d]=false:=by simpa using hl
  exact ⟨qMx (qCC T ho).2 (qCC T hp).2 (A.e a x hx) (A.e b y hy) (A.e d z hz) hl,qKh (qCC T hp).1 (qCC T ho).2 (qCC T hp).2 (A.e _ x hx) (A.e _ y hy) (A.e _ z hz) hl⟩
theorem qEg (T:Body X c F k ex W) {r:Rc} (A:AllOk X c F W r) {a:Expr} {ops:List CmpOp} {cs:List Expr} {ce:CE} {pos:Pos} (h:qEp r c a ops cs=some ce) :
    PE X (.Compare a ops cs pos) (tD X.K W (den F ce))∧PT X (.Compare a ops cs pos) (tDT X.K W (denT F (.val ce))):=by
  cases ops with
  | nil=>cases h
  | cons op ops =>
    cases cs with
    | nil=>cases h
    | cons b cs =>
      cases ops with
      | nil =>
        cases cs with
        | nil=>exact A.cmp a op b ce pos h
        | cons _ _=>cases h
      | cons op' ops =>
        cases ops with
        | cons _ _=>cases h
        | nil =>
          cases cs with
          | nil=>cases h
          | cons d cs =>
            cases cs with
            | nil=>exact qKp T A h
            | cons _ _=>cases h
theorem qNi {r:Rc} (A:AllOk X c F W r) {a b:Expr} {pos:Pos} {ce:CE} (h:sSub r c a b=some ce):PE X (.Subscript a b pos) (tD X.K W (den F ce)):=by
 unfold sSub at h
 cases qr:isRev b with
 | true =>
  rw [qr] at h
  cases h
 | false =>
 rw [qr] at h
 cases q:isSl b with
 | some w =>
  rw [q] at h
  obtain ⟨p,rfl⟩:=qMb q
  obtain ⟨x,hx,h⟩:=bd_ok h
  obtain ⟨l,hl,h⟩:=bd_ok h
  obtain ⟨u,hu,h⟩:=bd_ok h
  cases h
  exact d_sl (A.e a x hx) (A.o w.1 l hl) (A.o w.2 u hu)
 | none =>
  rw [q] at h
  obtain ⟨x,hx,h⟩:=bd_ok h
  obtain ⟨y,hy,h⟩:=bd_ok h
  obtain ⟨hs,rfl⟩:=qAD h
  exact d_ix (A.e a x hx) (A.e b y hy) (qKY hs)
theorem qKu (T:Body X c F k ex W) {r:Rc} (A:AllOk X c F W r) {x:Str} {es:List Expr} {p pos:Pos} {ce:CE} (h:qK2 r c x es (c.glob x)=some ce):PE X (.Call (.Name x p) es [] pos) (tD X.K W (den F ce)):=by
 cases w:c.glob x with
 | none=>rw [w] at h;cases h
 | some g =>
  rw [w] at h
  cases g with
  | fn i =>
   cases es with
   | nil=>obtain ⟨hs,rfl⟩:=qAD h;exact qKv T hs w
   | cons e es =>
    obtain ⟨l,hl,h⟩:=bd_ok h
    obtain ⟨hs,rfl⟩:=qAD h
    exact qM2 T hs w (A.l _ l hl).1 (A.l _ l hl).2
  | blt=>exact A.b x es ce p pos w h
  | cls kc fi =>
   cases es with
   | nil=>obtain ⟨hs,rfl⟩:=qAD h;exact qKT T hs w
   | cons e es =>
    obtain ⟨l,hl,h⟩:=bd_ok h
    obtain ⟨hs,rfl⟩:=qAD h
    exact qMP T hs w (A.l _ l hl).1 (A.l _ l hl).2
  | _=>cases h
theorem qKM (T:Body X c F k ex W) {r:Rc} (A:AllOk X c F W r) {a:Expr} {m:Str} {ap p:Pos} {es:List Expr} {x ce:CE} (hx:r.e c a=some x) (h:sMeth r c m (qB2 a&&(ap.endLine == p.line)) x es (c.M.lookup m)=some ce):PE X (.Call (.Attribute a m ap) es [] p) (tD X.K W (den F ce)):=by
 cases w:c.M.lookup m with
 | some q =>
  rw [w] at h
  obtain ⟨mk,tb⟩:=q
  cases es with
  | nil =>
   obtain ⟨hs,rfl⟩:=qAD h
   obtain ⟨h1,h2⟩:=Bool.and_eq_true_iff.mp hs
   obtain ⟨h2,h3⟩:=Bool.and_eq_true_iff.mp h2
   exact qKN T h1 w (A.e a x hx) h2 h3
  | cons e es =>
   obtain ⟨l,hl,h⟩:=bd_ok h
   obtain ⟨hs,rfl⟩:=qAD h
   obtain ⟨hs,h4⟩:=Bool.and_eq_true_iff.mp hs
   obtain ⟨h1,h2⟩:=Bool.and_eq_true_iff.mp hs
   obtain ⟨h2,h3⟩:=Bool.and_eq_true_iff.mp h2
   exact qMJ T h1 w (A.e a x hx) (A.l _ l hl).1 (A.l _ l hl).2 h2 h3 (of_decide_eq_true h4)
 | none =>
  rw [w] at h
  cases es with
  | nil =>
   cases h
  | cons b es =>
   cases es with
   | cons d es =>
    cases es with
    | cons _ _=>cases h
    | nil =>
     have h:(match decide (m="setdefault") with | true=>none | false=>none)=some ce:=h
     split at h
     ·cases h
     ·cases h
   | nil =>
    obtain ⟨o,ho,h⟩:=bd_ok h
    obtain ⟨y,hy,h⟩:=bd_ok h
    obtain ⟨hs,rfl⟩:=qAD h
    obtain ⟨hs,h4⟩:=Bool.and_eq_true_iff.mp hs
    obtain ⟨h2,h3⟩:=Bool.and_eq_true_iff.mp hs
    exact qMO T ho (A.e a x hx) (A.e b y hy) h4 h2 h3
theorem qKt (T:Body X c F k ex W) {r:Rc} (A:AllOk X c F W r) {f:Expr} {es:List Expr} {ks:List Keyword} {p:Pos} {ce:CE} (h:sCall r c f es ks p=some ce):PE X (.Call f es ks p) (tD X.K W (den F ce)):=by
 cases ks with
 | cons _ _=>cases h
 | nil =>
  cases f with
  | Name x q=>exact qKu T A h
  | Attribute a m ap=>obtain ⟨x,hx,h⟩:=bd_ok h;exact qKM T A hx h
  | _=>cases h
theorem qOg {k:Option Expr} {y:Ky} (h:rdKey k=some y):∃ e,k=some e∧PE X e (L2.tC (L2.kV (kyV y))):=by
 cases k with
 | none=>cases h
 | some e =>
  cases e with
  | Constant kc j pos =>
   cases kc with
   | str s =>
    cases h
    refine ⟨_,rfl,?_⟩
    have e1:(⟨s.cps.toList.toArray⟩:Str)=s:=by simp
    show PE X _ (L2.tC (.str ⟨s.cps.toList.toArray⟩))
    rw [e1]
    exact L2.pe_str
   | int i=>cases h;exact ⟨_,rfl,L2.pe_int⟩
   | _=>cases h
  | _=>cases h
theorem qJX {r:Rc} (A:AllOk X c F W r) {pos:Pos}:∀ {keys:List (Option Expr)} {values:List Expr} {ks:List Ky} {l:CL},qIY keys=some ks→qIX r c values=some l→keys.length=values.length →
    L2.PPs X pos keys values (trs X F W ks l)∧keys.all (·.isSome)=true∧clLen l=ks.length
  | [],[],_,_,h1,h2,_=>by cases h1;cases h2;exact ⟨L2.pps_nil,rfl,rfl⟩
  | [],_::_,_,_,_,_,h=>by cases h
  | _::_,[],_,_,_,_,h=>by cases h
  | k::keys,e::values,ks,l,h1,h2,h3=>by
    obtain ⟨y,hy,h1⟩:=bd_ok h1
    obtain ⟨ys,hys,h1⟩:=bd_ok h1
    cases h1
    obtain ⟨x,hx,h2⟩:=bd_ok h2
    obtain ⟨l',hl,h2⟩:=bd_ok h2
    cases h2
    obtain ⟨ek,rfl,pk⟩:=qOg (X:=X) hy
    obtain ⟨g1,g2,g3⟩:=qJX A (pos:=pos) hys hl (Nat.succ.inj h3)
    exact ⟨L2.pps_cons pk (A.e e x hx) g1,by rw [List.all_cons,g2];rfl,congrArg Nat.succ g3⟩
theorem qMr {r:Rc} (A:AllOk X c F W r) {keys:List (Option Expr)} {values:List Expr} {pos:Pos} {ce:CE} (h:sDisp r c keys values=some ce):PE X (.Dict keys values pos) (tD X.K W (den F ce)):=by
 obtain ⟨ks,hk,h⟩:=bd_ok h
 obtain ⟨l,hl,h⟩:=bd_ok h
 obtain ⟨hs,rfl⟩:=qAD h
 obtain ⟨h1,h2⟩:=Bool.and_eq_true_iff.mp hs
 have h1:=of_decide_eq_true h1
 obtain ⟨g1,g2,g3⟩:=qJX A (pos:=pos) hk hl h1
 refine qPE g1 g2 h1 (of_decide_eq_true h2) g3 fun z=>?_
 subst z
 cases hk
 cases values with
 | nil=>cases hl;exact ⟨rfl,rfl,rfl⟩
 | cons _ _=>cases h1
theorem qMz (T:Body X c F k ex W) {r:Rc} (AA:∀ (X:Cx) (c:Cc) (W:WX),Body X c F k ex W→AllOk X c F W r) {elt:Expr} {q:Gn} {scope:Scope} {pos:Pos} {ce:CE} (h:sComp r c elt scope q=some ce):PE X (.ListComp elt [⟨.Name q.x q.p,q.iter,q.ifs,0⟩] scope pos) (tD X.K W (den F ce)):=by
 have A:=AA X c W T
 obtain ⟨x,px,iter,ifs⟩:=q
 cases ifs with
 | nil =>
  obtain ⟨it,hi,h⟩:=bd_ok h
  obtain ⟨y,hy,h⟩:=bd_ok h
  obtain ⟨hk',rfl⟩:=qAD h
  obtain ⟨hcm,hk⟩:=Bool.and_eq_true_iff.mp hk'
  have K:=qCB T hk
  exact PE.imp (qIc K (by rw [T.N];exact T.nd) (T.calm hcm) (A.i _ iter it hi).1 (qB8 (A.i (.Name x px) iter it hi).2) (tt:=none) fun cl C s3 H3 fp E=>⟨(AA _ _ _ (qCP T hk cl C s3 H3 fp E)).e elt y hy,rfl⟩) fun σ H Q t=>compI (f:=fun env x=>compF (den F y) env x) (mi:=denI F it) (qEV _) (by
   obtain ⟨ρ,env,h,s,r,p⟩:=t
   rw [den] at p
   exact ⟨ρ,env,h,s,r,p⟩)
 | cons tst ts =>
  cases ts with
  | cons _ _=>cases h
  | nil =>
   obtain ⟨it,hi,h⟩:=bd_ok h
   obtain ⟨z,hz,h⟩:=bd_ok h
   obtain ⟨y,hy,h⟩:=bd_ok h
   obtain ⟨hk',rfl⟩:=qAD h
   obtain ⟨hcm,hk⟩:=Bool.and_eq_true_iff.mp hk'
   have K:=qCB T hk
   exact PE.imp (qIc K (by rw [T.N];exact T.nd) (T.calm hcm) (A.i _ iter it hi).1 (qB8 (A.i (.Name x px) iter it hi).2) (tt:=some (tDT X.K WF (denT F z))) fun cl C s3 H3 fp E=>⟨(AA _ _ _ (qCP T hk cl C s3 H3 fp E)).e elt y hy,tst,rfl,(AA _ _ _ (qCP T hk cl C s3 H3 fp E)).t tst z hz⟩) fun σ H Q t=>compI (f:=fun env x=>qFB (den F y) (denT F z) env x) (mi:=denI F it) (qFN _ _) (by
    obtain ⟨ρ,env,h,s,r,p⟩:=t
    rw [den] at p
    exact ⟨ρ,env,h,s,r,p⟩)
theorem qKz (T:Body X c F k ex W) {r:Rc} (AA:∀ (X:Cx) (c:Cc) (W:WX),Body X c F k ex W→AllOk X c F W r) (e:Expr) (ce:CE) (h:eS r c e=some ce):PE X e (tD X.K W (den F ce)):=by
 have A:=AA X c W T
 cases e with
 | Constant kc j pos=>exact qKl h
 | Name x pos=>exact qMG T h
 | BinOp a op b pos =>
  obtain ⟨o,ho,h⟩:=bd_ok h
  obtain ⟨x,hx,h⟩:=bd_ok h
  obtain ⟨y,hy,h⟩:=bd_ok h
  cases h
  exact PE.imp (L2.pe_op (qM5 ho) (A.e a x hx) (A.e b y hy)) fun _ _ _ t=>two t
 | UnaryOp op a pos=>exact un_ok A h
 | BoolOp op es pos=>exact qM4 A h
 | Compare a ops cs pos=>exact (qEg T A h).1
 | Tuple es j pos=>obtain ⟨l,hl,h⟩:=bd_ok h;cases h;exact d_tup (A.l es l hl).1
 | List es pos=>obtain ⟨l,hl,h⟩:=bd_ok h;cases h;exact d_lst (A.l es l hl).1
 | Subscript a b pos=>exact qNi A h
 | Call f es ks p=>exact qKt T A h
 | Attribute a f pos =>
  obtain ⟨kk,hk,h⟩:=bd_ok h
  obtain ⟨x,hx,h⟩:=bd_ok h
  obtain ⟨hs,rfl⟩:=qAD h
  exact d_fld (T.at' f kk.1 kk.2 hk).1 (A.e a x hx) (qDB hs)
 | Dict keys values pos=>exact qMr A h
 | ListComp elt gs scope pos =>
  obtain ⟨q,hq,h⟩:=bd_ok h
  rw [qHL hq]
  exact qMz T AA h
 | _=>cases h
theorem qPG (T:Body X c F k ex W) {r:Rc} (A:AllOk X c F W r) {a:Expr} {op:CmpOp} {b:Expr} {ce:CE} {pos:Pos} (h:sCmp r c a op b=some ce) :
    PE X (.Compare a [op] [b] pos) (tD X.K W (den F ce))∧PT X (.Compare a [op] [b] pos) (tDT X.K W (denT F (.val ce))):=by
  obtain ⟨o,ho,h⟩:=bd_ok h
  obtain ⟨x,hx,h⟩:=bd_ok h
  obtain ⟨y,hy,h⟩:=bd_ok h
  obtain ⟨hb,rfl⟩:=qAD h
  have hb:behindInMarks op b=false:=by simpa using hb
  exact ⟨d_cmp (qCC T ho).2 (A.e _ x hx) (A.e _ y hy) hb,qO5 (qCC T ho).1 (qCC T ho).2 (A.e _ x hx) (A.e _ y hy) hb⟩
theorem qJ3 (T:Body X c F k ex W) {r:Rc} (A:AllOk X c F W r) (a:Expr) (op:CmpOp) (b:Expr) (ce:CE) (pos:Pos) (h:cmpS r c a op b=some ce) :
    PE X (.Compare a [op] [b] pos) (tD X.K W (den F ce))∧PT X (.Compare a [op] [b] pos) (tDT X.K W (denT F (.val ce))):=by
  cases op with
  | Is =>
    obtain ⟨x,hx,h⟩:=bd_ok h
    unfold sIs at h
    cases q:isNone b with
    | true =>
      rw [q] at h
      cases h
      obtain ⟨j,p',rfl⟩:=qFm q
      exact ⟨d_isN (A.e _ x hx),qO3 (A.e _ x hx)⟩
    | false =>
      rw [q] at h
      obtain ⟨kb,hb,h⟩:=bd_ok h
      cases h
      obtain ⟨j,p',rfl⟩:=qFn hb
      exact ⟨d_isB (A.e _ x hx),qO4 (A.e _ x hx)⟩
  | IsNot =>
    obtain ⟨x,hx,h⟩:=bd_ok h
    unfold sIs at h
    cases q:isNone b with
    | true =>
      rw [q] at h
      cases h
      obtain ⟨j,p',rfl⟩:=qFm q
      exact ⟨qO9 (A.e _ x hx),qMm (A.e _ x hx)⟩
    | false =>
      rw [q] at h
      obtain ⟨kb,hb,h⟩:=bd_ok h
      cases h
      obtain ⟨j,p',rfl⟩:=qFn hb
      exact ⟨d_nsB (A.e _ x hx),qO1 (A.e _ x hx)⟩
  | _=>exact qPG T A h
theorem b1_ok (T:Body X c F k ex W) {x:Str} {a:Expr} {y ce:CE} {p pos:Pos} (hg:c.glob x=some .blt) (ha:PE X a (tD X.K W (den F y))) (h:sB1 c x a y=some ce):PE X (.Call (.Name x p) [a] [] pos) (tD X.K W (den F ce)):=by
 unfold sB1 at h
 cases q:bi1 x with
 | some o =>
  rw [q] at h
  obtain ⟨hs,rfl⟩:=qAD h
  exact qPI T q hg ha hs
 | none =>
  rw [q] at h
  obtain ⟨o,ho,h⟩:=bd_ok h
  obtain ⟨hs,rfl⟩:=qAD h
  obtain ⟨h1,h2⟩:=Bool.and_eq_true_iff.mp hs
  exact qM6 T h2 ho hg ha h1
theorem qMa (T:Body X c F k ex W) {r:Rc} (A:AllOk X c F W r) {x y:Str} {a:Expr} {ce:CE} {p p2 pos:Pos} (hx:x="isinstance") (hg:c.glob x=some .blt) (h:sIsi r c a y=some ce):PE X (.Call (.Name x p) [a,.Name y p2] [] pos) (tD X.K W (den F ce)):=by
 obtain ⟨z,hz,h⟩:=bd_ok h
 cases q:tyN y with
 | some t =>
  rw [q] at h
  obtain ⟨hs,rfl⟩:=qAD h
  obtain ⟨h1,h2⟩:=Bool.and_eq_true_iff.mp hs
  exact qOn T hx q hg h2 (A.e _ z hz) h1
 | none =>
  rw [q] at h
  cases h
theorem qDg {x:Str} (h:c.isB x=true):c.glob x=some .blt:=by
 unfold Cc.isB at h
 split at h
 ·assumption
 ·cases h
theorem lr_ok (T:Body X c F k ex W) {r:Rc} (A:AllOk X c F W r) {x:Str} {es:List Expr} {ce:CE} {p q pos ppos:Pos} (hg:c.glob x=some .blt) (h:sLr r c x es=some ce):PE X (.Call (.Name x p) [.Call (.Name "range" q) es [] ppos] [] pos) (tD X.K W (den F ce)):=by
 rcases es with _ | ⟨a,_ | ⟨b,_ | ⟨_,_⟩⟩⟩
 ·cases h
 ·obtain ⟨y,hy,h⟩:=bd_ok h
  obtain ⟨hs,rfl⟩:=qAD h
  obtain ⟨h1,hs⟩:=Bool.and_eq_true_iff.mp hs
  obtain ⟨h2,hs⟩:=Bool.and_eq_true_iff.mp hs
  obtain ⟨h3,h4⟩:=Bool.and_eq_true_iff.mp hs
  have e:=of_decide_eq_true h1
  subst e
  obtain ⟨g1,g2,g3,g4⟩:=T.gl hg
  obtain ⟨r1,r2,r3,r4⟩:=T.gl (qDg h3)
  exact d_lr1 (T.calm h2) g1 g4 r1 r4 (A.e a y hy) (star1 h4) (star1 rfl)
 ·obtain ⟨y,hy,h⟩:=bd_ok h
  obtain ⟨z,hz,h⟩:=bd_ok h
  obtain ⟨hs,rfl⟩:=qAD h
  obtain ⟨h1,hs⟩:=Bool.and_eq_true_iff.mp hs
  obtain ⟨h2,hs⟩:=Bool.and_eq_true_iff.mp hs
  obtain ⟨h3,hs⟩:=Bool.and_eq_true_iff.mp hs
  obtain ⟨h4,h5⟩:=Bool.and_eq_true_iff.mp hs
  have e:=of_decide_eq_true h1
  subst e
  obtain ⟨g1,g2,g3,g4⟩:=T.gl hg
  obtain ⟨r1,r2,r3,r4⟩:=T.gl (qDg h3)
  exact d_lr2 (T.calm h2) g1 g4 r1 r4 (A.e a y hy) (A.e b z hz) (star2 h4 h5) (star1 h5) (star1 rfl)
 ·cases h
theorem qNp (T:Body X c F k ex W) {r:Rc} (A:AllOk X c F W r) (x:Str) (es:List Expr) (ce:CE) (p pos:Pos) (hg:c.glob x=some .blt) (h:bS r c x es=some ce):PE X (.Call (.Name x p) es [] pos) (tD X.K W (den F ce)):=by
 rcases es with _ | ⟨a,_ | ⟨b,_ | ⟨d,_ | ⟨_,_⟩⟩⟩⟩
 ·cases h
 ·unfold bS at h
  cases q:isRg a with
  | some es2 =>
   simp only [q] at h
   obtain ⟨p2,q2,rfl⟩:=qJA q
   exact lr_ok T A hg h
  | none =>
   simp only [q] at h
   obtain ⟨y,hy,h⟩:=bd_ok h
   exact b1_ok T hg (A.e _ y hy) h
 ·unfold bS at h
  cases q:decide (x="isinstance") with
  | true =>
   simp only [q] at h
   obtain ⟨y,hy,h⟩:=bd_ok h
   obtain ⟨p2,rfl⟩:=qDy hy
   exact qMa T A (of_decide_eq_true q) hg h
  | false =>
   simp only [q] at h
   obtain ⟨o,ho,h⟩:=bd_ok h
   obtain ⟨u,hu,h⟩:=bd_ok h
   obtain ⟨v,hv,h⟩:=bd_ok h
   obtain ⟨hs,rfl⟩:=qAD h
   obtain ⟨hs,h3⟩:=Bool.and_eq_true_iff.mp hs
   obtain ⟨h1,h2⟩:=Bool.and_eq_true_iff.mp hs
   exact qPH T h3 ho hg (A.e _ u hu) (A.e _ v hv) h1 h2
 ·cases h
 ·cases h
theorem qNm {r:Rc} (A:AllOk X c F W r) (es:List Expr) (cl:CL) (h:lS r c es=some cl):PA X es (tDL X.K W (denL F cl))∧stars es=true:=by
 cases es with
 | nil=>cases h;exact ⟨qO8 (es:=[]),rfl⟩
 | cons e es =>
  obtain ⟨x,hx,h⟩:=bd_ok h
  obtain ⟨l,hl,h⟩:=bd_ok h
  obtain ⟨hs,rfl⟩:=qAD h
  exact ⟨qMu (A.e _ x hx) (A.l _ l hl).1 (qBC hs),by unfold stars;rw [hs,(A.l _ l hl).2];rfl⟩
theorem qNl {r:Rc} (A:AllOk X c F W r) (o:Option Expr) (cp:CP) (h:oS r c o=some cp):PO X o (tDP X.K W (denP F cp)):=by
 cases o with
 | none=>cases h;exact dp_no
 | some e=>obtain ⟨x,hx,h⟩:=bd_ok h;cases h;exact dp_at (A.e _ x hx)
theorem sT_ok {r:Rc} (A:AllOk X c F W r) {e:Expr} {ct:CT} (h:sT r c e=some ct):PT X e (tDT X.K W (denT F ct)):=by
 obtain ⟨x,hx,h⟩:=bd_ok h
 obtain ⟨hs,rfl⟩:=qAD h
 exact qKg (A.e _ x hx) (qIb hs)
theorem qNj (T:Body X c F k ex W) {r:Rc} (A:AllOk X c F W r) (e:Expr) (ct:CT) (h:tS r c e=some ct):PT X e (tDT X.K W (denT F ct)):=by
 cases e with
 | UnaryOp op a pos =>
  cases op with
  | Not=>obtain ⟨x,hx,h⟩:=bd_ok h;cases h;exact qO2 (A.t _ x hx)
  | _=>cases h
 | BoolOp op es pos=>exact (A.tb _ _ ct pos h).pt
 | Compare a ops cs pos=>obtain ⟨x,hx,h⟩:=bd_ok h;cases h;exact (qEg T A hx).2
 | _=>exact sT_ok A h
theorem qLe {r:Rc} (A:AllOk X c F W r) (op:BoolOp) (es:List Expr) (ct:CT) (pos:Pos) (h:tbS r c op es=some ct):L2.PW X (.BoolOp op es pos) (tDT X.K W (denT F ct)):=by
 cases es with
 | nil=>cases h
 | cons a es =>
  cases es with
  | nil =>
   cases op with
   | And=>exact L2.pw_and1 (A.t _ ct h)
   | Or=>exact L2.pw_or1 (A.t _ ct h)
  | cons b es =>
   obtain ⟨x,hx,h⟩:=bd_ok h
   obtain ⟨y,hy,h⟩:=bd_ok h
   cases op with
   | And=>cases h;exact qO0 (A.t _ x hx) (A.tb _ _ y pos hy)
   | Or=>cases h;exact dw_or (A.t _ x hx) (A.tb _ _ y pos hy)
theorem qNn (T:Body X c F k ex W) {r:Rc} (A:AllOk X c F W r) (tg e:Expr) (ci:CI) (h:iS r c e=some ci):PI X tg e (tDI X.K W (denI F ci))∧noSet e=true:=by
 unfold iS at h
 cases q:isRg e with
 | none =>
  rw [q] at h
  obtain ⟨z,hz,h⟩:=bd_ok h
  obtain ⟨hs,rfl⟩:=qAD h
  exact ⟨di_of (A.e _ z hz),hs⟩
 | some es =>
  rw [q] at h
  obtain ⟨p,p2,rfl⟩:=qJA q
  rcases es with _ | ⟨a,_ | ⟨b,_ | ⟨_,_⟩⟩⟩
  ·cases h
  ·obtain ⟨z,hz,h⟩:=bd_ok h
   obtain ⟨hs,rfl⟩:=qAD h
   obtain ⟨h1,h2⟩:=Bool.and_eq_true_iff.mp hs
   obtain ⟨g1,g2,g3,g4⟩:=T.gl (qDg h2)
   exact ⟨qMt g1 g4 (A.e _ z hz) (star1 h1),rfl⟩
  ·obtain ⟨z,hz,h⟩:=bd_ok h
   obtain ⟨z',hz',h⟩:=bd_ok h
   obtain ⟨hs,rfl⟩:=qAD h
   obtain ⟨hs,h2⟩:=Bool.and_eq_true_iff.mp hs
   obtain ⟨h1,h3⟩:=Bool.and_eq_true_iff.mp hs
   obtain ⟨g1,g2,g3,g4⟩:=T.gl (qDg h2)
   exact ⟨qMs g1 g4 (A.e _ z hz) (A.e _ z' hz') (star2 h1 h3) (star1 h3),rfl⟩
  ·cases h
theorem all_e:∀ (n:Nat) (X:Cx) (c:Cc) (W:WX),Body X c F k ex W→AllOk X c F W (rcN n)
  | 0,_,_,_,_=>{
      e:=fun _ _ h=>nomatch h
      cmp:=fun _ _ _ _ _ h=>nomatch h
      b:=fun _ _ _ _ _ _ h=>nomatch h
      l:=fun _ _ h=>nomatch h
      o:=fun _ _ h=>nomatch h
      t:=fun _ _ h=>nomatch h
      tb:=fun _ _ _ _ h=>nomatch h
      i:=fun _ _ _ h=>nomatch h }
  | n+1,X,c,W,T =>
    have A:=all_e n X c W T
    ⟨qKz T (all_e n),qJ3 T A,qNp T A,qNm A,qNl A,qNj T A,qLe A,qNn T A⟩
theorem qDd {e:Expr} {t:Option Expr} {n:Nat} {env:PySem.Env} (h:qFg e=true):swapsWith e t n env=pure false:=by
 cases e <;> first | rfl | cases h
theorem qJq {o i:Expr} {pos:Pos} {env:PySem.Env} (h:qEw i=true) (v:Value):assign (.Subscript o i pos) env v=(do
      let ov ← holding [v] (eval o env)
      let iv ← holding [v,ov] (eval i env)
      standAt pos
      holding [v,ov,iv] (setItem ov iv v)
      release [v,ov,iv] []):=by
  cases i <;> first | rfl | cases h
theorem qJd {α:Type} {K:PySem.W.Frag} {w:W1} {rep:List Addr→Hp→α→Prop} {ρ:List Addr} {H:Hp} {r:R α} (p:Post K w rep ρ H r.calm) (w':W1):Post K w' rep ρ H r:=by
 cases r with
 | ok a h=>exact p
 | exc _ _=>exact False.elim p
 | bad=>exact p
theorem qNv {t:TG} {g:L2.TG} {tg iter:Expr} {ci:CI} {body:List Stmt} {cb:CS} {pos:Pos} (ht:tgOk X.K t g) (hc:X.calm=true) (hi:PI X.nox tg iter (tDI X.K WF (denI F ci))) (hg:PG X.nox tg g) (hb:PSs X.nox body (tDS X.K WF (denS F B cb)))
    (hs:∀ x,foldedSetIterable iter X.env x=pure x):PS X (.For tg iter body [] pos) (tDS X.K W (denS F B (.fori t ci cb))):=PS.imp (PS.nox (L2.ps_for PassesOwn.never hc hi hg hb hs)) fun E σ H q=>by
  obtain ⟨ρ,env,h,s,r,p⟩:=q
  rw [denS] at p
  refine ⟨ρ,env,h,s,r,qJd (PostS.ofR s p fun ρ1 h1 it H1 e1 r1 q J hJ=>?_) _⟩
  cases it with
  | row xs =>
    obtain ⟨go,yl,sp⟩:=hJ
    exact qKV ht (s.mono e1) r1 go yl sp q
  | live k =>
    obtain ⟨a,ha,rfl⟩:=hJ
    exact qI4 ht (s.mono e1) r1 ha q
theorem qNs {i:Nat} {y:Str} {py spos:Pos} {e:Expr} {ce:CE} (T:BodyS X c F k ex W) (hi:c.own y=some i) (hc:qLJ e=true) {n:Nat} (he:eS (rcN n) c e=some ce):PS X (.Assign [.Name y py] e spos) (tDS X.K W (denS F B (.set (.nm i) ce))):=by
 have AA:=all_e (F:=F) (k:=k) (ex:=ex) n
 have A:=AA X c W T.toBody
 obtain ⟨h1,h2⟩:=T.loc hi
 have pe:=qKz T.toBody (all_e n) e ce he
 have key:∀ {σ:L2.St} {H:Hp} {E:Ends},tDS X.K W (denS F B (.set (.nm i) ce)) E σ H→tD X.K W (den F ce) σ H fun v H'=>E.nx (σ.set i (some v)) H':=fun {σ H E} t=>by
  obtain ⟨ρ,env,h,s,r,p⟩:=t
  rw [denS] at p
  exact ⟨ρ,env,h,s,r,PostS.ofR s p fun ρ' h' d H' e' r' q v hv=>q ρ' H' _ (Step.refl _ _) r' ((s.mono e').set i hv)⟩
 cases e with
 | ListComp elt gs scope pos =>
  obtain ⟨g,hg,he⟩:=bd_ok he
  obtain rfl:=qHL hg
  obtain ⟨x,px,iter,ifs⟩:=g
  have hsw:swapsWith (.ListComp elt [⟨.Name x px,iter,ifs,0⟩] scope pos) (some (.Name y py)) spos.line X.env=pure (X.env.blockKind == .function&&X.env.kindOf y == some .local&&py.line == (Expr.ListComp elt [⟨.Name x px,iter,ifs,0⟩] scope pos).pos.line&&!(scope.names.any fun (n,k)=>n == y&&(k == .local || k == .cell))):=rfl
  cases q:(X.env.blockKind == .function&&X.env.kindOf y == some .local&&py.line == (Expr.ListComp elt [⟨.Name x px,iter,ifs,0⟩] scope pos).pos.line&&!(scope.names.any fun (n,k)=>n == y&&(k == .local || k == .cell))) with
  | false =>
   rw [q] at hsw
   exact s_set T.nd' h1 h2 pe hsw (.inl (T.fn _))
  | true =>
   rw [q] at hsw
   simp only [Bool.and_eq_true] at q
   have hk:X.env.scope.names.lookup y=some .local:=(show X.env.kindOf y=some .local by simpa using q.1.1.2)
   cases ifs with
   | nil =>
    obtain ⟨it,hit,he⟩:=bd_ok he
    obtain ⟨z,hz,he⟩:=bd_ok he
    obtain ⟨hko',rfl⟩:=qAD he
    obtain ⟨hcm,hko⟩:=Bool.and_eq_true_iff.mp hko'
    have K:=qCB T.toBody hko
    refine PS.imp (qIZ K T.nd' (T.calm hcm) (A.i _ iter it hit).1 (qB8 (A.i (.Name x px) iter it hit).2) (tt:=none) (fun cl C s3 H3 fp E=>⟨(AA _ _ _ (qCP T.toBody hko cl C s3 H3 fp E)).e elt z hz,rfl⟩) h1 hk hsw) fun E σ H t=>compI (f:=fun env x=>compF (den F z) env x) (mi:=denI F it) (qEV _) ?_
    obtain ⟨ρ,env,h,s,r,p⟩:=key t
    rw [den] at p
    exact ⟨ρ,env,h,s,r,p⟩
   | cons tst ts =>
    cases ts with
    | cons _ _=>cases he
    | nil =>
     obtain ⟨it,hit,he⟩:=bd_ok he
     obtain ⟨zt,hzt,he⟩:=bd_ok he
     obtain ⟨z,hz,he⟩:=bd_ok he
     obtain ⟨hko',rfl⟩:=qAD he
     obtain ⟨hcm,hko⟩:=Bool.and_eq_true_iff.mp hko'
     have K:=qCB T.toBody hko
     refine PS.imp (qIZ K T.nd' (T.calm hcm) (A.i _ iter it hit).1 (qB8 (A.i (.Name x px) iter it hit).2) (tt:=some (tDT X.K WF (denT F zt))) (fun cl C s3 H3 fp E=>⟨(AA _ _ _ (qCP T.toBody hko cl C s3 H3 fp E)).e elt z hz,tst,rfl,(AA _ _ _ (qCP T.toBody hko cl C s3 H3 fp E)).t tst zt hzt⟩) h1 hk hsw) fun E σ H t=>compI (f:=fun env x=>qFB (den F z) (denT F zt) env x) (mi:=denI F it) (qFN _ _) ?_
     obtain ⟨ρ,env,h,s,r,p⟩:=key t
     rw [den] at p
     exact ⟨ρ,env,h,s,r,p⟩
 | _=>cases hc
theorem qJ2 (T:BodyS X c F k ex W):BodyS X.nox c.still F k ex WF where
 N:=T.N
 nd:=T.nd
 sc:=T.sc
 calm:=T.calm
 room:=T.room
 hu:=T.hu
 glob:=fun x g h=>by
  have:=T.glob x g h
  cases g <;> exact this
 xc:=fun pins σ H s0 e s' I x=>by
  obtain ⟨_,_,_,_,_,_,_,_,_,_,_,_,_,_,_,_,z⟩:=x
  exact False.elim z
 fn:=T.fn
 stk:=T.stk
 xr:=fun z=>by cases z
 xm:=T.xm
 xq:=T.xq
 xv:=T.xv
 xg:=T.xg
 mt:=T.mt
 at':=T.at'
 noex:=T.noex
 xcl:=T.xcl
theorem qJV (T:BodyS X c F k ex W) (e:Value):BodyS (mark X e) c.dull F k ex WF where
 N:=T.N
 nd:=T.nd
 sc:=T.sc
 calm:=fun z=>by cases z
 room:=fun z=>by cases z
 hu:=T.hu
 glob:=fun x g h=>by
  have:=T.glob x g h
  cases g <;> exact this
 xc:=fun pins σ H s0 e s' I x=>by
  obtain ⟨_,_,_,_,_,_,_,_,_,_,_,_,_,_,_,_,z⟩:=x
  exact False.elim z
 fn:=T.fn
 stk:=T.stk
 xr:=fun z=>by cases z
 xm:=T.xm
 xq:=T.xq
 xv:=T.xv
 xg:=T.xg
 mt:=T.mt
 at':=T.at'
 noex:=T.noex
 xcl:=T.xcl
theorem qMf (T:BodyS X c F k ex W) (pins:List (Addr × Obj)) (W1:WX):BodyS (hold X pins fun e s'=>∃ pins' σ H s0,Inv (hold X pins fun _ _=>False) pins' σ H s0∧CXD X.prog X.w ex X.stack H s0 (fun _ co H'=>∃ c,co=some c∧W1 c σ H') e s') c.still F k ex W1 where
 N:=T.N
 nd:=T.nd
 sc:=T.sc
 calm:=T.calm
 room:=T.room
 hu:=T.hu
 glob:=fun x g h=>by
  have:=T.glob x g h
  cases g <;> exact this
 xc:=fun pins' σ H s0 e s' I x=>⟨pins',σ,H,s0,⟨qIh (qFU I.ok),I.os,I.bare,I.base,I.loc,I.cell,I.free,I.freeC,I.pin,I.hok,I.len⟩,x⟩
 fn:=T.fn
 stk:=T.stk
 xr:=fun z=>by cases z
 xm:=T.xm
 xq:=T.xq
 xv:=T.xv
 xg:=T.xg
 mt:=T.mt
 at':=T.at'
 noex:=T.noex
 xcl:=T.xcl
structure AllS (F:Nat→List D→M D) (k B:Nat) (ex:Nat→Option Addr) (r:Rs):Prop where
 s:∀ (X:Cx) (c:Cc) (W:WX),BodyS X c F k ex W→∀ st cs,r.s c st=some cs→PS X st (tDS X.K W (denS F B cs))
 ss:∀ (X:Cx) (c:Cc) (W:WX),BodyS X c F k ex W→∀ st cs,r.ss c st=some cs→PSs X st (tDS X.K W (denS F B cs))
 h:∀ (X:Cx) (c:Cc) (W:WX),BodyS X c F k ex W→∀ hs ch,r.h c hs=some ch→HOf X F B ex hs ch
theorem qNq (T:BodyS X c F k ex W) {n:Nat} {t e:Expr} {spos:Pos} {cs:CS} (h:sSet (rcN n) c e t=some cs):PS X (.Assign [t] e spos) (tDS X.K W (denS F B cs)):=by
 have A:=all_e (F:=F) (k:=k) (ex:=ex) n X c W T.toBody
 cases t with
 | Name x py =>
  obtain ⟨i,hi,h⟩:=bd_ok h
  obtain ⟨y,hy,h⟩:=bd_ok h
  obtain ⟨hn,rfl⟩:=qAD h
  obtain ⟨h1,h2⟩:=T.loc hi
  rcases Bool.or_eq_true_iff.mp hn with hn | hn
  ·exact s_set T.nd' h1 h2 (A.e _ y hy) (qDd hn) (.inl (T.fn _))
  ·cases n with
   | zero=>cases hy
   | succ n=>exact qNs T hi hn hy
 | Attribute o f p =>
  obtain ⟨kk,hk,h⟩:=bd_ok h
  obtain ⟨x,hx,h⟩:=bd_ok h
  obtain ⟨y,hy,h⟩:=bd_ok h
  obtain ⟨hn,rfl⟩:=qAD h
  obtain ⟨k1,k2,k3⟩:=T.at' _ kk.1 kk.2 hk
  exact qNr k1 k2 (fun c C h1 h2=>k3 c C h1 h2) (A.e _ x hx) (A.e _ y hy) (qDd hn)
 | Subscript o i p =>
  obtain ⟨x,hx,h⟩:=bd_ok h
  obtain ⟨z,hz,h⟩:=bd_ok h
  obtain ⟨y,hy,h⟩:=bd_ok h
  obtain ⟨hn,rfl⟩:=qAD h
  obtain ⟨h1,h2⟩:=Bool.and_eq_true_iff.mp hn
  exact qLn (A.e _ x hx) (A.e _ z hz) (A.e _ y hy) (qJq h2) (by unfold swapsWithSole;exact qDd h1) rfl
 | _=>cases h
theorem tg_of (T:BodyS X c F k ex W) (hc:X.calm=true) {tg:Expr} {t:TG} (h:isTg c tg=some t):∃ g,tgOk X.K t g∧PG X.nox tg g:=by
 cases tg with
 | Name x p =>
  obtain ⟨i,hi,h⟩:=bd_ok h
  cases h
  obtain ⟨h1,h2⟩:=T.loc hi
  exact ⟨_,tg_nm i,L2.pg_name (X:=X.nox) T.nd' h1 h2 (.inl (T.fn _))⟩
 | Tuple es j p =>
  rcases es with _ | ⟨a,_ | ⟨b,_ | ⟨_,_⟩⟩⟩
  ·cases h
  ·cases h
  ·obtain ⟨x,hx,h⟩:=bd_ok h
   obtain ⟨y,hy,h⟩:=bd_ok h
   obtain ⟨i,hi,h⟩:=bd_ok h
   obtain ⟨j,hj,h⟩:=bd_ok h
   cases h
   obtain ⟨_,rfl⟩:=qDy hx
   obtain ⟨_,rfl⟩:=qDy hy
   obtain ⟨h1,h2⟩:=T.loc hi
   obtain ⟨h3,h4⟩:=T.loc hj
   exact ⟨_,qNe i j,L2.pg_tup (X:=X.nox) hc (L2.pgs_cons (L2.pg_name (X:=X.nox) T.nd' h1 h2 (.inl (T.fn _))) (L2.pgs_cons (L2.pg_name (X:=X.nox) T.nd' h3 h4 (.inl (T.fn _))) L2.pgs_nil))⟩
  ·cases h
 | _=>cases h
theorem qOv {n:Nat} (S:AllS F k B ex (rsN n)) (X:Cx) (c:Cc) (W:WX) (T:BodyS X c F k ex W) {tg it:Expr} {a:List Stmt} {pos:Pos} {t:TG} {z:CI} {y:CS} (ht:isTg c tg=some t) (hz:(rcN n).i c it=some z) (hy:(rsN n).ss c.still a=some y) (hcm:c.calm=true):PS X (.For tg it a [] pos) (tDS X.K W (denS F B (.fori t z y))):=by
 have T':=qJ2 T
 have A':=all_e (k:=k) (ex:=ex) n X.nox c WF { T'.toBody with }
 obtain ⟨g,g1,g2⟩:=tg_of T (T.calm hcm) ht
 exact qNv g1 (T.calm hcm) (A'.i _ _ z hz).1 g2 (S.ss _ _ _ T' _ y hy) (qB8 (A'.i (.Name "" ⟨0,0,0,0⟩) _ z hz).2)
theorem qJ8 (T:BodyS X c F k ex W) {e:Expr} {x:Str} {cs:CS} {pos:Pos} (he:isRs e=some x) (h:qIV c x=some cs):PS X (.Raise (some e) none pos) (tDS X.K W (denS F B cs)):=by
 obtain ⟨_,_,_,_,_,rfl⟩:=qMc he
 unfold qIV at h
 cases w:c.glob x with
 | none=>rw [w] at h;cases h
 | some g =>
  rw [w] at h
  cases g with
  | exc i =>
   obtain ⟨hr,rfl⟩:=qAD h
   obtain ⟨hr1,hr2⟩:=Bool.and_eq_true_iff.mp hr
   obtain ⟨g1,g2,g3,C,g4,g5,g6⟩:=T.gl w
   exact qLp (T.calm hr2) g1 g2 g4 g6 fun pins σ H s a args h' I m hw=>T.xr hr1 pins σ H s a args h' i C g5 I m hw
  | _=>cases h
theorem qNd {n:Nat} (S:AllS F k B ex (rsN n)) (X:Cx) (c:Cc) (W:WX) (T:BodyS X c F k ex W) {a els fin:List Stmt} {hs:List ExceptHandler} {pos:Pos} {cs:CS} (h:sTry (rsN n) c a hs els fin=some cs):PS X (.Try a hs els fin pos) (tDS X.K W (denS F B cs)):=by
 cases hs with
 | nil=>cases h
 | cons hd hs =>
  cases els with
  | cons _ _=>cases h
  | nil =>
   cases fin with
   | cons _ _=>cases h
   | nil =>
    obtain ⟨x,hx,h⟩:=bd_ok h
    obtain ⟨y,hy,h⟩:=bd_ok h
    obtain ⟨_,rfl⟩:=qAD h
    exact s_try T.stk (S.h X c W T _ y hy) fun pins W1=>S.ss _ _ _ (qMf T pins W1) _ x hx
theorem qNk {n:Nat} (S:AllS F k B ex (rsN n)) (X:Cx) (c:Cc) (W:WX) (T:BodyS X c F k ex W) (st:Stmt) (cs:CS) (h:stS (rcN n) (rsN n) c st=some cs):PS X st (tDS X.K W (denS F B cs)):=by
 have A:=all_e (k:=k) (ex:=ex) n X c W T.toBody
 cases st with
 | Assign ts e spos =>
  rcases ts with _ | ⟨t,_ | ⟨_,_⟩⟩
  ·cases h
  ·exact qNq T h
  ·cases h
 | Expr e pos =>
  obtain ⟨y,hy,h⟩:=bd_ok h
  obtain ⟨hn,rfl⟩:=qAD h
  exact s_exp (A.e _ y hy) (qDd hn)
 | Return v pos =>
  cases v with
  | none=>cases h;exact qNt
  | some e=>obtain ⟨y,hy,h⟩:=bd_ok h;cases h;exact s_ret (A.e _ y hy)
 | Pass pos=>cases h;exact qNu
 | Break pos=>cases h;exact s_brk
 | Continue pos=>cases h;exact s_cnt
 | If t a b pos =>
  obtain ⟨z,hz,h⟩:=bd_ok h
  obtain ⟨x,hx,h⟩:=bd_ok h
  obtain ⟨y,hy,h⟩:=bd_ok h
  cases h
  exact s_if (A.t _ z hz) (S.ss X c W T _ x hx) (S.ss X c W T _ y hy)
 | For tg it a els pos =>
  cases els with
  | cons _ _=>cases h
  | nil =>
   obtain ⟨t,ht,h⟩:=bd_ok h
   obtain ⟨z,hz,h⟩:=bd_ok h
   obtain ⟨y,hy,h⟩:=bd_ok h
   obtain ⟨hcm,rfl⟩:=qAD h
   exact qOv S X c W T ht hz hy hcm
 | Raise x y pos =>
  cases y with
  | some _=>cases h
  | none =>
   cases x with
   | none=>cases h
   | some e=>obtain ⟨x,hx,h⟩:=bd_ok h;exact qJ8 T hx h
 | Try a hs els fin pos=>exact qNd S X c W T h
 | _=>cases h
theorem s_opq {st:Stmt}:PS X st (tDS X.K W (denS F B .opq)):=fun pins s σ H D I t=>by
 obtain ⟨ρ,env,h,st,r,p⟩:=t
 rw [denS] at p
 exact False.elim p
theorem s_get {n:Nat} (S:AllS F k B ex (rsN n)) {X:Cx} {c:Cc} {W:WX} (T:BodyS X c F k ex W) (st:Stmt):PS X st (tDS X.K W (denS F B (((rsN n).s c st).getD .opq))):=by
 cases q:(rsN n).s c st with
 | none=>exact s_opq
 | some x=>exact S.s X c W T st x q
theorem s_one {st:Stmt} {a:CS} (h1:PS X st (tDS X.K W (denS F B a))):PSs X [st] (tDS X.K W (denS F B a)):=L2.pss_one h1
theorem qLf {n:Nat} (S:AllS F k B ex (rsN n)) (X:Cx) (c:Cc) (W:WX) (T:BodyS X c F k ex W) (st:List Stmt) (cs:CS) (h:ssS (rsN n) c st=some cs):PSs X st (tDS X.K W (denS F B cs)):=by
 cases st with
 | nil=>cases h;exact s_nil
 | cons s r =>
  cases r with
  | nil=>cases h;exact s_one (s_get S T _)
  | cons t r=>obtain ⟨y,hy,h⟩:=bd_ok h;cases h;exact qNw (s_get S T _) (S.ss X c W T _ y hy)
theorem h_ok {n:Nat} (S:AllS F k B ex (rsN n)) (X:Cx) (c:Cc) (W:WX) (T:BodyS X c F k ex W) {x:Str} {p pos:Pos} {i:Nat} {nm:Option Str} {b:List Stmt} {r:List ExceptHandler} {ch:CH} (hi:c.glob x=some (.exc i)) (h:sH (rsN n) c i nm b r=some ch):HOf X F B ex (.ExceptHandler (some (.Name x p)) nm b pos::r) ch:=by
 obtain ⟨g1,g2,g3,C,g4,g5,g6⟩:=T.gl hi
 cases b with
 | nil=>cases h
 | cons s b =>
  obtain ⟨cs,hcs,h⟩:=bd_ok h
  obtain ⟨kk,hk,h⟩:=bd_ok h
  obtain ⟨q,hq,h⟩:=bd_ok h
  cases nm with
  | none =>
   cases h
   exact ⟨⟨C,g1,g2,g4,fun j D hj=>T.xm i cs C j D hcs g5 hj⟩,⟨_,_,rfl⟩,fun e=>S.ss _ _ _ (qJV T e) _ kk hk,S.h X c W T _ q hq⟩
  | some m =>
   obtain ⟨j,hj,h⟩:=bd_ok h
   cases h
   unfold Cc.loc at hj
   split at hj
   ·rename_i hl
    exact ⟨⟨C,g1,g2,g4,fun j D hj=>T.xm i cs C j D hcs g5 hj⟩,⟨_,_,rfl⟩,⟨T.noex,T.nd',by rw [T.N];exact qE5 hj,by rw [T.sc];exact hl,T.xcl⟩,fun e=>S.ss _ _ _ (qJV T e) _ kk hk,S.h X c W T _ q hq⟩
   ·cases hj
theorem qNo {n:Nat} (S:AllS F k B ex (rsN n)) (X:Cx) (c:Cc) (W:WX) (T:BodyS X c F k ex W) (hs:List ExceptHandler) (ch:CH) (h:hS (rsN n) c hs=some ch):HOf X F B ex hs ch:=by
 cases hs with
 | nil=>cases h;trivial
 | cons hd r =>
  obtain ⟨ty,nm,b,pos⟩:=hd
  cases ty with
  | none=>cases h
  | some t =>
   obtain ⟨x,hx,h2⟩:=bd_ok h
   obtain ⟨p,rfl⟩:=qDy hx
   clear h
   cases w:c.glob x with
   | none=>rw [w] at h2;cases h2
   | some g =>
    rw [w] at h2
    cases g with
    | exc i=>exact h_ok S X c W T w h2
    | _=>cases h2
theorem all_s:∀ n,AllS F k B ex (rsN n)
 | 0=>{ s:=fun _ _ _ _ _ _ h=>(nomatch h),ss:=fun _ _ _ _ _ _ h=>(nomatch h),h:=fun _ _ _ _ _ _ h=>(nomatch h) }
 | n+1 =>
  have S:=all_s n
  ⟨qNk S,qLf S,qNo S⟩
end
end Fy
set_option Elab.async false
set_option linter.all false
set_option maxRecDepth 100000
set_option maxHeartbeats 4000000
namespace Fy
open PySem PySem.Spec PyProof.Rows
open L2 (XK frs V Hp HO VK TE TT TA TS TI Cx Inv RelV Vals SqL SqT Rd upd qAB qAC PE PT PA PS PSs EP OpR CallR IxR MtR SlR PO TO PI PG PIE Turn FpOk Ends)
structure Df where
 name:Str
 qual:Str
 st:Stmt
 N:List Str
 ps:List Str
structure DfOk (G:List (Str × GK)) (xs:List (Nat × List Nat)) (Mt:List (Str × Nat × List (Nat × Nat))) (At:List (Str × Nat × List Nat)) (d:Df) (f:Fn):Prop where
 sc:L2.FnScope d.N d.ps (L2.defScope d.st)
 cp:cSs ⟨d.N,L2.defScope d.st,G,xs,true,true,Mt,At⟩ 100 (L2.defBody d.st)=some f.body
 ar:f.ar=d.ps.length
 sl:f.sl=d.N.length
noncomputable def DfIn (K:PySem.W.Frag) (d:Df) (f:Addr) (fd:FuncData):Prop:=L2.Fun K d.name d.qual d.st f fd∧L2.Binds K fd d.ps []
noncomputable def ConIn (mg:Str→Option Value) (x:Str) (d:D):Prop:=∃ v u,mg x=some u∧RelV v u∧∀ K ρ H,RepV K ρ H d v
noncomputable def exOf (K:PySem.W.Frag) (xl:List Nat) (c:Nat):Option Addr:=if xl.contains c then (match PySem.W.nsIn K mainGlobals (nmOf c) with | some (some (.ref C))=>some C | _=>none) else none
theorem qB9 {K:PySem.W.Frag} {xl:List Nat} {c:Nat} {C:Addr} (h:exOf K xl c=some C):c∈xl∧ClsAt K c C:=by
 unfold exOf at h
 split at h
 ·rename_i q
  refine ⟨by simpa using q,?_⟩
  split at h
  ·rename_i C' z
   cases h
   exact z
  ·cases h
 ·cases h
theorem qE9 {K:PySem.W.Frag} {xl:List Nat} {c:Nat} {C:Addr} {x:Str} (hc:xl.contains c=true) (hx:nmOf c=x) (h:PySem.W.nsIn K mainGlobals x=some (some (.ref C))):exOf K xl c=some C:=by
 unfold exOf
 rw [if_pos hc,hx,h]
theorem qCt {K:PySem.W.Frag} {c:Nat} {C D:Addr} {x:Str} (h:ClsAt K c D) (hx:nmOf c=x) (ha:PySem.W.nsIn K mainGlobals x=some (some (.ref C))):D=C:=by
 unfold ClsAt at h
 rw [hx,ha] at h
 cases h
 rfl
theorem qJO {K:PySem.W.Frag} {C D:Addr} {b:Bool} (hc:PySem.W.isClsIn K C=true) (ht:PySem.W.typeIn K (.ref C)=some (.type "type")) (hb:PySem.W.subIn K (.ref C) (.type "BaseException")=some true) (hs:PySem.W.subIn K (.ref D) (.ref C)=some b) :
    PySem.W.exmOne K (.ref D) (.ref C)=some b:=by
  unfold PySem.W.exmOne
  rw [hb,if_pos (show (some true == some true)=true from rfl)]
  unfold PySem.W.kitCls
  have hc':(PySem.W.clsIn K C).isSome=true:=hc
  simp only
  rw [hc',ht,if_pos (show (true&&some (Value.type "type") == some (Value.type "type"))=true by decide),hs]
noncomputable def GlP (K:PySem.W.Frag) (mg:Str→Option Value) (xl:List Nat) (ds:List Df) (x:Str) (g:GK):Prop:=match g with
 | .fn i=>∃ d f fd,ds[i]?=some d∧mg x=some (.ref f)∧DfIn K d f fd
 | .con d=>ConIn mg x d
 | .blt=>mg x=none
 | .exc c=>∃ C,mg x=some (.ref C)∧exOf K xl c=some C∧isXC K C=true
 | .cls c i=>∃ C d f fd,mg x=some (.ref C)∧ClsAt K c C∧L2.Cls K C∧L2.Mk K C f∧ds[i]?=some d∧DfIn K d f fd
noncomputable def MtP (K:PySem.W.Frag) (ds:List Df) (m:Str) (mk:Nat) (tb:List (Nat × Nat)):Prop:=m=nmOf mk∧mk<256 ^ 60∧∀ cc fi C,tbN tb cc=some fi→ClsAt K cc C→L2.Cls K C∧∃ d f fd,L2.Meth K C m f∧ds[fi]?=some d∧DfIn K d f fd
noncomputable def AtP (K:PySem.W.Frag) (f:Str) (kk:Nat) (cs:List Nat):Prop:=f=nmOf kk∧kk<256 ^ 60∧∀ cc C,cs.contains cc=true→ClsAt K cc C→L2.NoAttr K C (nmOf kk)
noncomputable def AllP {α:Type} (P:α→Prop):List α→Prop
 | []=>True
 | a::r=>P a∧AllP P r
theorem AllP.of {α:Type} {P:α→Prop} {l:List α} (h:AllP P l) {a:α} (ha:a∈l):P a:=by
 induction l with
 | nil=>cases ha
 | cons b r ih =>
  rcases List.mem_cons.mp ha with e | e
  ·rw [e];exact h.1
  ·exact ih h.2 e
noncomputable def AllZ {α β:Type} (P:α→β→Prop):List α→List β→Prop
 | a::r,b::q=>P a b∧AllZ P r q
 | _,_=>True
theorem AllZ.of {α β:Type} {P:α→β→Prop} {l:List α} {m:List β} (h:AllZ P l m) {i:Nat} {a:α} {b:β} (ha:l[i]?=some a) (hb:m[i]?=some b):P a b:=by
 induction l generalizing m i with
 | nil=>cases ha
 | cons x r ih =>
  cases m with
  | nil=>cases hb
  | cons y q =>
   cases i with
   | zero=>cases ha;cases hb;exact h.1
   | succ i=>exact ih h.2 (by simpa using ha) (by simpa using hb)
noncomputable def qAJ (d:Df):Prop:=∀ (kV doc pm:Value) (an:Option Addr) (cdv ct:Value) (us:List Value),us.length=d.ps.length→bindArgs (PySem.W.fnOf d.name d.qual (L2.defArgs d.st) (L2.defBody d.st) (L2.defScope d.st) .none kV doc pm an cdv ct) ⟨us,[]⟩=pure (d.ps.zip us)
section
variable {P:List Value→Prop}
theorem ar0 (h:P []):∀ us:List Value,us.length=0→P us
 | [],_=>h
theorem ar1 (h:∀ a,P [a]):∀ us:List Value,us.length=1→P us
 | [a],_=>h a
theorem ar2 (h:∀ a b,P [a,b]):∀ us:List Value,us.length=2→P us
 | [a,b],_=>h a b
theorem ar3 (h:∀ a b c,P [a,b,c]):∀ us:List Value,us.length=3→P us
 | [a,b,c],_=>h a b c
theorem ar4 (h:∀ a b c d,P [a,b,c,d]):∀ us:List Value,us.length=4→P us
 | [a,b,c,d],_=>h a b c d
theorem ar5 (h:∀ a b c d e,P [a,b,c,d,e]):∀ us:List Value,us.length=5→P us
 | [a,b,c,d,e],_=>h a b c d e
end
theorem df_mk {K:PySem.W.Frag} {d:Df} {f:Addr} {oc:Value} {od an:Option Addr} {osl:Array (Option Value)} {kV doc pm cdv ct:Value} (p:qAJ d)
    (l:K.lookup f=some ⟨oc,od,.func (PySem.W.fnOf d.name d.qual (L2.defArgs d.st) (L2.defBody d.st) (L2.defScope d.st) .none kV doc pm an cdv ct),osl⟩) (c:PySem.W.codeIn K cdv d.qual=true) (k:PySem.W.keepIn K (.ref f)=true) :
    ∃ fd,DfIn K d f fd:=⟨_,L2.fun_mk l c k,(L2.fun_mk l c k).binds p⟩
section
variable {K:PySem.W.Frag} {mg:Str→Option Value} {xl:List Nat} {ds:List Df} {h:Heap} {x:Str}
theorem gl_fn {i:Nat} {d:Df} {f:Addr} (X:K.In h) (Gm:h.Ns mainGlobals mg) (hd:ds[i]?=some d) (a:PySem.W.nsIn K mainGlobals x=some (some (.ref f))) (D:∃ fd,DfIn K d f fd):GlP K mg xl ds x (.fn i):=by
 obtain ⟨fd,D⟩:=D
 exact ⟨d,f,fd,hd,PySem.W.mg_of X Gm a,D⟩
theorem qOt {i c:Nat} {C f:Addr} {d:Df} (X:K.In h) (Gm:h.Ns mainGlobals mg) (hd:ds[i]?=some d) (hx:nmOf c=x) (a:PySem.W.nsIn K mainGlobals x=some (some (.ref C))) (q:L2.Cls K C) (m:L2.Mk K C f) (D:∃ fd,DfIn K d f fd):GlP K mg xl ds x (.cls c i):=by
 obtain ⟨fd,D⟩:=D
 exact ⟨C,d,f,fd,PySem.W.mg_of X Gm a,(by unfold ClsAt;rw [hx];exact a),q,m,hd,D⟩
theorem qLL {c:Nat} {C:Addr} (X:K.In h) (Gm:h.Ns mainGlobals mg) (hc:xl.contains c=true) (hx:nmOf c=x) (a:PySem.W.nsIn K mainGlobals x=some (some (.ref C))) (e:isXC K C=true):GlP K mg xl ds x (.exc c) :=
 ⟨C,PySem.W.mg_of X Gm a,qE9 hc hx a,e⟩
theorem qCU {n:Int} {t:Tok} (X:K.In h) (Gm:h.Ns mainGlobals mg) (a:PySem.W.nsIn K mainGlobals x=some (some (.int n t))):GlP K mg xl ds x (.con (.int n)):=⟨.int _,_,PySem.W.mg_of X Gm a,⟨_,rfl⟩,fun _ _ _=>rfl⟩
theorem qCV (X:K.In h) (Gm:h.Ns mainGlobals mg) (a:PySem.W.nsIn K mainGlobals x=some none):GlP K mg xl ds x .blt:=PySem.W.mg_none_of X Gm a
end
theorem qBg {K:PySem.W.Frag} {ds:List Df} {m x:Str} {mk c i:Nat} {C f:Addr} {d:Df} (h1:nmOf mk=m) (h2:mk<256 ^ 60) (hx:nmOf c=x) (hn:PySem.W.nsIn K mainGlobals x=some (some (.ref C))) (h3:L2.Cls K C) (hm:L2.Meth K C m f) (hd:ds[i]?=some d) (D:∃ fd,DfIn K d f fd):MtP K ds m mk [(c,i)] :=
 ⟨h1.symm,h2,fun cc fi D ht hD=>by
  unfold tbN at ht
  split at ht
  ·rename_i q
   have q:c=cc:=by simpa using q
   subst q
   cases ht
   cases qCt hD hx hn
   obtain ⟨fd,D⟩:=D
   exact ⟨h3,d,f,fd,hm,hd,D⟩
  ·cases ht⟩
theorem qJp {K:PySem.W.Frag} {f x:Str} {kk c:Nat} {C:Addr} (h1:nmOf kk=f) (h2:kk<256 ^ 60) (hx:nmOf c=x) (hn:PySem.W.nsIn K mainGlobals x=some (some (.ref C))) (h3:PySem.W.findIn K (.ref C) f=some none):AtP K f kk [c] :=
 ⟨h1.symm,h2,fun cc D hc hD=>by
  simp only [List.contains_cons,List.contains_nil,Bool.or_false,beq_iff_eq] at hc
  subst hc
  cases qCt hD hx hn
  unfold L2.NoAttr
  rw [h1]
  exact h3⟩
structure Top (K:PySem.W.Frag) (mg:Str→Option Value) (G:List (Str × GK)) (xs:List (Nat × List Nat)) (xl:List Nat) (Mt:List (Str × Nat × List (Nat × Nat))) (At:List (Str × Nat × List Nat)) (ds:List Df) (fns:List Fn):Prop where
 ok:∀ (i:Nat) (d:Df) (f:Fn),ds[i]?=some d→fns[i]?=some f→DfOk G xs Mt At d f
 len:ds.length=fns.length
 gl:∀ x g,(x,g)∈G→GlP K mg xl ds x g
 mt:∀ m mk tb,(m,mk,tb)∈Mt→MtP K ds m mk tb
 at':∀ f kk cs,(f,kk,cs)∈At→AtP K f kk cs
 xm:∀ (i:Nat) (cs:List Nat) (C:Addr) (j:Nat) (D:Addr),(i,cs)∈xs→exOf K xl i=some C→exOf K xl j=some D→PySem.W.exmOne K (.ref D) (.ref C)=some (cs.contains j)
 xk:∀ (i:Nat) (cs:List Nat),(i,cs)∈xs→xl.contains i=true→cs.contains i=true
 xl1:∀ (cs:List Nat),(1,cs)∈xs→cs=xl
 xv:∀ (cs:List Nat) (j:Nat) (D:Addr),(0,cs)∈xs→exOf K xl j=some D→PySem.W.exmOne K (.ref D) (.type "ValueError")=some (cs.contains j)
 xg:∀ (j:Nat) (D:Addr),exOf K xl j=some D→XGet K D
theorem lookup_mem' {α β:Type} [BEq α] [LawfulBEq α] {l:List (α × β)} {x:α} {g:β} (h:l.lookup x=some g):(x,g)∈l:=by
 induction l with
 | nil=>cases h
 | cons p l ih =>
  obtain ⟨a,b⟩:=p
  rw [List.lookup_cons] at h
  cases q:(x == a) with
  | true =>
   rw [q] at h
   cases h
   have:x=a:=by simpa using q
   subst this
   exact List.mem_cons_self ..
  | false =>
   rw [q] at h
   exact List.mem_cons_of_mem _ (ih h)
theorem PostS.fin {K:PySem.W.Frag} {Q:VK} {w:W1} {ρ:List Addr} {H:Hp} {r:SR} (p:PostV K w Q ρ H (fin r)):PostS K (fun c _ H'=>w c H') { nx:=fun _ H'=>Q .non H',rt:=Q } ρ H r:=by
 cases r with
 | nx e h=>exact fun ρ' H' st e' r' s'=>p ρ' H' e' r' .non rfl
 | rt d h=>exact fun ρ' H' v e' r' hv=>p ρ' H' e' r' v hv
 | bk e h=>exact False.elim p
 | ct e h=>exact False.elim p
 | exc c e h=>exact fun ρ' H' st e' r' s'=>p ρ' H' e' r'
 | bad=>exact False.elim p
theorem PSs.wish {X:Cx} {E:Value→Shared→Prop} {st:List Stmt} {t:TS} (h:PSs (X.wish E) st t) (hE:∀ e s,E e s→X.xe e s):PSs X st t:=fun pins s σ H D I hw =>
 wpAny_mono (h pins s σ H D (I.wish _) hw) (fun _ _ q=>q.unwish) hE
theorem RepS.start {K:PySem.W.Frag} {ρ:List Addr} {H:Hp} {N:List Str} {ds:List D} {vs:List V} {n:Nat} (l:RepL K ρ H ds vs) (hn:n=N.length-vs.length):RepS K ρ H (ds.map some++List.replicate n none) (L2.start N vs):=by
 subst hn
 unfold L2.start
 refine ⟨by simp [l.length],fun i d hi=>?_⟩
 by_cases hlt:i<ds.length
 ·rw [List.getElem?_append_left (by simpa using hlt),List.getElem?_map] at hi
  cases q:ds[i]? with
  | none=>rw [q] at hi;cases hi
  | some d' =>
   rw [q] at hi
   cases hi
   obtain ⟨v,h1,h2⟩:=l.get q
   refine ⟨v,?_,h2⟩
   rw [List.getElem?_append_left (by simpa [l.length] using hlt),List.getElem?_map,h1]
   rfl
 ·rw [List.getElem?_append_right (by simpa using hlt),List.getElem?_replicate] at hi
  split at hi <;> cases hi
noncomputable def bodyE (X0:Cx) (ex:Nat→Option Addr) (E:XK):Value→Shared→Prop:=fun e s' =>
 (∃ pins σ H1 s1,Inv X0 pins σ H1 s1∧CXD X0.prog X0.w ex X0.stack H1 s1 (fun _ co H'=>∃ c,co=some c∧∀ e,E e (some c) H') e s') ∨
 (∃ pins σ H1 s1 a args h' c C,ex c=some C∧Inv X0 pins σ H1 s1∧Heap.MadeExcOf s1.heap h' a (.ref C) args∧(∀ e,E e (some c) H1)∧e=.ref a∧s'={ s1 with heap:=h' })
theorem qHP {P:Program} {w:World} {K:PySem.W.Frag} {mg:Str→Option Value} {base:Heap} {G:List (Str × GK)} {xs:List (Nat × List Nat)} {xl:List Nat} {Mt:List (Str × Nat × List (Nat × Nat))} {At:List (Str × Nat × List Nat)} {ds:List Df} {fns:List Fn} {B:Nat} (T:Top K mg G xs xl Mt At ds fns) :
    ∀ (n i:Nat) (d:Df) (f:Addr) (fd:FuncData),ds[i]?=some d→L2.Fun K d.name d.qual d.st f fd→L2.FnOk P w K mg base (CXD P w (exOf K xl)) (2*n) f fd d.ps (spD K (callN fns B n i))
  | 0,i,d,f,fd,hi,hf=>by
    refine ⟨fun vs H Q E h=>?_,fun A outer s H args us vs Q E hr he hb hv h=>?_⟩
    · obtain ⟨ρ,h0,ds,_,_,p⟩:=h
      exact False.elim p
    · obtain ⟨ρ,h0,ds,_,_,p⟩:=h
      exact False.elim p
  | n+1,i,d,f,fd,hi,hf=>by
    have hil:=(List.getElem?_eq_some_iff.mp hi).1
    have hfi:fns[i]?=some (fns[i]'(by rw [← T.len];exact hil)):=List.getElem?_eq_getElem _
    generalize fns[i]'(by rw [← T.len];exact hil)=fn at hfi
    have O:=T.ok i d fn hi hfi
    have key:∀ {ds:List D} {h:AH},callN fns B (n+1) i ds h=runFn (callN fns B n) B fn ds h:=by
      intro ds h
      rw [callN,hfi]
    have arity:∀ {w:W1} {Q:VK} {ρ:List Addr} {H:Hp} {ds:List D} {h:AH},PostV K w Q ρ H (callN fns B (n+1) i ds h)→ds.length=fn.ar∧PostV K w Q ρ H (fin (denS (callN fns B n) B fn.body (ds.map some++List.replicate (fn.sl-fn.ar) none) h)):=by
      intro w Q ρ H ds h p
      rw [key,runFn] at p
      exact PostV.ite p
    obtain ⟨oc,od,kV,doc,pm,an,cdv,ct,osl,rfl,lk,hcd⟩:=hf.ex
    refine L2.fn_of lk hcd O.sc (fun vs H Q E h=>?_) fun A outer s H vs Q E hr h=>?_
    · obtain ⟨ρ,h0,ds,_,l,p⟩:=h
      rw [l.length,(arity p).1,O.ar]
    · obtain ⟨ρ,h0,ds',r,l,p⟩:=h
      obtain ⟨ha,p⟩:=arity p
      refine ⟨tDS K (fun c _ H'=>∀ e,E e (some c) H') (denS (callN fns B n) B fn.body),?_,ρ,ds'.map some++List.replicate (fn.sl-fn.ar) none,h0,RepS.start l (by rw [O.sl,l.length,ha]),r,PostS.fin p⟩
      refine PSs.wish (E:=bodyE (cxX (exOf K xl) P w K mg base d.N d.qual (L2.defScope d.st) f cdv A outer s H E) (exOf K xl) E) ?_ fun e s' z=>?_
      · have T':BodyS ((cxX (exOf K xl) P w K mg base d.N d.qual (L2.defScope d.st) f cdv A outer s H E).wish (bodyE (cxX (exOf K xl) P w K mg base d.N d.qual (L2.defScope d.st) f cdv A outer s H E) (exOf K xl) E)) ⟨d.N,L2.defScope d.st,G,xs,true,true,Mt,At⟩ (callN fns B n) (2*n) (exOf K xl) (fun c _ H'=>∀ e,E e (some c) H'):=by
          refine ⟨⟨rfl,O.sc.nd,rfl,fun _=>rfl,fun _=>hr,hr.units,fun x g hg=>?_,fun i cs xl' C j D h h1 hC hD hj=>?_,fun cs xl' j D h h1 hD hj=>?_,fun m mk tb hm=>?_,fun f kk cs hf=>T.at' f kk cs (lookup_mem' hf),fun xl' j D h1 hD hj=>?_,fun pins σ H1 s1 e s' I x=>.inl ⟨pins,σ,H1,s1,I.unwish,x⟩⟩,fun _=>rfl,⟨rfl,rfl⟩,rfl,fun i C h=>(qB9 h).2,fun _ pins σ H1 s1 a args h' c C hc I m hw=>.inr ⟨pins,σ,H1,s1,a,args,h',c,C,hc,I.unwish,m,hw,rfl,rfl⟩,fun i cs C j D h=>T.xm i cs C j D (lookup_mem' h)⟩
          · have gm:=T.gl x g (lookup_mem' hg)
            cases g with
            | fn j =>
              obtain ⟨d',f',fd',hd',hm,hF,hB⟩:=gm
              exact ⟨f',fd',d'.ps,hm,hF.kp,hB,qHP T n j d' f' fd' hd' hF⟩
            | con e =>
              obtain ⟨v,u,h1,h2,h3⟩:=gm
              exact ⟨v,u,h1,h2,fun ρ H=>h3 _ ρ H⟩
            | blt=>exact gm
            | exc c=>exact gm
            | cls c j =>
              obtain ⟨C,d',f',fd',hm,h1,h2,h3,hd',hF,hB⟩:=gm
              exact ⟨C,f',fd',d'.ps,hm,h1,h2,h3,hB,qHP T n j d' f' fd' hd' hF⟩
          · have e:=T.xl1 _ (lookup_mem' h1)
            subst e
            have hD':=qE9 hj rfl hD
            have q1:=T.xm i cs C j D (lookup_mem' h) hC hD'
            refine qLF q1 fun z=>?_
            have e:D=C:=Value.ref.inj (beq_iff_eq.mp z)
            subst e
            have q2:=T.xm i cs D i D (lookup_mem' h) hC hC
            rw [T.xk i cs (lookup_mem' h) (by simpa using (qB9 hC).1)] at q2
            exact Option.some.inj (q1.symm.trans q2)
          · have e:=T.xl1 _ (lookup_mem' h1)
            subst e
            exact qLF (T.xv cs j D (lookup_mem' h) (qE9 hj rfl hD)) fun z=>by cases beq_iff_eq.mp z
          · obtain ⟨m1,m2,m3⟩:=T.mt m mk tb (lookup_mem' hm)
            refine ⟨m1,m2,fun cc fi C ht hC=>?_⟩
            obtain ⟨k1,d',f',fd',k2,k3,k4,k5⟩:=m3 cc fi C ht hC
            exact ⟨k1,f',fd',d'.ps,k2,k5,qHP T n fi d' f' fd' k3 k4⟩
          · have e:=T.xl1 _ (lookup_mem' h1)
            subst e
            exact T.xg j D (qE9 hj rfl hD)
        exact (all_s 100).ss _ _ _ T' _ _ O.cp
      · rcases z with ⟨pins,σ,H1,s1,I,x⟩ | ⟨pins,σ,H1,s1,a,args,h',c,C,hc,I,m,hw,rfl,rfl⟩
        · exact qI6 (W:=fun c _ H'=>∀ e,E e (some c) H') (fun _ _ _ z=>z) I x
        · exact qHs (W:=fun c _ H'=>∀ e,E e (some c) H') (fun _ _ _ z=>z) I hc m hw
theorem qOY {K:PySem.W.Frag} {m:List D→M D} (hm:∀ ns:List Int,ns.length≤63→∃ h',m [.ref 0] [.rol (ns.map .int)]=.ok (.bl true) h') (H:Hp) (a:Addr) (ns:List Int) (hl:ns.length≤63) (hO:L2.Only H) (hS:SqL K H a (ns.map V.int)) {E:L2.XK} :
    spD K m [.ref a] H (fun v _=>v=.bl true) E:=by
  have hr:∀ ns:List Int,RepL K [a] H (ns.map .int) (ns.map V.int):=fun ns=>by
    induction ns with
    | nil=>rfl
    | cons x ns ih=>exact ⟨_,_,rfl,rfl,ih⟩
  refine ⟨[a],[.rol (ns.map .int)],[.ref 0],⟨rfl,fun i o hi=>?_,fun i j b o1 o2 hi hj m1 m2 _ _=>?_⟩,⟨.ref a,[],rfl,⟨a,rfl,rfl⟩,rfl⟩,?_⟩
  · cases i with
    | succ i=>simp at hi
    | zero =>
      cases hi
      refine ⟨a,rfl,ns.map V.int,?_,hr ns⟩
      rcases hS with (h | ⟨o,h⟩) | h
      · rcases hO a with z | ⟨o,xs,z⟩
        · rw [h] at z;cases z
        · rw [h] at z;cases z
      · exact .inl ⟨o,h⟩
      · exact .inr h
  · cases i with
    | succ i=>simp at hi
    | zero=>cases hi;cases m1
  · obtain ⟨h',e⟩:=hm ns hl
    rw [e]
    exact fun ρ' H' _ _ v hv=>hv
theorem walk {l:PySem.W.OpenLaw} {q:Program} {loose:List Str} {XP:(Str→Option Value)→Heap→Prop} {YP:World→Heap→Prop} {dr:DefRec} {K:Params→PySem.W.Frag} {G:List (Str × GK)} {xs:List (Nat × List Nat)} {xl:List Nat} {Mt:List (Str × Nat × List (Nat × Nat))} {At:List (Str × Nat × List Nat)} {ds:List Df} {fns:List Fn} {B i:Nat} {d:Df} {x:Str}
    (hn:l.most=some 63) (hdf:dr.params.defaults=[]) (hi:ds[i]?=some d) (hG:(dr.name,GK.fn i)∈G) (hq:d.qual=d.name) (hps:d.ps=[x])
    (hY:∀ (w:World) (h:Heap),YP w h→(K w.params).In h)
    (T:∀ (w:World) (mg:Str→Option Value) (h:Heap),(K w.params).In h→h.Ns mainGlobals mg→Top (K w.params) mg G xs xl Mt At ds fns)
    (hm:∀ ns:List Int,ns.length≤63→∃ h',callN fns B 40 i [.ref 0] [.rol (ns.map .int)]=.ok (.bl true) h')
    (hbnd:∀ (fd:FuncData) (f:Addr) (K:PySem.W.Frag),L2.Fun K d.name d.name d.st f fd→∀ (s:Shared) (u:Value),BindsTo s fd ⟨[u],[]⟩ [(x,u)]) :
    PySem.W.WalkO q loose XP YP l.row.toRowW dr [] (fun f vs=>PySem.call f vs):=by
  refine L2.walk_of (n:=63) (k:=80) (x:=x) (K:=K) (CX:=fun w=>CXD l.prog w (exOf (K w.params) xl)) (sp:=fun w=>spD (K w.params) (callN fns B 40 i)) hn (by decide) hdf ⟨rfl,by decide,by decide⟩ hY (fun w mg fa h KX Gm hmg=>?_) (fun w H a ns hl hO hS=>qOY hm H a ns hl hO hS) fun w H s e s' z=>?_
  · have T':=T w mg h KX Gm
    obtain ⟨d',f,fd,h0,h1,h2,h3⟩:=T'.gl _ _ hG
    rw [hi] at h0
    cases h0
    rw [h1] at hmg
    cases hmg
    refine ⟨fd,hbnd fd _ _ (hq ▸ h2),fun base kb nb=>?_⟩
    have:=qHP (P:=l.prog) (w:=w) (base:=base) (B:=B) T' 40 i d _ fd hi h2
    rw [hps] at this
    exact this
  · obtain ⟨_,_,_,_,_,_,_,_,_,_,_,_,_,_,q⟩:=z
    exact q
end Fy
set_option Elab.async false
set_option linter.all false
set_option maxRecDepth 100000
namespace Lk46
open Fy PySem
noncomputable abbrev qKx:Nat:=332437021739526678278002
noncomputable abbrev qAc:Nat:=22077439339750245
noncomputable abbrev qEj:Nat:=86239795832164
noncomputable abbrev qAX:Nat:=1383031140
noncomputable abbrev qHK:Nat:=122519838744953
noncomputable abbrev qLG:Nat:=1685024357
noncomputable abbrev qB4:Nat:=521332035982369564550514
noncomputable def qC0:CS:=(.seq (.set (.nm 1) (.un .ord (.var 0))) (.ret (.and (.chain .le .le (.lit (.int 32)) (.var 1) (.lit (.int 126))) (.bi .ne (.var 1) (.lit (.int 37))))))
noncomputable def qCJ:CE:=(.call 0 (.cons (.var 1) .nil))
noncomputable def qBo:CS:=(.ret (.and (.un (.isi .str) (.var 0)) (.un .all (.comp qCJ (.of (.var 0))))))
noncomputable def qBQ:CS:=(.ret (.chain .le .le (.var 1) (.var 0) (.var 2)))
noncomputable def qAW:CS:=(.seq (.ite (.or (.val (.un (.isi .bool) (.var 0))) (.not (.val (.un (.isi .int) (.var 0))))) (.ret (.lit (.bl false))) .skip) qBQ)
noncomputable def qAR:CS:=(.ret (.and (.call 1 (.cons (.var 0) .nil)) (.chain .le .le (.lit (.int 1)) (.un .len (.var 0)) (.lit (.int 400)))))
noncomputable def qAU:CS:=(.ret (.and (.call 1 (.cons (.var 0) .nil)) (.and (.bi .eq (.un .len (.var 0)) (.lit (.int 1))) (.bi .ne (.var 0) (.var 1)))))
noncomputable def qBz:CS:=(.seq (.setF (.var 0) 122519838744953 [1383031140] (.lst .nil)) (.seq (.setF (.var 0) 1685024357 [1383031140] (.lst .nil)) (.setF (.var 0) 521332035982369564550514 [1383031140] (.lit (.int 0)))))
noncomputable def qBY:CE:=(.tup (.cons (.bi .ix (.var 1) (.lit (.int 0))) (.cons (.bi .ix (.var 1) (.lit (.int 1))) .nil)))
noncomputable def qBR:CS:=(.ret (.comp qBY (.of (.un (.fld 122519838744953) (.var 0)))))
noncomputable def qCR:CS:=(.ret (.un .list (.un (.fld 1685024357) (.var 0))))
noncomputable def qAZ:CS:=(.ite (.val (.bi .eq (.bi .ix (.var 2) (.lit (.int 0))) (.var 1))) (.ret (.bi .ix (.var 2) (.lit (.int 2)))) .skip)
noncomputable def qBJ:CS:=(.ret (.lit .non))
noncomputable def qA9:CS:=(.seq (.fori (.nm 2) (.of (.un (.fld 122519838744953) (.var 0))) qAZ) qBJ)
noncomputable def qC2:CS:=(.exp (.me .append (.un (.fld 1685024357) (.var 0)) (.tup (.cons (.lit (.str [115,101,110,100])) (.cons (.var 3) (.cons (.var 1) (.cons (.var 2) .nil)))))))
noncomputable def qBy:CS:=(.seq (.exp (.meth 123649765896046 [(1383031140,11)] (.var 0) (.cons (.var 1) (.cons (.var 2) (.cons (.lit (.bl false)) .nil))))) (.ret (.var 3)))
noncomputable def qBx:CS:=(.seq (.set (.nm 3) (.un (.fld 521332035982369564550514) (.var 0))) (.seq (.ite (.not (.val (.meth 29681726132677740 [(1383031140,10)] (.var 0) .nil))) qC2 .skip) qBy))
noncomputable def qAv:CS:=(.seq (.ite (.or (.not (.val (.call 2 (.cons (.var 1) (.cons (.lit (.int 0)) (.cons (.lit (.int 1)) .nil)))))) (.not (.val (.call 3 (.cons (.var 2) .nil))))) (.raise 22077439339750245) .skip) qBx)
noncomputable def qBB:CS:=(.ret (.bi .ge (.un .len (.un (.fld 122519838744953) (.var 0))) (.lit (.int 200))))
noncomputable def qCL:CS:=(.exp (.me .append (.un (.fld 1685024357) (.var 0)) (.tup (.cons (.lit (.str [102,117,108,108])) (.cons (.var 4) (.cons (.var 1) (.cons (.var 2) .nil)))))))
noncomputable def qCK:CS:=(.exp (.me .append (.un (.fld 122519838744953) (.var 0)) (.tup (.cons (.var 4) (.cons (.var 1) (.cons (.var 2) (.cons (.var 3) .nil)))))))
noncomputable def qA2:CS:=(.seq (.set (.nm 4) (.un (.fld 521332035982369564550514) (.var 0))) (.seq (.setF (.var 0) 521332035982369564550514 [1383031140] (.bi .add (.var 4) (.lit (.int 1)))) (.ite (.val (.meth 29681726132677740 [(1383031140,10)] (.var 0) .nil)) qCL qCK)))
noncomputable def qBp:CS:=(.ret (.bi .ix (.un (.fld 122519838744953) (.var 0)) (.var 1)))
noncomputable def qAh:CS:=(.seq (.ite (.not (.val (.call 2 (.cons (.var 1) (.cons (.lit (.int 0)) (.cons (.bi .sub (.un .len (.un (.fld 122519838744953) (.var 0))) (.lit (.int 1))) .nil)))))) (.raise 22077439339750245) .skip) qBp)
noncomputable def qBH:CS:=(.seq (.set (.nm 2) (.meth 8100116882379465076 [(1383031140,12)] (.var 0) (.cons (.var 1) .nil))) (.seq (.exp (.me .lpop (.un (.fld 122519838744953) (.var 0)) (.var 1))) (.seq (.exp (.me .append (.un (.fld 1685024357) (.var 0)) (.tup (.cons (.lit (.str [99,97,114,114,121])) (.cons (.bi .ix (.var 2) (.lit (.int 0))) (.cons (.bi .ix (.var 2) (.lit (.int 1))) (.cons (.bi .ix (.var 2) (.lit (.int 2))) .nil))))))) (.ret (.tup (.cons (.bi .ix (.var 2) (.lit (.int 1))) (.cons (.bi .ix (.var 2) (.lit (.int 2))) .nil)))))))
noncomputable def qBX:CS:=(.seq (.set (.nm 2) (.meth 8100116882379465076 [(1383031140,12)] (.var 0) (.cons (.var 1) .nil))) (.seq (.exp (.me .lpop (.un (.fld 122519838744953) (.var 0)) (.var 1))) (.exp (.me .append (.un (.fld 1685024357) (.var 0)) (.tup (.cons (.lit (.str [108,111,115,101])) (.cons (.bi .ix (.var 2) (.lit (.int 0))) .nil)))))))
noncomputable def qA3:CS:=(.seq (.set (.nm 2) (.meth 8100116882379465076 [(1383031140,12)] (.var 0) (.cons (.var 1) .nil))) (.seq (.set (.nm 3) (.un (.fld 521332035982369564550514) (.var 0))) (.seq (.exp (.me .append (.un (.fld 1685024357) (.var 0)) (.tup (.cons (.lit (.str [100,111,117,98,108,101])) (.cons (.bi .ix (.var 2) (.lit (.int 0))) (.cons (.var 3) .nil)))))) (.seq (.exp (.meth 123649765896046 [(1383031140,11)] (.var 0) (.cons (.bi .ix (.var 2) (.lit (.int 1))) (.cons (.bi .ix (.var 2) (.lit (.int 2))) (.cons (.bi .ix (.var 2) (.lit (.int 3))) .nil))))) (.ret (.var 3))))))
noncomputable def qA5:CS:=(.seq (.set (.nm 3) (.meth 8100116882379465076 [(1383031140,12)] (.var 0) (.cons (.var 1) .nil))) (.seq (.set (.nm 4) (.meth 8100116882379465076 [(1383031140,12)] (.var 0) (.cons (.var 2) .nil))) (.seq (.setIx (.un (.fld 122519838744953) (.var 0)) (.var 1) (.var 4)) (.seq (.setIx (.un (.fld 122519838744953) (.var 0)) (.var 2) (.var 3)) (.exp (.me .append (.un (.fld 1685024357) (.var 0)) (.tup (.cons (.lit (.str [116,117,114,110])) (.cons (.bi .ix (.var 3) (.lit (.int 0))) (.cons (.bi .ix (.var 4) (.lit (.int 0))) .nil))))))))))
noncomputable def qCc:CS:=(.seq (.set (.nm 6) (.bi .add (.bi .add (.sl (.var 5) .no (.at (.var 2))) (.var 3)) (.sl (.var 5) (.at (.bi .add (.var 2) (.lit (.int 1)))) .no))) (.seq (.setIx (.un (.fld 122519838744953) (.var 0)) (.var 1) (.tup (.cons (.bi .ix (.var 4) (.lit (.int 0))) (.cons (.bi .ix (.var 4) (.lit (.int 1))) (.cons (.var 6) (.cons (.lit (.bl true)) .nil)))))) (.exp (.me .append (.un (.fld 1685024357) (.var 0)) (.tup (.cons (.lit (.str [115,112,111,105,108])) (.cons (.bi .ix (.var 4) (.lit (.int 0))) (.cons (.var 6) .nil))))))))
noncomputable def qBA:CS:=(.seq (.ite (.not (.val (.call 4 (.cons (.var 3) (.cons (.bi .ix (.var 5) (.var 2)) .nil))))) (.raise 86239795832164) .skip) qCc)
noncomputable def qAu:CS:=(.seq (.ite (.not (.val (.call 2 (.cons (.var 2) (.cons (.lit (.int 0)) (.cons (.bi .sub (.un .len (.var 5)) (.lit (.int 1))) .nil)))))) (.raise 86239795832164) .skip) qBA)
noncomputable def qAP:CS:=(.seq (.set (.nm 4) (.meth 8100116882379465076 [(1383031140,12)] (.var 0) (.cons (.var 1) .nil))) (.seq (.set (.nm 5) (.bi .ix (.var 4) (.lit (.int 2)))) (.seq (.ite (.val (.bi .ix (.var 4) (.lit (.int 3)))) (.raise 86239795832164) .skip) qAu)))
noncomputable def qBr:CS:=(.setIx (.var 2) (.bi .ix (.var 3) (.lit (.int 1))) (.bi .ix (.var 3) (.lit (.int 3))))
noncomputable def qCw:CS:=(.setIx (.var 2) (.bi .ix (.var 3) (.lit (.int 2))) (.bi .ix (.var 2) (.bi .ix (.var 3) (.lit (.int 1)))))
noncomputable def qCv:CS:=(.setIx (.var 2) (.bi .ix (.var 3) (.lit (.int 1))) (.bi .ix (.var 3) (.lit (.int 2))))
noncomputable def qA0:CS:=(.ite (.val (.bi .eq (.var 4) (.lit (.str [115,112,111,105,108])))) qCv .skip)
noncomputable def qAi:CS:=(.ite (.val (.bi .eq (.var 4) (.lit (.str [100,111,117,98,108,101])))) qCw qA0)
noncomputable def qBN:CS:=(.ite (.val (.bi .isin (.var 1) (.var 2))) (.ret (.bi .ix (.var 2) (.var 1))) .skip)
noncomputable def qAF:CS:=(.seq (.set (.nm 4) (.bi .ix (.var 3) (.lit (.int 0)))) (.seq (.ite (.or (.val (.bi .eq (.var 4) (.lit (.str [115,101,110,100])))) (.val (.bi .eq (.var 4) (.lit (.str [102,117,108,108]))))) qBr qAi) qBN))
noncomputable def qBM:CS:=(.ret (.lit .non))
noncomputable def qCh:CS:=(.seq (.set (.nm 2) (.disp [] .nil)) (.seq (.fori (.nm 3) (.of (.var 0)) qAF) qBM))
noncomputable def qAS:CS:=(.ite (.and (.val (.bi .isin (.bi .ix (.var 2) (.lit (.int 0))) (.tup (.cons (.lit (.str [102,117,108,108])) (.cons (.lit (.str [99,97,114,114,121])) (.cons (.lit (.str [108,111,115,101])) .nil)))))) (.val (.bi .eq (.bi .ix (.var 2) (.lit (.int 1))) (.var 1)))) (.ret (.lit (.bl true))) .skip)
noncomputable def qCl:CS:=(.ret (.lit (.bl false)))
noncomputable def qC1:CS:=(.seq (.fori (.nm 2) (.of (.var 0)) qAS) qCl)
noncomputable def qCH:CS:=(.ret (.lit (.int 0)))
noncomputable def qBP:CS:=(.seq (.ite (.val (.bi .lt (.var 1) (.un .len (.var 0)))) (.ret (.bi .ix (.var 0) (.var 1))) .skip) qCH)
noncomputable def qBf:CS:=(.seq (.set (.nm 3) (.bi .mod (.bi .add (.bi .add (.bi .mul (.var 3) (.var 3)) (.bi .mul (.lit (.int 48271)) (.var 3))) (.var 4)) (.lit (.int 2147483647)))) (.exp (.me .append (.var 2) (.var 3))))
noncomputable def qCX:CS:=(.ret (.sl (.var 2) (.at (.lit (.int 1))) .no))
noncomputable def qBa:CS:=(.seq (.set (.nm 2) (.lst .nil)) (.seq (.set (.nm 3) (.bi .add (.bi .mod (.var 0) (.lit (.int 2147483647))) (.lit (.int 48271)))) (.seq (.fori (.nm 4) (.rng1 (.bi .add (.var 1) (.lit (.int 1)))) qBf) qCX)))
noncomputable def qCi:CS:=(.ret (.and (.un (.isi .int) (.var 0)) (.not (.un (.isi .bool) (.var 0)))))
noncomputable def qBt:CE:=(.bi .ix (.var 2) (.bi .mod (.bi .fdiv (.var 0) (.lit (.int 3))) (.lit (.int 94))))
noncomputable def qBs:CE:=(.bi .ix (.var 2) (.bi .mod (.bi .add (.bi .fdiv (.var 0) (.lit (.int 3))) (.bi .mul (.var 3) (.bi .add (.lit (.int 1)) (.bi .mod (.bi .fdiv (.var 0) (.lit (.int 282))) (.lit (.int 93)))))) (.lit (.int 94))))
noncomputable def qCy:CS:=(.ret (.me .join (.lit (.str [])) (.comp qBs (.rng1 (.var 1)))))
noncomputable def qBW:CS:=(.seq (.set (.nm 2) (.lit (.str [32,33,34,35,36,38,39,40,41,42,43,44,45,46,47,48,49,50,51,52,53,54,55,56,57,58,59,60,61,62,63,64,65,66,67,68,69,70,71,72,73,74,75,76,77,78,79,80,81,82,83,84,85,86,87,88,89,90,91,92,93,94,95,96,97,98,99,100,101,102,103,104,105,106,107,108,109,110,111,112,113,114,115,116,117,118,119,120,121,122,123,124,125,126]))) (.seq (.ite (.val (.bi .eq (.bi .mod (.var 0) (.lit (.int 3))) (.lit (.int 0)))) (.ret (.me .join (.lit (.str [])) (.comp qBt (.rng1 (.var 1))))) .skip) qCy))
noncomputable def qBw:CS:=(.ret (.disp [.str [114,111,119],.str [108,111,103],.str [103,105,118,101,110]] (.cons (.lst .nil) (.cons (.lst .nil) (.cons (.lit (.int 0)) .nil)))))
noncomputable def qEE:CS:=(.exp (.me .append (.bi .ix (.var 0) (.lit (.str [108,111,103]))) (.tup (.cons (.lit (.str [102,117,108,108])) (.cons (.var 5) (.cons (.var 2) (.cons (.var 3) .nil)))))))
noncomputable def qED:CS:=(.exp (.me .append (.bi .ix (.var 0) (.lit (.str [108,111,103]))) (.tup (.cons (.lit (.str [115,101,110,100])) (.cons (.var 5) (.cons (.var 2) (.cons (.var 3) .nil)))))))
noncomputable def qCk:CS:=(.exp (.me .append (.bi .ix (.var 0) (.lit (.str [114,111,119]))) (.tup (.cons (.var 5) (.cons (.var 2) (.cons (.var 3) (.cons (.var 4) .nil)))))))
noncomputable def qCj:CS:=(.seq (.ite (.val (.bi .eq (.var 1) (.lit (.str [115,101,110,100])))) qED .skip) qCk)
noncomputable def qBu:CS:=(.ret (.var 5))
noncomputable def qBl:CS:=(.seq (.set (.nm 5) (.bi .ix (.var 0) (.lit (.str [103,105,118,101,110])))) (.seq (.setIx (.var 0) (.lit (.str [103,105,118,101,110])) (.bi .add (.var 5) (.lit (.int 1)))) (.seq (.ite (.val (.bi .ge (.un .len (.bi .ix (.var 0) (.lit (.str [114,111,119])))) (.lit (.int 200)))) qEE qCj) qBu)))
noncomputable def qAl:CS:=(.ite (.and (.val (.bi .ne (.bi .ix (.var 1) (.lit (.int 0))) (.lit (.str [115,101,110,100])))) (.or (.val (.bi .lt (.var 3) (.lit (.int 0)))) (.val (.bi .ge (.var 3) (.var 2))))) (.ret (.lit (.str [78,111,80,105,101,99,101]))) .skip)
noncomputable def qCx:CS:=(.ret (.lit (.str [])))
noncomputable def qAk:CS:=(.seq (.set (.nm 4) (.bi .ix (.bi .ix (.var 0) (.lit (.str [114,111,119]))) (.bi .ix (.var 1) (.lit (.int 1))))) (.seq (.ite (.or (.val (.bi .ix (.var 4) (.lit (.int 3)))) (.or (.val (.bi .lt (.bi .ix (.var 1) (.lit (.int 2))) (.lit (.int 0)))) (.or (.val (.bi .ge (.bi .ix (.var 1) (.lit (.int 2))) (.un .len (.bi .ix (.var 4) (.lit (.int 2)))))) (.val (.bi .eq (.bi .ix (.bi .ix (.var 4) (.lit (.int 2))) (.bi .ix (.var 1) (.lit (.int 2)))) (.bi .ix (.var 1) (.lit (.int 3)))))))) (.ret (.lit (.str [78,111,68,101,101,100]))) .skip) qCx))
noncomputable def qAj:CS:=(.seq (.ite (.val (.bi .ne (.bi .ix (.var 1) (.lit (.int 0))) (.lit (.str [115,112,111,105,108])))) (.ret (.lit (.str []))) .skip) qAk)
noncomputable def qAg:CS:=(.seq (.set (.nm 2) (.un .len (.bi .ix (.var 0) (.lit (.str [114,111,119]))))) (.seq (.fori (.nm 3) (.of (.sl (.var 1) (.at (.lit (.int 1))) (.at (.bi .add (.lit (.int 2)) (.un .int (.bi .eq (.bi .ix (.var 1) (.lit (.int 0))) (.lit (.str [116,117,114,110])))))))) qAl) qAj))
noncomputable def qDQ:CS:=(.seq (.exp (.me .append (.bi .ix (.var 0) (.lit (.str [108,111,103]))) (.tup (.cons (.lit (.str [100,111,117,98,108,101])) (.cons (.bi .ix (.var 2) (.lit (.int 0))) (.cons (.bi .ix (.var 0) (.lit (.str [103,105,118,101,110]))) .nil)))))) (.ret (.call 25 (.cons (.var 0) (.cons (.lit (.str [100,111,117,98,108,101])) (.cons (.bi .ix (.var 2) (.lit (.int 1))) (.cons (.bi .ix (.var 2) (.lit (.int 2))) (.cons (.bi .ix (.var 2) (.lit (.int 3))) .nil))))))))
noncomputable def qDP:CS:=(.seq (.setIx (.bi .ix (.var 0) (.lit (.str [114,111,119]))) (.bi .ix (.var 1) (.lit (.int 1))) (.bi .ix (.bi .ix (.var 0) (.lit (.str [114,111,119]))) (.bi .ix (.var 1) (.lit (.int 2))))) (.seq (.setIx (.bi .ix (.var 0) (.lit (.str [114,111,119]))) (.bi .ix (.var 1) (.lit (.int 2))) (.var 2)) (.seq (.exp (.me .append (.bi .ix (.var 0) (.lit (.str [108,111,103]))) (.tup (.cons (.lit (.str [116,117,114,110])) (.cons (.bi .ix (.var 2) (.lit (.int 0))) (.cons (.bi .ix (.bi .ix (.bi .ix (.var 0) (.lit (.str [114,111,119]))) (.bi .ix (.var 1) (.lit (.int 1)))) (.lit (.int 0))) .nil)))))) (.ret (.lit .non)))))
noncomputable def qDO:CS:=(.seq (.set (.nm 3) (.bi .add (.bi .add (.sl (.bi .ix (.var 2) (.lit (.int 2))) .no (.at (.bi .ix (.var 1) (.lit (.int 2))))) (.bi .ix (.var 1) (.lit (.int 3)))) (.sl (.bi .ix (.var 2) (.lit (.int 2))) (.at (.bi .add (.bi .ix (.var 1) (.lit (.int 2))) (.lit (.int 1)))) .no))) (.seq (.setIx (.bi .ix (.var 0) (.lit (.str [114,111,119]))) (.bi .ix (.var 1) (.lit (.int 1))) (.tup (.cons (.bi .ix (.var 2) (.lit (.int 0))) (.cons (.bi .ix (.var 2) (.lit (.int 1))) (.cons (.var 3) (.cons (.lit (.bl true)) .nil)))))) (.seq (.exp (.me .append (.bi .ix (.var 0) (.lit (.str [108,111,103]))) (.tup (.cons (.lit (.str [115,112,111,105,108])) (.cons (.bi .ix (.var 2) (.lit (.int 0))) (.cons (.var 3) .nil)))))) (.ret (.lit .non)))))
noncomputable def qDN:CS:=(.seq (.exp (.me .append (.bi .ix (.var 0) (.lit (.str [108,111,103]))) (.tup (.cons (.lit (.str [108,111,115,101])) (.cons (.bi .ix (.var 2) (.lit (.int 0))) .nil))))) (.ret (.lit .non)))
noncomputable def qDM:CS:=(.seq (.exp (.me .append (.bi .ix (.var 0) (.lit (.str [108,111,103]))) (.tup (.cons (.lit (.str [99,97,114,114,121])) (.cons (.bi .ix (.var 2) (.lit (.int 0))) (.cons (.bi .ix (.var 2) (.lit (.int 1))) (.cons (.bi .ix (.var 2) (.lit (.int 2))) .nil))))))) (.ret (.tup (.cons (.bi .ix (.var 2) (.lit (.int 1))) (.cons (.bi .ix (.var 2) (.lit (.int 2))) .nil)))))
noncomputable def qCG:CS:=(.seq (.setIx (.var 0) (.lit (.str [114,111,119])) (.bi .add (.sl (.bi .ix (.var 0) (.lit (.str [114,111,119]))) .no (.at (.bi .ix (.var 1) (.lit (.int 1))))) (.sl (.bi .ix (.var 0) (.lit (.str [114,111,119]))) (.at (.bi .add (.bi .ix (.var 1) (.lit (.int 1))) (.lit (.int 1)))) .no))) (.seq (.ite (.val (.bi .eq (.bi .ix (.var 1) (.lit (.int 0))) (.lit (.str [108,111,115,101])))) qDN .skip) qDM))
noncomputable def qBc:CS:=(.seq (.ite (.val (.bi .eq (.bi .ix (.var 1) (.lit (.int 0))) (.lit (.str [115,112,111,105,108])))) qDO .skip) qCG)
noncomputable def qBF:CS:=(.seq (.ite (.val (.bi .eq (.bi .ix (.var 1) (.lit (.int 0))) (.lit (.str [116,117,114,110])))) qDP .skip) qBc)
noncomputable def qAy:CS:=(.seq (.set (.nm 2) (.bi .ix (.bi .ix (.var 0) (.lit (.str [114,111,119]))) (.bi .ix (.var 1) (.lit (.int 1))))) (.seq (.ite (.val (.bi .eq (.bi .ix (.var 1) (.lit (.int 0))) (.lit (.str [100,111,117,98,108,101])))) qDQ .skip) qBF))
noncomputable def qAo:CS:=(.seq (.ite (.val (.bi .eq (.bi .ix (.var 1) (.lit (.int 0))) (.lit (.str [115,101,110,100])))) (.ret (.call 25 (.cons (.var 0) (.cons (.lit (.str [115,101,110,100])) (.cons (.bi .ix (.var 1) (.lit (.int 1))) (.cons (.bi .ix (.var 1) (.lit (.int 2))) (.cons (.lit (.bl false)) .nil))))))) .skip) qAy)
noncomputable def qA8:CE:=(.tup (.cons (.bi .ix (.var 5) (.lit (.int 0))) (.cons (.bi .ix (.var 5) (.lit (.int 1))) .nil)))
noncomputable def qA7:CS:=(.ite (.val (.bi .ne (.meth 32762665321328486 [(1383031140,8)] (.var 0) (.cons (.bi .ix (.var 4) (.lit (.int 0))) .nil)) (.bi .ix (.var 4) (.lit (.int 2))))) (.ret (.lit (.bl false))) .skip)
noncomputable def qCb:CS:=(.ret (.and (.bi .eq (.un .len (.meth 112616079453799 [(1383031140,6)] (.var 0) .nil)) (.un .len (.bi .ix (.var 1) (.lit (.str [114,111,119]))))) (.bi .eq (.un .len (.meth 7106407 [(1383031140,7)] (.var 0) .nil)) (.un .len (.bi .ix (.var 1) (.lit (.str [108,111,103])))))))
noncomputable def qCa:CS:=(.seq (.ite (.or (.val (.un .notN (.meth 32762665321328486 [(1383031140,8)] (.var 0) (.cons (.bi .ix (.var 1) (.lit (.str [103,105,118,101,110]))) .nil)))) (.val (.un .notN (.meth 32762665321328486 [(1383031140,8)] (.var 0) (.cons (.un .neg (.lit (.int 1))) .nil))))) (.ret (.lit (.bl false))) .skip) qCb)
noncomputable def qCZ:CS:=(.seq (.exp (.me .append (.var 2) (.tup (.cons (.lit (.int 0)) (.cons (.lit (.int 0)) .nil))))) (.seq (.exp (.me .append (.var 3) (.tup (.cons (.lit (.str [108,111,115,101])) (.cons (.lit (.int 0)) .nil))))) (.seq (.fori (.nm 4) (.of (.bi .ix (.var 1) (.lit (.str [114,111,119])))) qA7) qCa)))
noncomputable def qCY:CS:=(.seq (.ite (.val (.bi .ne (.var 2) (.comp qA8 (.of (.bi .ix (.var 1) (.lit (.str [114,111,119]))))))) (.ret (.lit (.bl false))) .skip) qCZ)
noncomputable def qBb:CS:=(.seq (.set (.nm 2) (.meth 112616079453799 [(1383031140,6)] (.var 0) .nil)) (.seq (.set (.nm 3) (.meth 7106407 [(1383031140,7)] (.var 0) .nil)) (.seq (.ite (.or (.not (.val (.un (.isi .list) (.var 2)))) (.or (.not (.val (.un (.isi .list) (.var 3)))) (.val (.bi .ne (.var 3) (.bi .ix (.var 1) (.lit (.str [108,111,103]))))))) (.ret (.lit (.bl false))) .skip) qCY)))
noncomputable def qDW:CS:=(.seq (.exp (.me .append (.var 3) (.bi .ix (.var 2) (.lit (.int 2))))) (.set (.nm 4) (.meth 1936027236 [(1383031140,9)] (.var 0) (.cons (.bi .ix (.var 2) (.lit (.int 1))) (.cons (.bi .ix (.var 2) (.lit (.int 2))) .nil)))))
noncomputable def qDV:CS:=(.seq (.exp (.me .append (.var 3) (.bi .ix (.bi .ix (.bi .ix (.var 1) (.lit (.str [114,111,119]))) (.bi .ix (.var 2) (.lit (.int 1)))) (.lit (.int 2))))) (.set (.nm 4) (.meth 110429873532005 [(1383031140,15)] (.var 0) (.cons (.bi .ix (.var 2) (.lit (.int 1))) .nil))))
noncomputable def qDU:CS:=(.set (.nm 4) (.meth 426836652665 [(1383031140,13)] (.var 0) (.cons (.bi .ix (.var 2) (.lit (.int 1))) .nil)))
noncomputable def qDT:CS:=(.set (.nm 4) (.meth 1953854062 [(1383031140,16)] (.var 0) (.cons (.bi .ix (.var 2) (.lit (.int 1))) (.cons (.bi .ix (.var 2) (.lit (.int 2))) .nil))))
noncomputable def qDS:CS:=(.set (.nm 4) (.meth 495807588716 [(1383031140,17)] (.var 0) (.cons (.bi .ix (.var 2) (.lit (.int 1))) (.cons (.bi .ix (.var 2) (.lit (.int 2))) (.cons (.bi .ix (.var 2) (.lit (.int 3))) .nil)))))
noncomputable def qDR:CS:=(.set (.nm 4) (.meth 1819243365 [(1383031140,14)] (.var 0) (.cons (.bi .ix (.var 2) (.lit (.int 1))) .nil)))
noncomputable def qCI:CS:=(.ite (.val (.bi .eq (.bi .ix (.var 2) (.lit (.int 0))) (.lit (.str [115,112,111,105,108])))) qDS qDR)
noncomputable def qBd:CS:=(.ite (.val (.bi .eq (.bi .ix (.var 2) (.lit (.int 0))) (.lit (.str [116,117,114,110])))) qDT qCI)
noncomputable def qBG:CS:=(.ite (.val (.bi .eq (.bi .ix (.var 2) (.lit (.int 0))) (.lit (.str [99,97,114,114,121])))) qDU qBd)
noncomputable def qAp:CS:=(.ite (.val (.bi .eq (.bi .ix (.var 2) (.lit (.int 0))) (.lit (.str [100,111,117,98,108,101])))) qDV qBG)
noncomputable def qBv:CS:=(.seq (.set (.nm 5) (.call 27 (.cons (.var 1) (.cons (.var 2) .nil)))) (.ret (.and (.bi .eq (.var 4) (.var 5)) (.and (.or (.not (.call 22 (.cons (.var 5) .nil))) (.call 22 (.cons (.var 4) .nil))) (.bi .le (.un .len (.bi .ix (.var 1) (.lit (.str [114,111,119])))) (.lit (.int 200)))))))
noncomputable def qAq:CS:=(.seq (.ite (.val (.bi .eq (.bi .ix (.var 2) (.lit (.int 0))) (.lit (.str [115,101,110,100])))) qDW qAp) qBv)
noncomputable def qAn:CE:=(.bi .ix (.var 7) (.lit (.int 0)))
noncomputable def qBn:CS:=(.ite (.val (.bi .ne (.var 6) (.and (.bi .lt (.var 5) (.un .len (.var 2))) (.bi .notin (.var 5) (.var 3))))) (.ret (.lit (.bl false))) .skip)
noncomputable def qAm:CS:=(.seq (.set (.nm 6) (.call 19 (.cons (.var 4) (.cons (.var 5) .nil)))) (.seq (.ite (.or (.val (.bi .ne (.call 18 (.cons (.var 4) (.cons (.var 5) .nil))) (.bi .ix (.bi .add (.var 2) (.lst (.cons (.lit .non) .nil))) (.var 5)))) (.not (.val (.un (.isi .bool) (.var 6))))) (.ret (.lit (.bl false))) .skip) qBn))
noncomputable def qBm:CS:=(.ret (.lit (.bl true)))
noncomputable def qA1:CS:=(.seq (.set (.nm 3) (.comp qAn (.of (.bi .ix (.var 1) (.lit (.str [114,111,119])))))) (.seq (.set (.nm 4) (.meth 7106407 [(1383031140,7)] (.var 0) .nil)) (.seq (.fori (.nm 5) (.of (.bi .add (.bi .lrng (.bi .max2 (.lit (.int 0)) (.bi .sub (.un .len (.var 2)) (.lit (.int 8)))) (.un .len (.var 2))) (.lst (.cons (.lit (.int 0)) (.cons (.lit (.int 100)) (.cons (.un .len (.var 2)) .nil)))))) qAm) qBm)))
noncomputable def qCF:CS:=(.exp (.meth 1936027236 [(1383031140,9)] (.var 0) (.cons (.var 1) (.cons (.var 2) .nil))))
noncomputable def qCE:CS:=(.ret (.lit (.bl true)))
noncomputable def qEC:CS:=(.ret (.lit (.bl false)))
noncomputable def qBO:CS:=(.seq (.tryx qCF (.cons [22077439339750245] qCE .nil)) qEC)
noncomputable def qDL:CS:=(.ite (.not (.val (.call 29 (.cons (.var 0) (.cons (.var 1) (.cons (.var 6) (.cons (.var 2) .nil))))))) (.ret (.lit (.bl false))) .skip)
noncomputable def qBE:CS:=(.seq (.set (.nm 6) (.tup (.cons (.lit (.str [115,112,111,105,108])) (.cons (.var 7) (.cons (.lit (.int 0)) (.cons (.bi .ix (.lst (.cons (.lit (.str [97])) (.cons (.lit (.str [98])) .nil))) (.un .int (.bi .eq (.bi .ix (.bi .ix (.bi .ix (.bi .ix (.var 1) (.lit (.str [114,111,119]))) (.var 7)) (.lit (.int 2))) (.lit (.int 0))) (.lit (.str [97]))))) .nil)))))) (.ite (.and (.val (.bi .eq (.call 26 (.cons (.var 1) (.cons (.var 6) .nil))) (.lit (.str [])))) (.not (.val (.call 29 (.cons (.var 0) (.cons (.var 1) (.cons (.var 6) (.cons (.var 2) .nil)))))))) (.ret (.lit (.bl false))) .skip))
noncomputable def qDK:CS:=(.ite (.not (.val (.call 31 (.cons (.var 0) (.cons (.var 8) (.cons (.var 9) .nil)))))) (.ret (.lit (.bl false))) .skip)
noncomputable def qDJ:CS:=(.ret (.and (.call 28 (.cons (.var 0) (.cons (.var 1) .nil))) (.call 29 (.cons (.var 0) (.cons (.var 1) (.cons (.tup (.cons (.lit (.str [115,101,110,100])) (.cons (.lit (.int 1)) (.cons (.bi .ix (.var 3) (.lit (.int 2))) .nil)))) (.cons (.var 2) .nil)))))))
noncomputable def qDI:CS:=(.seq (.fori (.two 8 9) (.of (.lst (.cons (.tup (.cons (.lit (.int 2)) (.cons (.lit (.str [97])) .nil))) (.cons (.tup (.cons (.lit (.int 0)) (.cons (.lit (.str [])) .nil))) (.cons (.tup (.cons (.lit (.int 1)) (.cons (.bi .mul (.lit (.str [97])) (.lit (.int 401))) .nil))) (.cons (.tup (.cons (.lit (.bl true)) (.cons (.lit (.str [97])) .nil))) .nil)))))) qDK) qDJ)
noncomputable def qDH:CS:=(.seq (.fori (.nm 7) (.of (.lst (.cons (.lit (.int 0)) (.cons (.bi .fdiv (.var 4) (.lit (.int 3))) (.cons (.var 4) .nil))))) qBE) qDI)
noncomputable def qCQ:CS:=(.seq (.set (.nm 5) (.lst (.cons (.tup (.cons (.lit (.str [100,111,117,98,108,101])) (.cons (.var 4) .nil))) (.cons (.tup (.cons (.lit (.str [100,111,117,98,108,101])) (.cons (.lit (.int 0)) .nil))) (.cons (.tup (.cons (.lit (.str [115,101,110,100])) (.cons (.lit (.int 1)) (.cons (.bi .ix (.var 3) (.lit (.int 0))) .nil)))) (.cons (.tup (.cons (.lit (.str [99,97,114,114,121])) (.cons (.bi .fdiv (.var 4) (.lit (.int 2))) .nil))) (.cons (.tup (.cons (.lit (.str [115,101,110,100])) (.cons (.lit (.int 0)) (.cons (.bi .ix (.var 3) (.lit (.int 1))) .nil)))) .nil))))))) (.seq (.fori (.nm 6) (.of (.bi .add (.var 5) (.lst (.cons (.tup (.cons (.lit (.str [116,117,114,110])) (.cons (.bi .fdiv (.var 4) (.lit (.int 3))) (.cons (.var 4) .nil)))) (.cons (.tup (.cons (.lit (.str [116,117,114,110])) (.cons (.lit (.int 0)) (.cons (.bi .fdiv (.var 4) (.lit (.int 2))) .nil)))) .nil))))) qDL) qDH))
noncomputable def qGx:CE:=(.call 23 (.cons (.bi .add (.bi .mul (.lit (.int 3)) (.bi .add (.bi .ix (.var 4) (.lit (.int 1))) (.var 10))) (.lit (.int 1))) (.cons (.bi .add (.lit (.int 1)) (.bi .mod (.bi .add (.bi .ix (.var 4) (.lit (.int 2))) (.var 10)) (.lit (.int 5)))) .nil)))
noncomputable def qGw:CS:=(.seq (.set (.nm 7) (.call 21 (.cons (.bi .add (.call 20 (.cons (.var 0) (.cons (.bi .add (.lit (.int 1)) (.bi .fdiv (.var 6) (.lit (.int 16)))) .nil))) (.bi .mul (.lit (.int 31)) (.var 6))) (.cons (.lit (.int 2)) .nil)))) (.seq (.set (.nm 8) (.bi .ix (.lst (.cons (.lit (.str [100,111,117,98,108,101])) (.cons (.lit (.str [99,97,114,114,121])) (.cons (.lit (.str [108,111,115,101])) (.cons (.lit (.str [100,111,117,98,108,101])) (.cons (.lit (.str [100,111,117,98,108,101])) .nil)))))) (.bi .mod (.bi .ix (.var 7) (.lit (.int 0))) (.lit (.int 5))))) (.ite (.not (.val (.call 29 (.cons (.var 1) (.cons (.var 2) (.cons (.tup (.cons (.var 8) (.cons (.bi .mod (.bi .ix (.var 7) (.lit (.int 1))) (.un .len (.bi .ix (.var 2) (.lit (.str [114,111,119]))))) .nil))) (.cons (.var 3) .nil))))))) (.ret (.lit (.bl false))) .skip)))
noncomputable def qFL:CS:=(.ite (.and (.val (.bi .eq (.bi .mod (.var 6) (.lit (.int 16))) (.lit (.int 15)))) (.val (.bi .gt (.un .len (.bi .ix (.var 2) (.lit (.str [114,111,119])))) (.lit (.int 0))))) qGw .skip)
noncomputable def qDC:CS:=(.seq (.ite (.not (.val (.call 29 (.cons (.var 1) (.cons (.var 2) (.cons (.tup (.cons (.lit (.str [115,101,110,100])) (.cons (.bi .mod (.var 6) (.lit (.int 2))) (.cons (.bi .ix (.var 5) (.bi .mod (.var 6) (.lit (.int 7)))) .nil)))) (.cons (.var 3) .nil))))))) (.ret (.lit (.bl false))) .skip) qFL)
noncomputable def qGv:CS:=(.ite (.not (.val (.call 29 (.cons (.var 1) (.cons (.var 2) (.cons (.tup (.cons (.lit (.str [99,97,114,114,121])) (.cons (.lit (.int 0)) .nil))) (.cons (.var 3) .nil))))))) (.ret (.lit (.bl false))) .skip)
noncomputable def qGu:CS:=(.ite (.not (.val (.call 29 (.cons (.var 1) (.cons (.var 2) (.cons (.tup (.cons (.lit (.str [115,101,110,100])) (.cons (.bi .mod (.bi .fdiv (.var 6) (.lit (.int 2))) (.lit (.int 2))) (.cons (.bi .ix (.var 5) (.bi .mod (.var 6) (.lit (.int 7)))) .nil)))) (.cons (.var 3) .nil))))))) (.ret (.lit (.bl false))) .skip)
noncomputable def qJo:CS:=(.fori (.nm 6) (.rng1 (.lit (.int 70))) qGu)
noncomputable def qGt:CS:=(.seq (.fori (.nm 6) (.rng1 (.bi .add (.lit (.int 64)) (.bi .mod (.bi .fdiv (.bi .ix (.var 4) (.lit (.int 1))) (.lit (.int 4))) (.lit (.int 64))))) qGv) qJo)
noncomputable def qGs:CS:=(.ite (.not (.val (.call 29 (.cons (.var 1) (.cons (.var 2) (.cons (.var 9) (.cons (.var 3) .nil))))))) (.ret (.lit (.bl false))) .skip)
noncomputable def qCz:CS:=(.fori (.nm 9) (.of (.lst (.cons (.tup (.cons (.lit (.str [99,97,114,114,121])) (.cons (.bi .mod (.var 6) (.lit (.int 5))) .nil))) (.cons (.tup (.cons (.lit (.str [115,101,110,100])) (.cons (.lit (.int 0)) (.cons (.bi .ix (.var 5) (.lit (.int 0))) .nil)))) .nil)))) qGs)
noncomputable def qHW:CS:=(.ret (.and (.call 28 (.cons (.var 1) (.cons (.var 2) .nil))) (.and (.bi .le (.un .len (.meth 112616079453799 [(1383031140,6)] (.var 1) .nil)) (.lit (.int 200))) (.call 30 (.cons (.var 1) (.cons (.var 2) (.cons (.var 3) .nil)))))))
noncomputable def qHV:CS:=(.seq (.ite (.not (.val (.call 32 (.cons (.var 1) (.cons (.var 2) (.cons (.var 3) (.cons (.var 5) (.cons (.bi .sub (.un .len (.bi .ix (.var 2) (.lit (.str [114,111,119])))) (.lit (.int 1))) .nil)))))))) (.ret (.lit (.bl false))) .skip) qHW)
noncomputable def qHU:CS:=(.seq (.fori (.nm 6) (.rng1 (.bi .ix (.lst (.cons (.lit (.int 0)) (.cons (.lit (.int 430)) .nil))) (.un .int (.bi .eq (.bi .mod (.bi .ix (.var 4) (.lit (.int 2))) (.lit (.int 32))) (.lit (.int 0)))))) qCz) qHV)
noncomputable def qHT:CS:=(.seq (.ite (.val (.bi .eq (.bi .mod (.bi .ix (.var 4) (.lit (.int 1))) (.lit (.int 4))) (.lit (.int 0)))) qGt .skip) qHU)
noncomputable def qHS:CS:=(.seq (.ite (.not (.val (.call 28 (.cons (.var 1) (.cons (.var 2) .nil))))) (.ret (.lit (.bl false))) .skip) qHT)
noncomputable def b_law:CS:=(.seq (.set (.nm 1) (.make 1383031140 5 .nil)) (.seq (.set (.nm 2) (.call 24 .nil)) (.seq (.set (.nm 3) (.lst .nil)) (.seq (.set (.nm 4) (.call 21 (.cons (.call 20 (.cons (.var 0) (.cons (.lit (.int 0)) .nil))) (.cons (.lit (.int 3)) .nil)))) (.seq (.set (.nm 5) (.comp qGx (.rng1 (.lit (.int 7))))) (.seq (.fori (.nm 6) (.rng1 (.bi .add (.lit (.int 197)) (.bi .mod (.bi .ix (.var 4) (.lit (.int 0))) (.lit (.int 8))))) qDC) qHS))))))
noncomputable def fns:List Fn:=[⟨1,2,qC0⟩,
 ⟨1,1,qBo⟩,
 ⟨3,3,qAW⟩,
 ⟨1,1,qAR⟩,
 ⟨2,2,qAU⟩,
 ⟨1,1,qBz⟩,
 ⟨1,1,qBR⟩,
 ⟨1,1,qCR⟩,
 ⟨2,3,qA9⟩,
 ⟨3,4,qAv⟩,
 ⟨1,1,qBB⟩,
 ⟨4,5,qA2⟩,
 ⟨2,2,qAh⟩,
 ⟨2,3,qBH⟩,
 ⟨2,3,qBX⟩,
 ⟨2,4,qA3⟩,
 ⟨3,5,qA5⟩,
 ⟨4,7,qAP⟩,
 ⟨2,5,qCh⟩,
 ⟨2,3,qC1⟩,
 ⟨2,2,qBP⟩,
 ⟨2,5,qBa⟩,
 ⟨1,1,qCi⟩,
 ⟨2,3,qBW⟩,
 ⟨0,0,qBw⟩,
 ⟨5,6,qBl⟩,
 ⟨2,5,qAg⟩,
 ⟨2,4,qAo⟩,
 ⟨2,5,qBb⟩,
 ⟨4,6,qAq⟩,
 ⟨3,7,qA1⟩,
 ⟨3,3,qBO⟩,
 ⟨5,10,qCQ⟩,
 ⟨1,10,b_law⟩]
noncomputable abbrev qJI:Nat:=0
theorem qJm (B n:Nat) (a0:D) (h:AH):callN fns B (n+1) 0 [a0] h=fin (denS (callN fns B n) B qC0 [some a0,none] h):=rfl
noncomputable abbrev qEd:Nat:=1
theorem qEi (B n:Nat) (a0:D) (h:AH):callN fns B (n+1) 1 [a0] h=fin (denS (callN fns B n) B qBo [some a0] h):=rfl
noncomputable abbrev qD1:Nat:=2
theorem qD7 (B n:Nat) (a0 a1 a2:D) (h:AH):callN fns B (n+1) 2 [a0,a1,a2] h=fin (denS (callN fns B n) B qAW [some a0,some a1,some a2] h):=rfl
noncomputable abbrev qCT:Nat:=3
theorem qCW (B n:Nat) (a0:D) (h:AH):callN fns B (n+1) 3 [a0] h=fin (denS (callN fns B n) B qAR [some a0] h):=rfl
noncomputable abbrev qB6:Nat:=4
theorem qD6 (B n:Nat) (a0 a1:D) (h:AH):callN fns B (n+1) 4 [a0,a1] h=fin (denS (callN fns B n) B qAU [some a0,some a1] h):=rfl
noncomputable abbrev qGc:Nat:=5
theorem qGl (B n:Nat) (a0:D) (h:AH):callN fns B (n+1) 5 [a0] h=fin (denS (callN fns B n) B qBz [some a0] h):=rfl
noncomputable abbrev qE8:Nat:=6
theorem qFG (B n:Nat) (a0:D) (h:AH):callN fns B (n+1) 6 [a0] h=fin (denS (callN fns B n) B qBR [some a0] h):=rfl
noncomputable abbrev qHw:Nat:=7
theorem qH4 (B n:Nat) (a0:D) (h:AH):callN fns B (n+1) 7 [a0] h=fin (denS (callN fns B n) B qCR [some a0] h):=rfl
noncomputable abbrev qEM:Nat:=8
theorem qEO (B n:Nat) (a0 a1:D) (h:AH):callN fns B (n+1) 8 [a0,a1] h=fin (denS (callN fns B n) B qA9 [some a0,some a1,none] h):=rfl
noncomputable abbrev qBq:Nat:=9
theorem qCg (B n:Nat) (a0 a1 a2:D) (h:AH):callN fns B (n+1) 9 [a0,a1,a2] h=fin (denS (callN fns B n) B qAv [some a0,some a1,some a2,none] h):=rfl
noncomputable abbrev qEN:Nat:=10
theorem qEP (B n:Nat) (a0:D) (h:AH):callN fns B (n+1) 10 [a0] h=fin (denS (callN fns B n) B qBB [some a0] h):=rfl
noncomputable abbrev qE7:Nat:=11
theorem qFF (B n:Nat) (a0 a1 a2 a3:D) (h:AH):callN fns B (n+1) 11 [a0,a1,a2,a3] h=fin (denS (callN fns B n) B qA2 [some a0,some a1,some a2,some a3,none] h):=rfl
noncomputable abbrev qB7:Nat:=12
theorem qCD (B n:Nat) (a0 a1:D) (h:AH):callN fns B (n+1) 12 [a0,a1] h=fin (denS (callN fns B n) B qAh [some a0,some a1] h):=rfl
noncomputable abbrev qDE:Nat:=13
theorem qDF (B n:Nat) (a0 a1:D) (h:AH):callN fns B (n+1) 13 [a0,a1] h=fin (denS (callN fns B n) B qBH [some a0,some a1,none] h):=rfl
noncomputable abbrev qD2:Nat:=14
theorem qD8 (B n:Nat) (a0 a1:D) (h:AH):callN fns B (n+1) 14 [a0,a1] h=fin (denS (callN fns B n) B qBX [some a0,some a1,none] h):=rfl
noncomputable abbrev qCr:Nat:=15
theorem qCu (B n:Nat) (a0 a1:D) (h:AH):callN fns B (n+1) 15 [a0,a1] h=fin (denS (callN fns B n) B qA3 [some a0,some a1,none,none] h):=rfl
noncomputable abbrev qCe:Nat:=16
theorem qCf (B n:Nat) (a0 a1 a2:D) (h:AH):callN fns B (n+1) 16 [a0,a1,a2] h=fin (denS (callN fns B n) B qA5 [some a0,some a1,some a2,none,none] h):=rfl
noncomputable abbrev qAx:Nat:=17
theorem qBD (B n:Nat) (a0 a1 a2 a3:D) (h:AH):callN fns B (n+1) 17 [a0,a1,a2,a3] h=fin (denS (callN fns B n) B qAP [some a0,some a1,some a2,some a3,none,none,none] h):=rfl
noncomputable abbrev qGX:Nat:=18
theorem qGh (B n:Nat) (a0 a1:D) (h:AH):callN fns B (n+1) 18 [a0,a1] h=fin (denS (callN fns B n) B qCh [some a0,some a1,none,none,none] h):=rfl
noncomputable abbrev qJJ:Nat:=19
theorem qJn (B n:Nat) (a0 a1:D) (h:AH):callN fns B (n+1) 19 [a0,a1] h=fin (denS (callN fns B n) B qC1 [some a0,some a1,none] h):=rfl
noncomputable abbrev qE6:Nat:=20
theorem qFE (B n:Nat) (a0 a1:D) (h:AH):callN fns B (n+1) 20 [a0,a1] h=fin (denS (callN fns B n) B qBP [some a0,some a1] h):=rfl
noncomputable abbrev qB5:Nat:=21
theorem qFs (B n:Nat) (a0 a1:D) (h:AH):callN fns B (n+1) 21 [a0,a1] h=fin (denS (callN fns B n) B qBa [some a0,some a1,none,none,none] h):=rfl
noncomputable abbrev qGY:Nat:=22
theorem qM3 (B n:Nat) (a0:D) (h:AH):callN fns B (n+1) 22 [a0] h=fin (denS (callN fns B n) B qCi [some a0] h):=rfl
noncomputable abbrev qGa:Nat:=23
theorem qGj (B n:Nat) (a0 a1:D) (h:AH):callN fns B (n+1) 23 [a0,a1] h=fin (denS (callN fns B n) B qBW [some a0,some a1,none] h):=rfl
noncomputable abbrev qGb:Nat:=24
theorem qGk (B n:Nat) (h:AH):callN fns B (n+1) 24 [] h=fin (denS (callN fns B n) B qBw [] h):=rfl
noncomputable abbrev qJH:Nat:=25
theorem qJl (B n:Nat) (a0 a1 a2 a3 a4:D) (h:AH):callN fns B (n+1) 25 [a0,a1,a2,a3,a4] h=fin (denS (callN fns B n) B qBl [some a0,some a1,some a2,some a3,some a4,none] h):=rfl
noncomputable abbrev qGZ:Nat:=26
theorem qGi (B n:Nat) (a0 a1:D) (h:AH):callN fns B (n+1) 26 [a0,a1] h=fin (denS (callN fns B n) B qAg [some a0,some a1,none,none,none] h):=rfl
noncomputable abbrev qAw:Nat:=27
theorem qBU (B n:Nat) (a0 a1:D) (h:AH):callN fns B (n+1) 27 [a0,a1] h=fin (denS (callN fns B n) B qAo [some a0,some a1,none,none] h):=rfl
noncomputable abbrev qFo:Nat:=28
theorem qFt (B n:Nat) (a0 a1:D) (h:AH):callN fns B (n+1) 28 [a0,a1] h=fin (denS (callN fns B n) B qBb [some a0,some a1,none,none,none] h):=rfl
noncomputable abbrev qC8:Nat:=29
theorem qH3 (B n:Nat) (a0 a1 a2 a3:D) (h:AH):callN fns B (n+1) 29 [a0,a1,a2,a3] h=fin (denS (callN fns B n) B qAq [some a0,some a1,some a2,some a3,none,none] h):=rfl
noncomputable abbrev qD0:Nat:=30
theorem qD5 (B n:Nat) (a0 a1 a2:D) (h:AH):callN fns B (n+1) 30 [a0,a1,a2] h=fin (denS (callN fns B n) B qA1 [some a0,some a1,some a2,none,none,none,none] h):=rfl
noncomputable abbrev qAz:Nat:=31
theorem qFD (B n:Nat) (a0 a1 a2:D) (h:AH):callN fns B (n+1) 31 [a0,a1,a2] h=fin (denS (callN fns B n) B qBO [some a0,some a1,some a2] h):=rfl
noncomputable abbrev qHv:Nat:=32
theorem qH2 (B n:Nat) (a0 a1 a2 a3 a4:D) (h:AH):callN fns B (n+1) 32 [a0,a1,a2,a3,a4] h=fin (denS (callN fns B n) B qCQ [some a0,some a1,some a2,some a3,some a4,none,none,none,none,none] h):=rfl
noncomputable abbrev i_law:Nat:=33
theorem c_law (B n:Nat) (a0:D) (h:AH):callN fns B (n+1) 33 [a0] h=fin (denS (callN fns B n) B b_law [some a0,none,none,none,none,none,none,none,none,none] h):=rfl
local macro_rules | `(tactic| simp! only [$ts,*] $[$l]?) => `(tactic| simp only [Int.reduceLT, Int.reduceLE, Int.reduceNeg, Int.reduceAdd, Int.reduceSub, Int.reduceEq, Int.reduceBEq, Nat.reduceLeDiff, Nat.reduceLT, Nat.reduceBEq, and_self, and_true, true_and, qMk, qOx, qOw, qMj, denS, den, denT, denL, denI, denP, qKZ, qG0, qA6, qH8, qIA, qH9, qGz, qFf, qL0, qL1, qEl, qLZ, qLa, qLY, qJy, qJ7, qJ6, qKs, qKr, qJc, qNx, denH, qJe, qM1, M.ret_eq, M.bind_eq, M.bad_eq, R.bind_ok, R.bind_exc, R.bind_bad, qF9, newL, qLR, makeD, qIs, qIS, qHd, qHc, getN, putN, tbN, Option.isNone_none, Option.isNone_some, qIu, qEZ, tgSet, forIt, qAT, qHZ, b2i, List.getElem?_cons_zero, List.getElem?_cons_succ, List.length_cons, List.length_nil, List.map_cons, List.map_nil, List.cons_append, List.nil_append, List.set_cons_zero, List.set_cons_succ, if_true, reduceIte, Nat.zero_add, Nat.reduceAdd, Bool.false_eq_true, if_false, Bool.not_true, Bool.not_false, Bool.or_true, Bool.or_false, Bool.true_or, Bool.false_or, decide_true, decide_false, reduceCtorEq, beq_self_eq_true, qNK, qNN, qNM, qNL, qND, qNX, qNW, qNV, qNF, qJw, qJv, qLX, qLW, qNa, qNZ, qJu, qNC, qIE, qLV, qNE, qJx, qNO, qNY, qNQ, qLU, qNU, qNT, qNS, qNR, qNJ, qNI, qNH, qNG, qNP, qOO, qON, qOM, qOL, qOE, qOI, qOH, qKC, qL2, qKD, qOK, qOG, qL5, qL6, qIj, qKG, qMD, qOJ, qOF, o_eq1, o_ne1, o_lt1, o_le1, o_gt1, o_ge1, qMB, qMA, qL9, qL8, qKF, qKE, o_ix1, o_ix2, o_ix3, o_ix4, qL3, qL4, qMC, qKB, qL7, qIl, qIk, t_non, t_bl, t_int, t_str, t_tup, t_ref, qOl, qOk, qLI, qLm, qLl, qLo, qIr, qIq, qKO, qMM, qMN, qOT, qOS, qML, qIp, qKR, qKP, qMK, qKQ, qJ5, qIR, qMY, qOo, qMZ, qMW, qMV, qMX, qJT, qMl, qKf, qKe, qJU, qJR, qJQ, $ts,*] $[$l]?)
theorem qHN (h l:AH) (k:Nat):getL (h++l) (h.length+k)=getL l k:=by
 unfold getL
 rw [List.getElem?_append_right (by omega),Nat.add_sub_cancel_left]
theorem qAM (h l:AH):getL (h++l) h.length=getL l 0:=qHN h l 0
theorem qMh (h l:AH) (k:Nat):(h++l)[h.length+k]?=l[k]?:=by
 rw [List.getElem?_append_right (by omega),Nat.add_sub_cancel_left]
theorem qAI (h l:AH):(h++l)[h.length]?=l[0]?:=qMh h l 0
theorem qLj (h l:AH) (k:Nat) (o:O):(h++l).set (h.length+k) o=h++l.set k o:=by
 rw [List.set_append_right _ _ (by omega),Nat.add_sub_cancel_left]
theorem qEo (h l:AH) (o:O):(h++l).set h.length o=h++l.set 0 o:=qLj h l 0 o
theorem qHM (xs:List D) (l:AH):getL (.lst xs::l) 0=some xs:=rfl
theorem qPS (o:O) (l:AH) (k:Nat):getL (o::l) (k+1)=getL l k:=rfl
theorem qPU (o:O) (l:AH):getL (o::l) 1=getL l 0:=rfl
theorem qPT (o p:O) (l:AH):getL (o::p::l) 2=getL l 0:=rfl
theorem qPN {xs:List Int} {k:Nat} {c:Int} (h:xs[k]?=some c):((ixN (xs.map D.int).length (k:Int)).bind fun j=>(xs.map D.int)[j]?)=some (.int c):=by
 have hk:=(List.getElem?_eq_some_iff.mp h).1
 rw [List.length_map,qAb hk,Option.bind_some,List.getElem?_map,h]
 rfl
theorem qPR {ds:List D} {k:Nat} {d:D} (h:ds[k]?=some d):((ixN ds.length (k:Int)).bind fun j=>ds[j]?)=some d:=by
 rw [qAb (List.getElem?_eq_some_iff.mp h).1,Option.bind_some,h]
theorem qGe {α:Type} (x:List α) (k:Nat):cutX x none (some (k:Int))=x.take k:=by
 unfold cutX cutN
 simp only [if_neg (show ¬ (k:Int)<0 by omega),Int.toNat_natCast,List.drop_zero,Nat.sub_zero]
 rw [Nat.min_comm,← List.take_take]
 exact List.take_of_length_le (by rw [List.length_take];omega)
theorem qCs {α:Type} (x:List α) (k:Nat):cutX x (some (k:Int)) none=x.drop k:=by
 unfold cutX cutN
 simp only [if_neg (show ¬ (k:Int)<0 by omega),Int.toNat_natCast]
 by_cases hk:k≤x.length
 ·rw [Nat.min_eq_left hk]
  exact List.take_of_length_le (by simp)
 ·rw [Nat.min_eq_right (by omega),List.drop_length,List.drop_eq_nil_of_le (by omega),List.take_nil]
theorem qFk (B n:Nat) (h:AH) (i:Nat) (xs:List Int) (k:Nat) (hx:getL h i=some (xs.map .int)):callN fns B (n+1) qE6 [.ref i,.int k] h=.ok (.int (xs.getD k 0)) h:=by
 rw [qFE]
 simp! only [qBP,hx,List.length_map]
 by_cases hk:k<xs.length
 ·have e:decide ((k:Int)<(xs.length:Int))=true:=by simpa using hk
  have e2:xs[k]?=some xs[k]:=by simp [hk]
  simp! only [e,Option.bind_some,ixN,List.length_map,if_pos (show (0:Int)≤k by omega),if_pos (show (k:Int)<xs.length by omega),Int.toNat_natCast,e2,List.getElem?_map,Option.map_some,List.getD_eq_getElem?_getD,Option.getD_some]
 ·have e:decide ((k:Int)<(xs.length:Int))=false:=by simpa using hk
  have e2:xs[k]?=none:=by simp;omega
  simp! only [e,qCH,List.getD_eq_getElem?_getD,e2,Option.getD_none]
noncomputable def okC (c:Nat):Bool:=decide (32≤c)&&decide (c≤126)&&!decide (c=37)
theorem qI0 (B n:Nat) (c:Nat) (h:AH):callN fns B (n+1) qJI [.str [c]] h=.ok (.bl (okC c)) h:=by
 rw [qJm]
 have e1:decide ((32:Int)≤(c:Int))=decide (32≤c):=qBT 32 c
 have e2:decide ((c:Int)≤(126:Int))=decide (c≤126):=qBT c 126
 have e3:((c:Int) == 37)=decide (c=37):=qC7 c 37
 simp! only [qC0,e1]
 unfold okC
 by_cases h1:32≤c
 ·by_cases h2:c≤126
  ·simp! only [e2,e3,h1,h2,Bool.true_and]
  ·simp! only [e2,h1,h2,Bool.and_false,Bool.false_and]
 ·simp! only [h1,Bool.false_and]
theorem qEa (B n:Nat) (x:Tx) (h:AH) (hz:x.length≤1000):callN fns B (n+2) qEd [.str x] h=.ok (.bl (x.all okC)) (h++[.lst (x.map fun c=>.bl (okC c))]):=by
 rw [qEi]
 have e:qA4 (compF (den (callN fns B (n+1)) qCJ) [some (D.str x)]) (x.map fun c=>D.str [c]) h=.ok (x.map fun c=>.bl (okC c)) h:=by
  rw [qDn _ (fun d=>match d with | .str [c]=>.bl (okC c) | _=>.non)]
  ·rw [List.map_map]
   rfl
  ·intro y hy
   obtain ⟨c,_,rfl⟩:=List.mem_map.mp hy
   simp! only [qKm,qCJ,qI0]
 have hz':x.length≤16777216:=by omega
 have hz2:x.length<16777216:=by omega
 simp! only [qBo,e,List.length_map,hz',hz2,qKc,Option.bind_some,qKw]
theorem qE2 (B n:Nat) (d:D) (h:AH) (hd:isiD h .str d=some false):callN fns B (n+1) qEd [d] h=.ok (.bl false) h:=by
 rw [qEi]
 simp! only [qBo,hd]
theorem qHJ (B n:Nat) (h:AH) (c:Int) (m:Nat) (hm:m≤100):∃ (g:AH) (xs:List Int),callN fns B (n+1) qB5 [.int c,.int m] h=.ok (.ref (h.length+1)) (h++g)∧getL (h++g) (h.length+1)=some (xs.map .int)∧xs.length=m∧∀ x∈xs,0≤x∧x<2147483647:=by
 rw [qFs]
 simp! only [qBa,if_pos (show 0≤16777216 by omega),show (0:Int)<2147483647 by omega]
 have hs:qAE ((m:Int)+1):=by unfold qAE;omega
 have ht:((m:Int)+1).toNat=m+1:=by omega
 simp! only [if_pos hs,ht]
 obtain ⟨σ',h',e,xs,v,l,hl,hx,hv,e1,e2⟩:=qBh (fun k σ g=>∃ (xs:List Int) (v:Int) (l:Option D),xs.length=k∧(∀ x∈xs,0≤x∧x<2147483647)∧(0≤v∧v<4294967296)∧σ=[some (.int c),some (.int m),some (.ref h.length),some (.int v),l]∧g=h++[.lst (xs.map .int)])
  (qAL (TG.nm 4) (denS (callN fns B n) B qBf)) (qAK 0 (m+1)) 0 [some (.int c),some (.int m),some (.ref h.length),some (.int (c % 2147483647+48271)),none] (h++[.lst []])
  ⟨[],c % 2147483647+48271,none,rfl,(fun x hx=>by cases hx),⟨by omega,by omega⟩,rfl,rfl⟩
  (fun j x σ g hj ⟨xs,v,l,hl,hx,hv,e1,e2⟩=>by
   obtain ⟨hjl,rfl⟩:=qB1 hj
   subst e1
   subst e2
   have hb:=Int.emod_lt_of_pos (v*v+48271*v+(0+(j:Int))) (show (0:Int)<2147483647 by omega)
   have hb':=Int.emod_nonneg (v*v+48271*v+(0+(j:Int))) (show (2147483647:Int)≠0 by omega)
   refine ⟨_,_,?_,xs++[(v*v+48271*v+(0+(j:Int))) % 2147483647],(v*v+48271*v+(0+(j:Int))) % 2147483647,some (.int (0+j)),by rw [List.length_append,hl];rfl,?_,?_,rfl,rfl⟩
   ·simp! only [qBf,if_pos (qIo (i:=v) (j:=v) (by omega)),if_pos (qIo (i:=48271) (j:=v) (by omega)),qAM,qHM,qAI,qEo,List.length_map,hl,if_pos (show 0+j<16777216 by omega),List.map_append,show j<16777216 by omega]
   ·intro x hm'
    rcases List.mem_append.mp hm' with h1 | h1
    ·exact hx x h1
    ·rw [List.mem_singleton.mp h1];exact ⟨hb',hb⟩
   ·omega)
 rw [e]
 subst e1
 subst e2
 rw [qAe,Nat.zero_add] at hl
 have hc:cutX (xs.map D.int) (some 1) none=(xs.drop 1).map .int:=by
  rw [show (1:Int)=((1:Nat):Int) from rfl,qCs,List.map_drop]
 simp! only [qCX,qAM,qHM,hc,List.length_map,List.length_drop,hl,if_pos (show m+1-1≤16777216 by omega),List.length_append]
 refine ⟨[.lst (xs.map .int),.lst ((xs.drop 1).map .int)],xs.drop 1,?_,?_,by rw [List.length_drop,hl];rfl,fun x hm'=>hx x (List.mem_of_mem_drop hm')⟩
 ·rw [List.append_assoc];rfl
 ·rw [qHN];rfl
theorem qDp (f:D→M (Option D)) (r:D→Option D) (i:Nat) (xs:List D) (h:AH) (hg:getL h i=some xs) (H:∀ x∈xs,f x h=.ok (r x) h):∀ (n k:Nat),n+k=xs.length+1→k≤xs.length→qAN f i n k h=.ok ((xs.drop k).filterMap r) h
 | 0,k,hn,hk=>by omega
 | n+1,k,hn,hkl=>by
  unfold qAN
  rw [hg]
  simp only
  by_cases hk:k<xs.length
  ·have e:xs[k]?=some xs[k]:=by simp [hk]
   rw [e]
   simp only [M.bind_eq,H _ (List.getElem_mem hk),R.bind_ok,qDp f r i xs h hg H n (k+1) (by omega) hk,M.ret_eq]
   rw [List.drop_eq_getElem_cons hk]
   cases q:r xs[k] with
   | none=>rw [List.filterMap_cons_none q]
   | some y=>rw [List.filterMap_cons_some q]
  ·have e:xs[k]?=none:=by simp;omega
   rw [e,List.drop_eq_nil_of_le (by omega)]
   rfl
theorem qPL (f:D→M (Option D)) (r:D→Option D) (i:Nat) (xs:List D) (h:AH) (hg:getL h i=some xs) (hl:xs.length≤1000000) (H:∀ x∈xs,f x h=.ok (r x) h):mapIt f (.live i) h=.ok (xs.filterMap r) h:=by
 have e:liveN h i=xs.length+1:=by unfold liveN;rw [hg];rfl
 rw [qEZ,e,if_pos (by omega),qDp f r i xs h hg H _ 0 rfl (Nat.zero_le _),List.drop_zero]
noncomputable abbrev Mp:=Int→Option Tx
inductive En where
 | send (n h:Nat) (t:Tx) | dbl (n g:Nat) | turn (a b:Nat) | spoil (n:Nat) (t:Tx) | lose (n:Nat) | carry (n h:Nat) (t:Tx) | full (n h:Nat) (t:Tx)
noncomputable def up (m:Mp) (n:Nat) (t:Tx):Mp:=fun k=>if k=(n:Int) then some t else m k
noncomputable def stp (m:Mp):En→Mp
 | .send n _ t=>up m n t
 | .dbl n g=>match m n with
  | some t=>up m g t
  | none=>m
 | .spoil n t=>up m n t
 | .full n _ t=>up m n t
 | _=>m
noncomputable def okE (m:Mp):En→Prop
 | .dbl n _=>∃ t,m n=some t
 | _=>True
noncomputable def runL (m:Mp):List En→Mp
 | []=>m
 | e::es=>runL (stp m e) es
noncomputable def okL (m:Mp):List En→Prop
 | []=>True
 | e::es=>okE m e∧okL (stp m e) es
noncomputable def go (m:Mp) (k:Int):List En→Option Tx
 | []=>none
 | e::es=>match stp m e k with
  | some t=>some t
  | none=>go (stp m e) k es
theorem qAt (m:Mp):∀ (es:List En) (e:En),runL m (es++[e])=stp (runL m es) e:=by
 intro es
 induction es generalizing m with
 | nil=>intro e;rfl
 | cons x es ih=>intro e;exact ih (stp m x) e
theorem qCM:∀ {m:Mp} {es:List En} {e:En},okL m es→okE (runL m es) e→okL m (es++[e])
 | _,[],_,_,h=>⟨h,trivial⟩
 | _,_::_,_,⟨h1,h2⟩,h=>⟨h1,qCM h2 h⟩
theorem qC9:∀ (m:Mp) (k:Int) (es:List En) (e:En),go m k (es++[e])=match go m k es with | some t=>some t | none=>stp (runL m es) e k
 | m,k,[],e=>by
  show (match stp m e k with | some t=>some t | none=>none)=stp m e k
  cases stp m e k <;> rfl
 | m,k,x::es,e=>by
  show (match stp m x k with | some t=>some t | none=>go (stp m x) k (es++[e]))=match (match stp m x k with | some t=>some t | none=>go (stp m x) k es) with | some t=>some t | none=>stp (runL (stp m x) es) e k
  cases stp m x k with
  | some t=>rfl
  | none=>exact qC9 (stp m x) k es e
noncomputable def goneE (k:Int):En→Bool
 | .lose n=>(n:Int) == k
 | .carry n _ _=>(n:Int) == k
 | .full n _ _=>(n:Int) == k
 | _=>false
noncomputable abbrev Pc:=Nat × Nat × Tx × Bool
noncomputable def m0:Mp:=fun _=>none
structure Ok (log:List En) (row:List Pc) (fs:List Tx):Prop where
 ok:okL m0 log
 sent:∀ k:Int,go m0 k log=if 0≤k then fs[k.toNat]? else none
 dom:∀ k:Int,(runL m0 log k).isSome=true↔0≤k∧k<fs.length
 cur:∀ p∈row,runL m0 log p.1=some p.2.2.1
 gone:∀ k:Int,log.any (goneE k)=true↔0≤k∧k<fs.length∧∀ p∈row,(p.1:Int)≠k
 nd:(row.map (·.1)).Nodup
 lt:∀ p∈row,p.1<fs.length
theorem Ok.begun:Ok [] [] [] :=
 ⟨trivial,fun k=>by show none=_;simp,fun k=>by simp [runL,m0],fun p h=>(by cases h),fun k=>by simp,List.nodup_nil,fun p h=>(by cases h)⟩
section
variable {log:List En} {row:List Pc} {fs:List Tx}
theorem Ok.none_iff (I:Ok log row fs) {k:Int} (h:go m0 k log=none):¬ (0≤k∧k<fs.length):=by
 rintro ⟨h1,h2⟩
 rw [I.sent k,if_pos h1,List.getElem?_eq_getElem (by omega)] at h
 cases h
theorem Ok.at_none (I:Ok log row fs) {k:Int} (h:¬ (0≤k∧k<fs.length)):runL m0 log k=none∧go m0 k log=none:=by
 constructor
 ·cases q:runL m0 log k with
  | none=>rfl
  | some t=>exact absurd ((I.dom k).mp (by rw [q];rfl)) h
 ·rw [I.sent k]
  by_cases z:0≤k
  ·rw [if_pos z]
   exact List.getElem?_eq_none (by omega)
  ·rw [if_neg z]
theorem Ok.new (I:Ok log row fs) {e:En} {t:Tx} (h:Nat) (s:Bool) (he:okE (runL m0 log) e) (hs:stp (runL m0 log) e=up (runL m0 log) fs.length t) (hg:∀ k,goneE k e=false):Ok (log++[e]) (row++[(fs.length,h,t,s)]) (fs++[t]):=by
 have hl:(fs++[t]).length=fs.length+1:=by simp
 refine ⟨qCM I.ok he,fun k=>?_,fun k=>?_,fun p hp=>?_,fun k=>?_,?_,fun p hp=>?_⟩
 ·rw [qC9,hs]
  cases q:go m0 k log with
  | some u =>
   have:=I.sent k
   rw [q] at this
   by_cases z:0≤k
   ·rw [if_pos z] at this ⊢
    rw [List.getElem?_append_left (List.getElem?_eq_some_iff.mp this.symm).1]
    exact this
   ·rw [if_neg z] at this;cases this
  | none =>
   have hn:=I.none_iff q
   show up (runL m0 log) fs.length t k=_
   unfold up
   by_cases z:k=(fs.length:Int)
   ·subst z
    rw [if_pos rfl,if_pos (by omega)]
    simp
   ·rw [if_neg z,(I.at_none hn).1]
    by_cases y:0≤k
    ·rw [if_pos y,List.getElem?_eq_none (by rw [hl];omega)]
    ·rw [if_neg y]
 ·rw [qAt,hs,hl]
  unfold up
  by_cases z:k=(fs.length:Int)
  ·rw [if_pos z];constructor
   ·intro _;omega
   ·intro _;rfl
  ·rw [if_neg z,I.dom k];omega
 ·rw [qAt,hs]
  unfold up
  rcases List.mem_append.mp hp with hp | hp
  ·have:=I.lt p hp
   rw [if_neg (by omega)]
   exact I.cur p hp
  ·obtain rfl:=List.mem_singleton.mp hp
   rw [if_pos rfl]
 ·rw [List.any_append,List.any_cons,List.any_nil,hg,Bool.or_false,Bool.or_false,I.gone k,hl]
  constructor
  ·rintro ⟨a,b,c⟩
   refine ⟨a,by omega,fun p hp=>?_⟩
   rcases List.mem_append.mp hp with hp | hp
   ·exact c p hp
   ·obtain rfl:=List.mem_singleton.mp hp
    show (fs.length:Int)≠k
    omega
  ·rintro ⟨a,b,c⟩
   have:=c (fs.length,h,t,s) (by simp)
   have:(fs.length:Int)≠k:=this
   exact ⟨a,by omega,fun p hp=>c p (List.mem_append_left _ hp)⟩
 ·rw [List.map_append,List.nodup_append]
  refine ⟨I.nd,by simp,fun a ha b hb=>?_⟩
  obtain ⟨p,hp,rfl⟩:=List.mem_map.mp ha
  have hb:b=fs.length:=by simpa using hb
  have:=I.lt p hp
  omega
 ·rw [hl]
  rcases List.mem_append.mp hp with hp | hp
  ·have:=I.lt p hp;omega
  ·obtain rfl:=List.mem_singleton.mp hp
   show fs.length<fs.length+1
   omega
theorem Ok.perm (I:Ok log row fs) {e:En} {row':List Pc} (hp:row'.Perm row) (he:okE (runL m0 log) e) (hs:stp (runL m0 log) e=runL m0 log) (hg:∀ k,goneE k e=false):Ok (log++[e]) row' fs:=by
 refine ⟨qCM I.ok he,fun k=>?_,fun k=>by rw [qAt,hs];exact I.dom k,fun p h=>by rw [qAt,hs];exact I.cur p (hp.mem_iff.mp h),fun k=>?_,(hp.map _).nodup_iff.mpr I.nd,fun p h=>I.lt p (hp.mem_iff.mp h)⟩
 ·rw [qC9,hs,← I.sent k]
  cases q:go m0 k log with
  | some u=>rfl
  | none=>exact (I.at_none (I.none_iff q)).1
 ·rw [List.any_append,List.any_cons,List.any_nil,hg,Bool.or_false,Bool.or_false,I.gone k]
  constructor
  ·rintro ⟨a,b,c⟩;exact ⟨a,b,fun p h=>c p (hp.mem_iff.mp h)⟩
  ·rintro ⟨a,b,c⟩;exact ⟨a,b,fun p h=>c p (hp.mem_iff.mpr h)⟩
theorem qHG (hn:(row.map (·.1)).Nodup) {i j:Nat} {p q:Pc} (hi:row[i]?=some p) (hj:row[j]?=some q) (e:p.1=q.1):i=j:=by
 obtain ⟨h1,rfl⟩:=List.getElem?_eq_some_iff.mp hi
 obtain ⟨h2,rfl⟩:=List.getElem?_eq_some_iff.mp hj
 exact (List.getElem_inj hn (h₀:=by simpa using h1) (h₁:=by simpa using h2)).mp (by simpa using e)
theorem lset {α:Type} {l:List α} {i:Nat} {x:α} (h:l[i]?=some x):l.set i x=l:=by
 obtain ⟨hl,rfl⟩:=List.getElem?_eq_some_iff.mp h
 exact List.set_getElem_self hl
theorem Ok.spoil (I:Ok log row fs) {i:Nat} {p:Pc} (hi:row[i]?=some p) (t:Tx):Ok (log++[.spoil p.1 t]) (row.set i (p.1,p.2.1,t,true)) fs:=by
 have hp:=List.mem_of_getElem? hi
 have hlt:=I.lt p hp
 have hil:=(List.getElem?_eq_some_iff.mp hi).1
 have hmap:(row.set i (p.1,p.2.1,t,true)).map (·.1)=row.map (·.1):=by
  rw [List.map_set]
  exact lset (by rw [List.getElem?_map,hi];rfl)
 have mem:∀ q,q∈row.set i (p.1,p.2.1,t,true)→q=(p.1,p.2.1,t,true)∨q∈row∧q.1≠p.1:=fun q hq=>by
  obtain ⟨j,hj⟩:=List.mem_iff_getElem?.mp hq
  rw [List.getElem?_set] at hj
  by_cases z:i=j
  ·rw [if_pos z,if_pos hil] at hj
   exact .inl (Option.some.inj hj).symm
  ·rw [if_neg z] at hj
   exact .inr ⟨List.mem_of_getElem? hj,fun e=>z (qHG I.nd hi hj e.symm)⟩
 refine ⟨qCM I.ok trivial,fun k=>?_,fun k=>?_,fun q hq=>?_,fun k=>?_,by rw [hmap];exact I.nd,fun q hq=>?_⟩
 ·rw [qC9,← I.sent k]
  cases q:go m0 k log with
  | some u=>rfl
  | none =>
   have hn:=I.none_iff q
   show up (runL m0 log) p.1 t k=none
   unfold up
   rw [if_neg (by omega)]
   exact (I.at_none hn).1
 ·rw [qAt]
  show (up (runL m0 log) p.1 t k).isSome=true↔_
  unfold up
  by_cases z:k=(p.1:Int)
  ·rw [if_pos z];constructor
   ·intro _;omega
   ·intro _;rfl
  ·rw [if_neg z];exact I.dom k
 ·rw [qAt]
  show up (runL m0 log) p.1 t q.1=_
  unfold up
  rcases mem q hq with rfl | ⟨h1,h2⟩
  ·rw [if_pos rfl]
  ·rw [if_neg (by omega)];exact I.cur q h1
 ·rw [List.any_append,List.any_cons,List.any_nil,show goneE k (.spoil p.1 t)=false from rfl,Bool.or_false,Bool.or_false,I.gone k]
  have e:∀ (P:Nat→Prop),(∀ q∈row,P q.1)↔∀ q∈row.set i (p.1,p.2.1,t,true),P q.1:=fun P=>by
   have h1:(∀ x∈row.map (·.1),P x)↔∀ q∈row,P q.1:=List.forall_mem_map
   have h2:(∀ x∈(row.set i (p.1,p.2.1,t,true)).map (·.1),P x)↔∀ q∈row.set i (p.1,p.2.1,t,true),P q.1:=List.forall_mem_map
   rw [← h1,← h2,hmap]
  rw [e fun n=>(n:Int)≠k]
 ·rcases mem q hq with rfl | ⟨h1,_⟩
  ·exact hlt
  ·exact I.lt q h1
theorem Ok.drop (I:Ok log row fs) {i:Nat} {p:Pc} (hi:row[i]?=some p) {e:En} (he:okE (runL m0 log) e) (hs:stp (runL m0 log) e=runL m0 log) (hg:∀ k,goneE k e=((p.1:Int) == k)):Ok (log++[e]) (row.take i++row.drop (i+1)) fs:=by
 rw [← List.eraseIdx_eq_take_drop_succ]
 have sub:=List.eraseIdx_sublist row i
 refine ⟨qCM I.ok he,fun k=>?_,fun k=>by rw [qAt,hs];exact I.dom k,fun q h=>by rw [qAt,hs];exact I.cur q (sub.mem h),fun k=>?_,I.nd.sublist (sub.map _),fun q h=>I.lt q (sub.mem h)⟩
 ·rw [qC9,hs,← I.sent k]
  cases q:go m0 k log with
  | some u=>rfl
  | none=>exact (I.at_none (I.none_iff q)).1
 ·rw [List.any_append,List.any_cons,List.any_nil,hg,Bool.or_false,Bool.or_eq_true,I.gone k,beq_iff_eq]
  constructor
  ·rintro (⟨a,b,c⟩ | z)
   ·exact ⟨a,b,fun q h=>c q (sub.mem h)⟩
   ·have:=I.lt p (List.mem_of_getElem? hi)
    refine ⟨by omega,by omega,fun q hq=>?_⟩
    obtain ⟨j,hj⟩:=List.mem_iff_getElem?.mp hq
    rw [List.getElem?_eraseIdx] at hj
    rw [← z]
    intro e
    have e:q.1=p.1:=by omega
    split at hj
    ·have:=qHG I.nd hj hi e;omega
    ·have:=qHG I.nd hj hi e;omega
  ·rintro ⟨a,b,c⟩
   by_cases z:(p.1:Int)=k
   ·exact .inr z
   ·refine .inl ⟨a,b,fun q hq=>?_⟩
    obtain ⟨j,hj⟩:=List.mem_iff_getElem?.mp hq
    by_cases y:j=i
    ·subst y
     rw [hi] at hj
     cases hj
     exact z
    ·refine c q (List.mem_iff_getElem?.mpr ⟨if j<i then j else j-1,?_⟩)
     rw [List.getElem?_eraseIdx]
     by_cases w:j<i
     ·rw [if_pos w,if_pos w];exact hj
     ·rw [if_neg w,if_neg (by omega),show j-1+1=j by omega];exact hj
end
theorem qIL {row:List Pc} {i j:Nat} (hi:i<row.length) (hj:j<row.length):((row.set i row[j]).set j row[i]).Perm row:=List.set_set_perm hi hj
theorem qBK {x:Ky × D} {r:List (Ky × D)} {k:Ky} (e:x.1=k):valY (x::r) k=some x.2:=by
 unfold valY
 rw [List.find?_cons_of_pos (by simpa using e)]
 rfl
theorem qBL {x:Ky × D} {r:List (Ky × D)} {k:Ky} (e:¬ x.1=k):valY (x::r) k=valY r k:=by
 unfold valY
 rw [List.find?_cons_of_neg (by simpa using e)]
theorem qEk (k:Ky):∀ kvs:List (Ky × D),(kvs.any fun kv=>decide (kv.1=k))=(valY kvs k).isSome
 | []=>rfl
 | x::r=>by
  rw [List.any_cons]
  by_cases e:x.1=k
  ·rw [qBK e,decide_eq_true e];rfl
  ·rw [qBL e,decide_eq_false e,Bool.false_or];exact qEk k r
theorem qG1 (k j:Ky) (y:D):∀ kvs:List (Ky × D),valY (kvs.map fun kv=>if kv.1=k then (kv.1,y) else kv) j=(valY kvs j).map fun x=>if j=k then y else x
 | []=>rfl
 | p::r=>by
  have ih:=qG1 k j y r
  rw [List.map_cons]
  by_cases h:p.1=k
  ·rw [if_pos h]
   by_cases e:p.1=j
   ·rw [qBK (x:=(p.1,y)) e,qBK e,Option.map_some,if_pos (e.symm.trans h)]
   ·rw [qBL (x:=(p.1,y)) e,qBL e,ih]
  ·rw [if_neg h]
   by_cases e:p.1=j
   ·rw [qBK (x:=p) e,qBK e,Option.map_some,if_neg (fun z=>h (e.trans z))]
   ·rw [qBL (x:=p) e,qBL e,ih]
theorem qFM (k j:Ky) (y:D):∀ kvs:List (Ky × D),valY kvs k=none→valY (kvs++[(k,y)]) j=if j=k then some y else valY kvs j
 | [],_=>by
  by_cases e:k=j
  ·rw [if_pos e.symm];exact qBK (x:=(k,y)) e
  ·rw [if_neg (fun z=>e z.symm)];exact qBL (x:=(k,y)) e
 | p::r,hn=>by
  have hk:¬ p.1=k:=fun z=>by rw [qBK z] at hn;cases hn
  rw [qBL hk] at hn
  have ih:=qFM k j y r hn
  rw [List.cons_append]
  by_cases e:p.1=j
  ·rw [qBK e,qBK e,if_neg (fun z=>hk (e.trans z))]
  ·rw [qBL e,qBL e,ih]
theorem qJt (kvs:List (Ky × D)) (k j:Ky) (y:D):valY (putY kvs k y) j=if j=k then some y else valY kvs j:=by
 unfold putY
 cases a:(kvs.any fun kv=>decide (kv.1=k)) with
 | true =>
  rw [if_pos rfl,qG1]
  rw [qEk] at a
  by_cases e:j=k
  ·subst e
   obtain ⟨x,hx⟩:=Option.isSome_iff_exists.mp a
   rw [hx,if_pos rfl,Option.map_some,if_pos rfl]
  ·rw [if_neg e]
   cases valY kvs j with
   | none=>rfl
   | some x=>rw [Option.map_some,if_neg e]
 | false =>
  rw [if_neg (by decide)]
  refine qFM k j y kvs ?_
  rw [qEk] at a
  cases q:valY kvs k with
  | none=>rfl
  | some x=>rw [q] at a;cases a
theorem qKW (kvs:List (Ky × D)) (k:Ky) (y:D):(putY kvs k y).length≤kvs.length+1:=by
 unfold putY
 split
 ·rw [List.length_map];omega
 ·simp
noncomputable def enD:En→D
 | .send n h t=>.tup [.str [115,101,110,100],.int n,.int h,.str t]
 | .dbl n g=>.tup [.str [100,111,117,98,108,101],.int n,.int g]
 | .turn a b=>.tup [.str [116,117,114,110],.int a,.int b]
 | .spoil n t=>.tup [.str [115,112,111,105,108],.int n,.str t]
 | .lose n=>.tup [.str [108,111,115,101],.int n]
 | .carry n h t=>.tup [.str [99,97,114,114,121],.int n,.int h,.str t]
 | .full n h t=>.tup [.str [102,117,108,108],.int n,.int h,.str t]
noncomputable def Rm (kvs:List (Ky × D)) (m:Mp):Prop:=∀ k:Int,valY kvs (.int k)=(m k).map .str
theorem Rm.up {kvs:List (Ky × D)} {m:Mp} (h:Rm kvs m) (n:Nat) (t:Tx):Rm (putY kvs (.int n) (.str t)) (up m n t):=fun k=>by
 rw [qJt]
 unfold Lk46.up
 by_cases e:k=(n:Int)
 ·subst e
  rw [if_pos rfl,if_pos rfl]
  rfl
 ·rw [if_neg e,if_neg (fun z=>e (by cases z;rfl))]
  exact h k
section
variable {F:Nat→List D→M D} {B:Nat} {h:AH} {m:Mp} {kvs:List (Ky × D)}
theorem t6 (hr:Rm kvs m) (k:Int) (x0 x3 x4:Option D):denS F B qBN [x0,some (.int k),some (.ref h.length),x3,x4] (h++[.dct kvs]) =
    match m k with | some t=>.rt (.str t) (h++[.dct kvs]) | none=>.nx [x0,some (.int k),some (.ref h.length),x3,x4] (h++[.dct kvs]):=by
  have g0:getL (h++[O.dct kvs]) h.length=none:=by rw [qAM];rfl
  have hk:hasK h.length (.int k) (h++[.dct kvs])=.ok (.bl (m k).isSome) (h++[.dct kvs]):=by
    unfold hasK
    rw [qAI]
    show R.ok (D.bl (valY kvs (.int k)).isSome) _=_
    rw [hr k,Option.isSome_map]
  cases q:m k with
  | none =>
    rw [q] at hk
    simp! only [qBN,g0,Option.bind_none,hk,Option.isSome_none]
  | some t =>
    rw [q] at hk
    have hi:ixK h.length (.int k) (h++[.dct kvs])=.ok (.str t) (h++[.dct kvs]):=by
      unfold ixK
      rw [qAI]
      show (match valY kvs (.int k) with | some d=>R.ok d _ | none=>.bad)=_
      rw [hr k,q]
      rfl
    simp! only [qBN,g0,Option.bind_none,hk,hi,Option.isSome_some]
theorem qNf (hr:Rm kvs m) (hl:kvs.length≤9000) (e:En) (he:okE m e) (k:Int) (x0 x4:Option D):∃ kvs' x4',Rm kvs' (stp m e)∧kvs'.length≤kvs.length+1∧denS F B qAF [x0,some (.int k),some (.ref h.length),some (enD e),x4] (h++[.dct kvs]) =
    match stp m e k with | some t=>.rt (.str t) (h++[.dct kvs']) | none=>.nx [x0,some (.int k),some (.ref h.length),some (enD e),x4'] (h++[.dct kvs']):=by
  have pk:∀ (y:Ky) (d:D),putKD d h.length y (h++[.dct kvs])=.ok () (h++[.dct (putY kvs y d)]):=fun y d=>by
    unfold putKD
    rw [qAI]
    show (if kvs.length<16777216 then R.ok () _ else .bad)=_
    rw [if_pos (by omega),qEo]
    rfl
  have g0:getL (h++[O.dct kvs]) h.length=none:=by rw [qAM];rfl
  have lp:=fun y d=>qKW kvs y d
  cases e with
  | send n g t =>
    refine ⟨_,some (.str [115,101,110,100]),hr.up n t,lp _ _,?_⟩
    have i0:((ixN 4 0).bind fun j=>[D.str [115,101,110,100],.int n,.int g,.str t][j]?)=some (.str [115,101,110,100]):=rfl
    have i1:((ixN 4 1).bind fun j=>[D.str [115,101,110,100],.int n,.int g,.str t][j]?)=some (.int n):=rfl
    have i3:((ixN 4 3).bind fun j=>[D.str [115,101,110,100],.int n,.int g,.str t][j]?)=some (.str t):=rfl
    simp! only [enD,qAF,i0,qBr,i1,i3,qAI,pk,t6 (hr.up n t)]
    rfl
  | full n g t =>
    refine ⟨_,some (.str [102,117,108,108]),hr.up n t,lp _ _,?_⟩
    have i0:((ixN 4 0).bind fun j=>[D.str [102,117,108,108],.int n,.int g,.str t][j]?)=some (.str [102,117,108,108]):=rfl
    have i1:((ixN 4 1).bind fun j=>[D.str [102,117,108,108],.int n,.int g,.str t][j]?)=some (.int n):=rfl
    have i3:((ixN 4 3).bind fun j=>[D.str [102,117,108,108],.int n,.int g,.str t][j]?)=some (.str t):=rfl
    simp! only [enD,qAF,show (([102,117,108,108]:Tx) == [115,101,110,100])=false from rfl,i0,qBr,i1,i3,qAI,pk,t6 (hr.up n t)]
    rfl
  | dbl n g =>
    obtain ⟨t,ht⟩:=he
    have hv:ixK h.length (.int n) (h++[.dct kvs])=.ok (.str t) (h++[.dct kvs]):=by
      unfold ixK
      rw [qAI]
      show (match valY kvs (.int n) with | some d=>R.ok d _ | none=>.bad)=_
      rw [hr n,ht]
      rfl
    have e1:stp m (.dbl n g)=up m g t:=by show (match m n with | some t=>up m g t | none=>m)=_;rw [ht]
    rw [e1]
    refine ⟨_,some (.str [100,111,117,98,108,101]),hr.up g t,lp _ _,?_⟩
    have i0:((ixN 3 0).bind fun j=>[D.str [100,111,117,98,108,101],.int n,.int g][j]?)=some (.str [100,111,117,98,108,101]):=rfl
    have i1:((ixN 3 1).bind fun j=>[D.str [100,111,117,98,108,101],.int n,.int g][j]?)=some (.int n):=rfl
    have i2:((ixN 3 2).bind fun j=>[D.str [100,111,117,98,108,101],.int n,.int g][j]?)=some (.int g):=rfl
    simp! only [enD,qAF,i0,show (([100,111,117,98,108,101]:Tx) == [115,101,110,100])=false from rfl,show (([100,111,117,98,108,101]:Tx) == [102,117,108,108])=false from rfl,qAi,qCw,i1,i2,g0,Option.bind_none,hv,qAI,pk,t6 (hr.up g t)]
  | spoil n t =>
    refine ⟨_,some (.str [115,112,111,105,108]),hr.up n t,lp _ _,?_⟩
    have i0:((ixN 3 0).bind fun j=>[D.str [115,112,111,105,108],.int n,.str t][j]?)=some (.str [115,112,111,105,108]):=rfl
    have i1:((ixN 3 1).bind fun j=>[D.str [115,112,111,105,108],.int n,.str t][j]?)=some (.int n):=rfl
    have i2:((ixN 3 2).bind fun j=>[D.str [115,112,111,105,108],.int n,.str t][j]?)=some (.str t):=rfl
    simp! only [enD,qAF,i0,show (([115,112,111,105,108]:Tx) == [115,101,110,100])=false from rfl,show (([115,112,111,105,108]:Tx) == [102,117,108,108])=false from rfl,show (([115,112,111,105,108]:Tx) == [100,111,117,98,108,101])=false from rfl,qAi,qA0,qCv,i1,i2,qAI,pk,t6 (hr.up n t)]
    rfl
  | turn a b =>
    refine ⟨kvs,some (.str [116,117,114,110]),hr,by omega,?_⟩
    have i0:((ixN 3 0).bind fun j=>[D.str [116,117,114,110],.int a,.int b][j]?)=some (.str [116,117,114,110]):=rfl
    simp! only [enD,qAF,i0,show (([116,117,114,110]:Tx) == [115,101,110,100])=false from rfl,show (([116,117,114,110]:Tx) == [102,117,108,108])=false from rfl,show (([116,117,114,110]:Tx) == [100,111,117,98,108,101])=false from rfl,show (([116,117,114,110]:Tx) == [115,112,111,105,108])=false from rfl,qAi,qA0,t6 hr]
    rfl
  | lose n =>
    refine ⟨kvs,some (.str [108,111,115,101]),hr,by omega,?_⟩
    have i0:((ixN 2 0).bind fun j=>[D.str [108,111,115,101],.int n][j]?)=some (.str [108,111,115,101]):=rfl
    simp! only [enD,qAF,i0,show (([108,111,115,101]:Tx) == [115,101,110,100])=false from rfl,show (([108,111,115,101]:Tx) == [102,117,108,108])=false from rfl,show (([108,111,115,101]:Tx) == [100,111,117,98,108,101])=false from rfl,show (([108,111,115,101]:Tx) == [115,112,111,105,108])=false from rfl,qAi,qA0,t6 hr]
    rfl
  | carry n g t =>
    refine ⟨kvs,some (.str [99,97,114,114,121]),hr,by omega,?_⟩
    have i0:((ixN 4 0).bind fun j=>[D.str [99,97,114,114,121],.int n,.int g,.str t][j]?)=some (.str [99,97,114,114,121]):=rfl
    simp! only [enD,qAF,i0,show (([99,97,114,114,121]:Tx) == [115,101,110,100])=false from rfl,show (([99,97,114,114,121]:Tx) == [102,117,108,108])=false from rfl,show (([99,97,114,114,121]:Tx) == [100,111,117,98,108,101])=false from rfl,show (([99,97,114,114,121]:Tx) == [115,112,111,105,108])=false from rfl,qAi,qA0,t6 hr]
    rfl
end
section
variable {B n:Nat} {h:AH} {log:List En}
noncomputable def ansD:Option Tx→D
 | some t=>.str t
 | none=>.non
theorem qFP {q:Nat} (hq:∀ g,getL (h++g) q=some (log.map enD)) (hlog:log.length≤5000) (k:Int):∀ (f j:Nat) (m:Mp) (kvs:List (Ky × D)) (x3 x4:Option D),f+j=log.length+1→j≤log.length→Rm kvs m→kvs.length≤j→okL m (log.drop j) →
    ∃ g,SR.andThen (qAH (qAL (TG.nm 3) (denS (callN fns B n) B qAF)) q f j [some (.ref q),some (.int k),some (.ref h.length),x3,x4] (h++[.dct kvs])) (denS (callN fns B n) B qBM)=.rt (ansD (go m k (log.drop j))) (h++g)
  | 0,j,m,kvs,x3,x4,hf,hj,_,_,_=>by omega
  | f+1,j,m,kvs,x3,x4,hf,hj,hr,hl,ho=>by
    unfold qAH
    rw [hq]
    simp only
    by_cases hlt:j<log.length
    · have e:(log.map enD)[j]?=some (enD log[j]):=by rw [List.getElem?_map,List.getElem?_eq_getElem hlt];rfl
      rw [e]
      rw [List.drop_eq_getElem_cons hlt] at ho ⊢
      obtain ⟨h1,h2⟩:=ho
      obtain ⟨kvs',x4',r',l',t⟩:=qNf (F:=callN fns B n) (B:=B) (h:=h) hr (by omega) log[j] h1 k (some (.ref q)) x4
      simp only [qAT,List.set_cons_succ,List.set_cons_zero,t]
      show ∃ g,_=SR.rt (ansD (match stp m log[j] k with | some t=>some t | none=>go (stp m log[j]) k (log.drop (j+1)))) _
      cases z:stp m log[j] k with
      | some u=>exact ⟨_,rfl⟩
      | none =>
        obtain ⟨g,e2⟩:=qFP hq hlog k f (j+1) (stp m log[j]) kvs' (some (enD log[j])) x4' (by omega) hlt r' (by omega) h2
        exact ⟨g,e2⟩
    · have e:(log.map enD)[j]?=none:=by rw [List.getElem?_eq_none (by rw [List.length_map];omega)]
      rw [e,List.drop_eq_nil_of_le (by omega)]
      exact ⟨[.dct kvs],by simp! only [qA6,qBM];rfl⟩
theorem qOV {q:Nat} (hq:getL h q=some (log.map enD)) (hlog:log.length≤5000) (ho:okL m0 log) (k:Int):∃ g,callN fns B (n+1) qGX [.ref q,.int k] h=.ok (ansD (go m0 k log)) (h++g):=by
 rw [qGh]
 have hq2:∀ g,getL (h++g) q=some (log.map enD):=fun g=>qAG g hq
 obtain ⟨g,e⟩:=qFP (B:=B) (n:=n) hq2 hlog k (log.length+1) 0 m0 [] none none (by omega) (Nat.zero_le _) (fun _=>rfl) (by simp) ho
 rw [List.drop_zero] at e
 have lv:liveN (h++[.dct []]) q=log.length+1:=by unfold liveN;rw [hq2];simp
 have hd:den (callN fns B n) (.disp [] .nil) [some (.ref q),some (.int k),none,none,none] h=.ok (.ref h.length) (h++[.dct []]):=by
  simp! only [dispD,qAI,qEo,qHI,List.zip_nil_left,List.foldl_nil,show (0≤15)=True from eq_true (by omega)]
 refine ⟨g,?_⟩
 show fin (denS _ B (.seq (.set (.nm 2) (.disp [] .nil)) (.seq (.fori (.nm 3) (.of (.var 0)) qAF) qBM)) _ h)=_
 rw [denS,denS,hd]
 simp! only [hq2,lv,e]
theorem qOW {q:Nat} (hq:getL h q=some (log.map enD)) (k:Int):callN fns B (n+1) qJJ [.ref q,.int k] h=.ok (.bl (log.any (goneE k))) h:=by
 rw [qJn]
 have loop:∀ (f j:Nat) (x2:Option D),f+j=log.length+1→j≤log.length→SR.andThen (qAH (qAL (TG.nm 2) (denS (callN fns B n) B qAS)) q f j [some (.ref q),some (.int k),x2] h) (denS (callN fns B n) B qCl)=.rt (.bl ((log.drop j).any (goneE k))) h:=by
  intro f
  induction f with
  | zero=>intro j x2 hf hj;omega
  | succ f ih =>
   intro j x2 hf hj
   unfold qAH
   rw [hq]
   simp only
   by_cases hlt:j<log.length
   ·have e:(log.map enD)[j]?=some (enD log[j]):=by rw [List.getElem?_map,List.getElem?_eq_getElem hlt];rfl
    rw [e,List.drop_eq_getElem_cons hlt,List.any_cons]
    have ih1:=ih (j+1) (some (enD log[j])) (by omega) hlt
    have turn:qAL (TG.nm 2) (denS (callN fns B n) B qAS) (enD log[j]) [some (.ref q),some (.int k),x2] h=if goneE k log[j]=true then .rt (.bl true) h else .nx [some (.ref q),some (.int k),some (enD log[j])] h:=by
     rw [qAT]
     have c3:∀ (x:Tx) (H:AH),biD .isin (.str x) (.tup [.str [102,117,108,108],.str [99,97,114,114,121],.str [108,111,115,101]]) H=.ok (.bl ([[102,117,108,108],[99,97,114,114,121],[108,111,115,101]].contains x)) H:=fun _ _=>rfl
     have s3:qAs [.str [102,117,108,108],.str [99,97,114,114,121],.str [108,111,115,101]]=some [[102,117,108,108],[99,97,114,114,121],[108,111,115,101]]:=rfl
     cases log[j] with
     | send n g t =>
      have i0:((ixN 4 0).bind fun j=>[D.str [115,101,110,100],.int n,.int g,.str t][j]?)=some (.str [115,101,110,100]):=rfl
      simp! only [enD,qAS,i0,s3,if_pos (show 3≤16777216 by omega),show (([[102,117,108,108],[99,97,114,114,121],[108,111,115,101]]:List Tx).contains [115,101,110,100])=false from rfl,goneE]
     | dbl n g =>
      have i0:((ixN 3 0).bind fun j=>[D.str [100,111,117,98,108,101],.int n,.int g][j]?)=some (.str [100,111,117,98,108,101]):=rfl
      simp! only [enD,qAS,i0,s3,if_pos (show 3≤16777216 by omega),show (([[102,117,108,108],[99,97,114,114,121],[108,111,115,101]]:List Tx).contains [100,111,117,98,108,101])=false from rfl,goneE]
     | turn n g =>
      have i0:((ixN 3 0).bind fun j=>[D.str [116,117,114,110],.int n,.int g][j]?)=some (.str [116,117,114,110]):=rfl
      simp! only [enD,qAS,i0,s3,if_pos (show 3≤16777216 by omega),show (([[102,117,108,108],[99,97,114,114,121],[108,111,115,101]]:List Tx).contains [116,117,114,110])=false from rfl,goneE]
     | spoil n t =>
      have i0:((ixN 3 0).bind fun j=>[D.str [115,112,111,105,108],.int n,.str t][j]?)=some (.str [115,112,111,105,108]):=rfl
      simp! only [enD,qAS,i0,s3,if_pos (show 3≤16777216 by omega),show (([[102,117,108,108],[99,97,114,114,121],[108,111,115,101]]:List Tx).contains [115,112,111,105,108])=false from rfl,goneE]
     | lose n =>
      have i0:((ixN 2 0).bind fun j=>[D.str [108,111,115,101],.int n][j]?)=some (.str [108,111,115,101]):=rfl
      have i1:((ixN 2 1).bind fun j=>[D.str [108,111,115,101],.int n][j]?)=some (.int n):=rfl
      simp! only [enD,qAS,i0,i1,s3,if_pos (show 3≤16777216 by omega),show (([[102,117,108,108],[99,97,114,114,121],[108,111,115,101]]:List Tx).contains [108,111,115,101])=true from rfl,goneE]
      rcases Bool.eq_false_or_eq_true ((n:Int) == k) with z | z <;> simp! only [z]
     | carry n g t =>
      have i0:((ixN 4 0).bind fun j=>[D.str [99,97,114,114,121],.int n,.int g,.str t][j]?)=some (.str [99,97,114,114,121]):=rfl
      have i1:((ixN 4 1).bind fun j=>[D.str [99,97,114,114,121],.int n,.int g,.str t][j]?)=some (.int n):=rfl
      simp! only [enD,qAS,i0,i1,s3,if_pos (show 3≤16777216 by omega),show (([[102,117,108,108],[99,97,114,114,121],[108,111,115,101]]:List Tx).contains [99,97,114,114,121])=true from rfl,goneE]
      rcases Bool.eq_false_or_eq_true ((n:Int) == k) with z | z <;> simp! only [z]
     | full n g t =>
      have i0:((ixN 4 0).bind fun j=>[D.str [102,117,108,108],.int n,.int g,.str t][j]?)=some (.str [102,117,108,108]):=rfl
      have i1:((ixN 4 1).bind fun j=>[D.str [102,117,108,108],.int n,.int g,.str t][j]?)=some (.int n):=rfl
      simp! only [enD,qAS,i0,i1,s3,if_pos (show 3≤16777216 by omega),show (([[102,117,108,108],[99,97,114,114,121],[108,111,115,101]]:List Tx).contains [102,117,108,108])=true from rfl,goneE]
      rcases Bool.eq_false_or_eq_true ((n:Int) == k) with z | z <;> simp! only [z]
    simp only [turn]
    cases z:goneE k log[j] with
    | true=>rfl
    | false=>rw [Bool.false_or,← ih1];rfl
   ·have e:(log.map enD)[j]?=none:=by rw [List.getElem?_eq_none (by rw [List.length_map];omega)]
    rw [e,List.drop_eq_nil_of_le (by omega)]
    simp! only [qA6,qCl]
    rfl
 have lv:liveN h q=log.length+1:=by unfold liveN;rw [hq];simp
 have l0:=loop (log.length+1) 0 none (by omega) (Nat.zero_le _)
 rw [List.drop_zero] at l0
 simp! only [qC1,hq,lv,l0]
end
noncomputable def pcD (p:Pc):D:=.tup [.int p.1,.int p.2.1,.str p.2.2.1,.bl p.2.2.2]
noncomputable def rd (A L:Nat) (N:Int):List (Nat × D):=[(qHK,.ref A),(qLG,.ref L),(qB4,.int N)]
section
variable (A L:Nat) (N:Int)
theorem g_way:getN qHK (rd A L N)=some (.ref A):=rfl
theorem g_dn:getN qLG (rd A L N)=some (.ref L):=rfl
theorem g_nn:getN qB4 (rd A L N)=some (.int N):=rfl
theorem p_nn (M:Int):putN qB4 (.int M) (rd A L N)=rd A L M:=rfl
theorem g_len:(rd A L N).length=3:=rfl
theorem qLA:getN 1936027236 (rd A L N)=none:=rfl
theorem qHH:getN 29681726132677740 (rd A L N)=none:=rfl
theorem n_put:getN 123649765896046 (rd A L N)=none:=rfl
theorem n_at:getN 8100116882379465076 (rd A L N)=none:=rfl
theorem qMI:getN 426836652665 (rd A L N)=none:=rfl
theorem qOR:getN 1819243365 (rd A L N)=none:=rfl
theorem qKL:getN 110429873532005 (rd A L N)=none:=rfl
theorem qOQ:getN 1953854062 (rd A L N)=none:=rfl
theorem qMH:getN 495807588716 (rd A L N)=none:=rfl
theorem qEy:getN 112616079453799 (rd A L N)=none:=rfl
theorem n_log:getN 7106407 (rd A L N)=none:=rfl
theorem qK9:getN 32762665321328486 (rd A L N)=none:=rfl
end
theorem qEm:tbN [(1383031140,10)] qAX=some 10:=rfl
theorem qII:tbN [(1383031140,11)] qAX=some 11:=rfl
theorem tb_at:tbN [(1383031140,12)] qAX=some 12:=rfl
theorem qIH:tbN [(1383031140,9)] qAX=some 9:=rfl
theorem qJ1:tbN [(1383031140,13)] qAX=some 13:=rfl
theorem qLc:tbN [(1383031140,14)] qAX=some 14:=rfl
theorem qIK:tbN [(1383031140,15)] qAX=some 15:=rfl
theorem qLb:tbN [(1383031140,16)] qAX=some 16:=rfl
theorem qJ0:tbN [(1383031140,17)] qAX=some 17:=rfl
theorem qDi:tbN [(1383031140,6)] qAX=some 6:=rfl
theorem qIJ:tbN [(1383031140,7)] qAX=some 7:=rfl
theorem qIG:tbN [(1383031140,8)] qAX=some 8:=rfl
theorem qGg:([qAX]:List Nat).contains qAX=true:=rfl
theorem qAA {G:AH} {i:Nat} {xs:List D} (h:G[i]?=some (.lst xs)):getL G i=some xs:=by unfold getL;rw [h]
theorem qAQ {G:AH} {k:Nat} {o:O} (g:AH) (h:G[k]?=some o):(G++g)[k]?=some o:=by
 rw [List.getElem?_append_left (List.getElem?_eq_some_iff.mp h).1];exact h
structure Rd (G:AH) (R A L:Nat) (ws:List Pc) (lg:List D) (N:Nat):Prop where
 r:G[R]?=some (.ins qAX (rd A L N))
 a:G[A]?=some (.lst (ws.map pcD))
 l:G[L]?=some (.lst lg)
 al:A≠L
 bw:ws.length≤200
 bl:lg.length≤5000
theorem Rd.app {G:AH} {R A L N:Nat} {ws:List Pc} {lg:List D} (I:Rd G R A L ws lg N) (g:AH):Rd (G++g) R A L ws lg N:=⟨qAQ g I.r,qAQ g I.a,qAQ g I.l,I.al,I.bw,I.bl⟩
noncomputable def badP (w:Nat):D→Prop
 | .int i=>i<0∨(w:Int)≤i
 | .bl _=>True
 | .non=>True
 | .str _=>True
 | _=>False
theorem qDs (B n w:Nat) (d:D) (h:AH) (hb:badP w d):callN fns B (n+1) qD1 [d,.int 0,.int ((w:Int)-1)] h=.ok (.bl false) h:=by
 rw [qD7]
 have t1:(Ty.bool == Ty.bool || Ty.bool == Ty.int)=true:=rfl
 have t2:(Ty.int == Ty.bool)=false:=rfl
 have t3:(Ty.int == Ty.int)=true:=rfl
 have t4:(Ty.bool == Ty.int)=false:=rfl
 have t5:(Ty.bool == Ty.str)=false:=rfl
 have t6:(Ty.int == Ty.str)=false:=rfl
 cases d with
 | int i =>
  have hb:i<0∨(w:Int)≤i:=hb
  by_cases q:0≤i
  ·simp! only [qAW,t2,t3,t4,qBQ,q,show ¬ i≤(w:Int)-1 by omega]
  ·simp! only [qAW,t2,t3,t4,qBQ,q]
 | bl b=>simp! only [qAW,t1]
 | non=>simp! only [qAW]
 | str x=>simp! only [qAW,t5,t6]
 | tup _=>exact hb.elim
 | ref _=>exact hb.elim
theorem qCp (B n w:Nat) (i:Nat) (h:AH) (hi:i<w):callN fns B (n+1) qD1 [.int i,.int 0,.int ((w:Int)-1)] h=.ok (.bl true) h:=by
 rw [qD7]
 have t2:(Ty.int == Ty.bool)=false:=rfl
 have t3:(Ty.int == Ty.int)=true:=rfl
 have t4:(Ty.bool == Ty.int)=false:=rfl
 simp! only [qAW,t2,t3,t4,qBQ,show (0:Int)≤(i:Int) by omega,show (i:Int)≤(w:Int)-1 by omega]
section
variable {B n:Nat} {G:AH} {R A L N:Nat} {ws:List Pc} {lg:List D}
theorem qCO (I:Rd G R A L ws lg N) (d:D) (hb:badP ws.length d):callN fns B (n+2) qB7 [.ref R,d] G=.exc qAc G:=by
 rw [qCD]
 have t:=qDs B n ws.length d G hb
 simp! only [qAh,I.r,g_way,qAA I.a,List.length_map,t]
theorem qBe (I:Rd G R A L ws lg N) (i:Nat) (p:Pc) (hi:ws[i]?=some p):callN fns B (n+2) qB7 [.ref R,.int i] G=.ok (pcD p) G:=by
 rw [qCD]
 have hl:=(List.getElem?_eq_some_iff.mp hi).1
 have t:=qCp B n ws.length i G hl
 have hx:((ixN (ws.map pcD).length (i:Int)).bind fun j=>(ws.map pcD)[j]?)=some (pcD p):=by
  rw [List.length_map,qAb hl,Option.bind_some,List.getElem?_map,hi]
  rfl
 rw [List.length_map] at hx
 simp! only [qAh,I.r,g_way,qAA I.a,List.length_map,t,qBp,Option.bind_some,hx]
theorem qMT (I:Rd G R A L ws lg N) (d:D) (hb:badP ws.length d):callN fns B (n+3) qDE [.ref R,d] G=.exc qAc G:=by
 rw [qDF]
 have t:=qCO (B:=B) (n:=n) I d hb
 simp! only [qBH,I.r,n_at,tb_at,t]
theorem qNA (I:Rd G R A L ws lg N) (d:D) (hb:badP ws.length d):callN fns B (n+3) qD2 [.ref R,d] G=.exc qAc G:=by
 rw [qD8]
 have t:=qCO (B:=B) (n:=n) I d hb
 simp! only [qBX,I.r,n_at,tb_at,t]
theorem qLE (I:Rd G R A L ws lg N) (d:D) (hb:badP ws.length d):callN fns B (n+3) qCr [.ref R,d] G=.exc qAc G:=by
 rw [qCu]
 have t:=qCO (B:=B) (n:=n) I d hb
 simp! only [qA3,I.r,n_at,tb_at,t]
theorem qMR (I:Rd G R A L ws lg N) (d o:D) (hb:badP ws.length d):callN fns B (n+3) qCe [.ref R,d,o] G=.exc qAc G:=by
 rw [qCf]
 have t:=qCO (B:=B) (n:=n) I d hb
 simp! only [qA5,I.r,n_at,tb_at,t]
theorem qMQ (I:Rd G R A L ws lg N) (d:D) (i:Nat) (p:Pc) (hi:ws[i]?=some p) (hb:badP ws.length d):callN fns B (n+3) qCe [.ref R,.int i,d] G=.exc qAc G:=by
 rw [qCf]
 have t:=qCO (B:=B) (n:=n) I d hb
 have t2:=qBe (B:=B) (n:=n) I i p hi
 simp! only [qA5,I.r,n_at,tb_at,t2,t]
theorem qMS (I:Rd G R A L ws lg N) (d x y:D) (hb:badP ws.length d):callN fns B (n+3) qAx [.ref R,d,x,y] G=.exc qAc G:=by
 rw [qBD]
 have t:=qCO (B:=B) (n:=n) I d hb
 simp! only [qAP,I.r,n_at,tb_at,t]
end
noncomputable def oth (y:Tx) (c:Nat):Bool:=y.all okC&&(decide (y.length=1)&&!(y == [c]))
theorem qIy (B n:Nat) (y:Tx) (c:Nat) (h:AH) (hy:y.length≤1000):callN fns B (n+3) qB6 [.str y,.str [c]] h=.ok (.bl (oth y c)) (h++[.lst (y.map fun c=>.bl (okC c))]):=by
 rw [qD6]
 have t:=qEa B n y h hy
 have d:((y.length:Int) == 1)=decide (y.length=1):=qC7 _ 1
 unfold oth
 cases q1:y.all okC with
 | false=>simp! only [qAU,t,q1,Bool.false_and]
 | true =>
  by_cases q2:y.length=1
  ·simp! only [qAU,t,q1,if_pos (show y.length≤16777216 by omega),d,q2,show (((1:Nat):Int) == 1)=true from rfl,Bool.true_and]
  ·simp! only [qAU,t,q1,if_pos (show y.length≤16777216 by omega),d,q2,Bool.true_and,Bool.false_and]
theorem qHq (B n:Nat) (c:Nat) (h:AH):callN fns B (n+3) qB6 [.non,.str [c]] h=.ok (.bl false) h:=rfl
section
variable {B n:Nat} {G:AH} {R A L N:Nat} {ws:List Pc} {lg:List D}
theorem qN3 (p:Pc):((ixN 4 2).bind fun j=>[D.int p.1,.int p.2.1,.str p.2.2.1,.bl p.2.2.2][j]?)=some (.str p.2.2.1):=rfl
theorem qPO (p:Pc):((ixN 4 3).bind fun j=>[D.int p.1,.int p.2.1,.str p.2.2.1,.bl p.2.2.2][j]?)=some (.bl p.2.2.2):=rfl
theorem qId (p:Pc):((ixN 4 0).bind fun j=>[D.int p.1,.int p.2.1,.str p.2.2.1,.bl p.2.2.2][j]?)=some (.int p.1):=rfl
theorem qN4 (p:Pc):((ixN 4 1).bind fun j=>[D.int p.1,.int p.2.1,.str p.2.2.1,.bl p.2.2.2][j]?)=some (.int p.2.1):=rfl
theorem qCo (I:Rd G R A L ws lg N) (i:Nat) (p:Pc) (hi:ws[i]?=some p) (hs:p.2.2.2=true) (x y:D):callN fns B (n+5) qAx [.ref R,.int i,x,y] G=.exc qEj G:=by
 rw [qBD]
 have t:=qBe (B:=B) (n:=n+2) I i p hi
 unfold pcD at t
 rw [hs] at t
 have e2:((ixN 4 2).bind fun j=>[D.int p.1,.int p.2.1,.str p.2.2.1,.bl true][j]?)=some (.str p.2.2.1):=rfl
 have e3:((ixN 4 3).bind fun j=>[D.int p.1,.int p.2.1,.str p.2.2.1,.bl true][j]?)=some (.bl true):=rfl
 simp! only [qAP,I.r,n_at,tb_at,t,e2,e3]
theorem qM9 (I:Rd G R A L ws lg N) (i:Nat) (p:Pc) (hi:ws[i]?=some p) (hz:p.2.2.1.length≤1000) (x y:D) (hx:badP p.2.2.1.length x):callN fns B (n+5) qAx [.ref R,.int i,x,y] G=.exc qEj G:=by
 cases hs:p.2.2.2 with
 | true=>exact qCo I i p hi hs x y
 | false =>
  rw [qBD]
  have t:=qBe (B:=B) (n:=n+2) I i p hi
  unfold pcD at t
  rw [hs] at t
  have e2:((ixN 4 2).bind fun j=>[D.int p.1,.int p.2.1,.str p.2.2.1,.bl false][j]?)=some (.str p.2.2.1):=rfl
  have e3:((ixN 4 3).bind fun j=>[D.int p.1,.int p.2.1,.str p.2.2.1,.bl false][j]?)=some (.bl false):=rfl
  have tn:=qDs B (n+3) p.2.2.1.length x G hx
  simp! only [qAP,I.r,n_at,tb_at,t,e2,e3,qAu,if_pos (show p.2.2.1.length≤16777216 by omega),tn]
theorem tx_at {x:Tx} {j c:Nat} (h:x[j]?=some c):((ixN x.length (j:Int)).bind fun k=>x[k]?)=some c:=by
 rw [qAb (List.getElem?_eq_some_iff.mp h).1,Option.bind_some,h]
noncomputable def badY (c:Nat):D→Prop
 | .non=>True
 | .str y=>y.length≤1000∧oth y c=false
 | _=>False
theorem qLB (I:Rd G R A L ws lg N) (i:Nat) (p:Pc) (hi:ws[i]?=some p) (hz:p.2.2.1.length≤1000) (j c:Nat) (hj:p.2.2.1[j]?=some c) (y:D) (hy:badY c y):∃ g,callN fns B (n+5) qAx [.ref R,.int i,.int j,y] G=.exc qEj (G++g):=by
 cases hs:p.2.2.2 with
 | true=>exact ⟨[],by rw [List.append_nil];exact qCo I i p hi hs _ y⟩
 | false =>
  rw [qBD]
  have t:=qBe (B:=B) (n:=n+2) I i p hi
  unfold pcD at t
  rw [hs] at t
  have e2:((ixN 4 2).bind fun j=>[D.int p.1,.int p.2.1,.str p.2.2.1,.bl false][j]?)=some (.str p.2.2.1):=rfl
  have e3:((ixN 4 3).bind fun j=>[D.int p.1,.int p.2.1,.str p.2.2.1,.bl false][j]?)=some (.bl false):=rfl
  have tn:=qCp B (n+3) p.2.2.1.length j G (List.getElem?_eq_some_iff.mp hj).1
  have hx:=tx_at hj
  cases y with
  | non =>
   have to:=qHq B (n+1) c G
   exact ⟨[],by
    rw [List.append_nil]
    simp! only [qAP,I.r,n_at,tb_at,t,e2,e3,qAu,if_pos (show p.2.2.1.length≤16777216 by omega),tn,qBA,hx,to]⟩
  | str y =>
   obtain ⟨h1,h2⟩:=(show y.length≤1000∧oth y c=false from hy)
   have to:=qIy B (n+1) y c G h1
   rw [h2] at to
   exact ⟨_,by simp! only [qAP,I.r,n_at,tb_at,t,e2,e3,qAu,if_pos (show p.2.2.1.length≤16777216 by omega),tn,qBA,hx,to];rfl⟩
  | bl _=>exact hy.elim
  | int _=>exact hy.elim
  | tup _=>exact hy.elim
  | ref _=>exact hy.elim
theorem qHp (I:Rd G R A L ws lg N) (i:Nat) (p:Pc) (hi:ws[i]?=some p) (hs:p.2.2.2=false) (hz:p.2.2.1.length≤1000) (j c:Nat) (hj:p.2.2.1[j]?=some c) (y:Tx) (hy1:y.length≤10) (hy:oth y c=true) :
    ∃ g,callN fns B (n+5) qAx [.ref R,.int i,.int j,.str y] G=.ok .non g∧Rd g R A L (ws.set i (p.1,p.2.1,p.2.2.1.take j++y++p.2.2.1.drop (j+1),true)) (lg++[.tup [.str [115,112,111,105,108],.int p.1,.str (p.2.2.1.take j++y++p.2.2.1.drop (j+1))]]) N∧G.length≤g.length∧(∀ k,k≠A→k≠L→k<G.length→g[k]?=G[k]?)∨lg.length=5000:=by
  by_cases hlg:lg.length=5000
  · exact ⟨[],.inr hlg⟩
  have hbl:=I.bl
  rw [qBD]
  have t:=qBe (B:=B) (n:=n+2) I i p hi
  unfold pcD at t
  rw [hs] at t
  have e0:((ixN 4 0).bind fun j=>[D.int p.1,.int p.2.1,.str p.2.2.1,.bl false][j]?)=some (.int p.1):=rfl
  have e1:((ixN 4 1).bind fun j=>[D.int p.1,.int p.2.1,.str p.2.2.1,.bl false][j]?)=some (.int p.2.1):=rfl
  have e2:((ixN 4 2).bind fun j=>[D.int p.1,.int p.2.1,.str p.2.2.1,.bl false][j]?)=some (.str p.2.2.1):=rfl
  have e3:((ixN 4 3).bind fun j=>[D.int p.1,.int p.2.1,.str p.2.2.1,.bl false][j]?)=some (.bl false):=rfl
  have hjl:=(List.getElem?_eq_some_iff.mp hj).1
  have hil:=(List.getElem?_eq_some_iff.mp hi).1
  have tn:=qCp B (n+3) p.2.2.1.length j G hjl
  have hx:=tx_at hj
  have to:=qIy B (n+1) y c G (by omega)
  rw [hy] at to
  have I1:=I.app [.lst (y.map fun c=>.bl (okC c))]
  generalize hG1:G++[O.lst (y.map fun c=>.bl (okC c))]=G1 at to I1
  have ej:(j:Int)+1=((j+1:Nat):Int):=by omega
  have l1:(p.2.2.1.take j).length=j:=by rw [List.length_take];omega
  have l2:(p.2.2.1.drop (j+1)).length≤1000:=by rw [List.length_drop];omega
  generalize hT:p.2.2.1.take j++y++p.2.2.1.drop (j+1)=T
  have hx2:=qAb hil
  have hA:=(List.getElem?_eq_some_iff.mp I1.a).1
  have hL:=(List.getElem?_eq_some_iff.mp I1.l).1
  have em:(ws.map pcD).set i (.tup [.int p.1,.int p.2.1,.str T,.bl true])=(ws.set i (p.1,p.2.1,T,true)).map pcD:=by rw [List.map_set];rfl
  have nAR:A≠R:=fun z=>by have:=I1.r;rw [← z,I1.a] at this;cases this
  have r2:(G1.set A (.lst ((ws.set i (p.1,p.2.1,T,true)).map pcD)))[R]?=some (.ins qAX (rd A L N)):=by rw [List.getElem?_set_ne nAR];exact I1.r
  have l3:(G1.set A (.lst ((ws.set i (p.1,p.2.1,T,true)).map pcD)))[L]?=some (.lst lg):=by rw [List.getElem?_set_ne I.al];exact I1.l
  have c1:j+y.length≤16777216:=by omega
  have c2:(p.2.2.1.take j++y).length+(p.2.2.1.drop (j+1)).length≤16777216:=by rw [List.length_append,l1];omega
  refine ⟨(G1.set A (.lst ((ws.set i (p.1,p.2.1,T,true)).map pcD))).set L (.lst (lg++[.tup [.str [115,112,111,105,108],.int p.1,.str T]])),.inl ⟨?_,⟨?_,?_,?_,I.al,by rw [List.length_set];exact I.bw,by rw [List.length_append,List.length_singleton];omega⟩,?_,?_⟩⟩
  · simp! only [qAP,I.r,n_at,tb_at,t,e2,e3,qAu,if_pos (show p.2.2.1.length≤16777216 by omega),tn,qBA,hx,to,qCc,qGe,ej,qCs,l1,if_pos c1,if_pos c2,hT,e0,e1,I1.r,g_way,I1.a,List.length_map,hx2,em,r2,g_dn,qAA l3,l3,if_pos (show lg.length<16777216 by omega)]
  · have nLR:L≠R:=fun z=>by have:=I1.r;rw [← z,I1.l] at this;cases this
    rw [List.getElem?_set_ne nLR];exact r2
  · rw [List.getElem?_set_ne (Ne.symm I.al),List.getElem?_set,if_pos rfl,if_pos hA]
  · rw [List.getElem?_set,if_pos rfl,if_pos (by rw [List.length_set];exact hL)]
  · rw [List.length_set,List.length_set,← hG1,List.length_append];omega
  · intro k h1 h2 h3
    rw [List.getElem?_set_ne (Ne.symm h2),List.getElem?_set_ne (Ne.symm h1),← hG1,List.getElem?_append_left h3]
noncomputable def txOk (y:Tx):Bool:=y.all okC&&(decide (1≤y.length)&&decide (y.length≤400))
theorem qIx (h:AH) (y:Tx) (hy:y.length≤1000):callN fns B (n+3) qCT [.str y] h=.ok (.bl (txOk y)) (h++[.lst (y.map fun c=>.bl (okC c))]):=by
 rw [qCW]
 have t:=qEa B n y h hy
 have d1:decide ((1:Int)≤(y.length:Int))=decide (1≤y.length):=qBT 1 _
 have d2:decide ((y.length:Int)≤400)=decide (y.length≤400):=qBT _ 400
 have hz:y.length≤16777216:=by omega
 unfold txOk
 cases q1:y.all okC with
 | false=>simp! only [qAR,t,q1,Bool.false_and]
 | true =>
  by_cases q2:1≤y.length
  ·simp! only [qAR,t,q1,if_pos hz,d1,q2,d2,Bool.true_and]
  ·simp! only [qAR,t,q1,if_pos hz,d1,q2,d2,Bool.true_and,Bool.false_and]
noncomputable def badT (h:AH):D→Prop
 | .str y=>y.length≤1000∧txOk y=false
 | d=>isiD h .str d=some false
theorem qGR (h:AH) (d:D) (hd:badT h d):∃ g,callN fns B (n+3) qCT [d] h=.ok (.bl false) (h++g):=by
 cases d with
 | str y =>
  obtain ⟨h1,h2⟩:=(show y.length≤1000∧txOk y=false from hd)
  have:=qIx (B:=B) (n:=n) h y h1
  rw [h2] at this
  exact ⟨_,this⟩
 | _ =>
  refine ⟨[],?_⟩
  rw [qCW,List.append_nil]
  have t:=qE2 B (n+1) _ h hd
  simp! only [qAR,t]
theorem qDr (h d:D) (I:Rd G R A L ws lg N) (hb:badP 2 h):callN fns B (n+4) qBq [.ref R,h,d] G=.exc qAc G:=by
 rw [qCg]
 have t:=qDs B (n+2) 2 h G hb
 have e:((2:Nat):Int)-1=1:=rfl
 rw [e] at t
 simp! only [qAv,t]
theorem qDq (i:Nat) (hi:i<2) (d:D) (hd:badT G d):∃ g,callN fns B (n+4) qBq [.ref R,.int i,d] G=.exc qAc (G++g):=by
 rw [qCg]
 have t:=qCp B (n+2) 2 i G hi
 have e:((2:Nat):Int)-1=1:=rfl
 rw [e] at t
 obtain ⟨g,t2⟩:=qGR (B:=B) (n:=n) G d hd
 exact ⟨g,by simp! only [qAv,t,t2]⟩
end
section
variable {B n:Nat} {G:AH} {R A L N:Nat} {ws:List Pc} {lg:List D}
theorem qLD (I:Rd G R A L ws lg N):callN fns B (n+1) qEN [.ref R] G=.ok (.bl (decide (200≤ws.length))) G:=by
 rw [qEP]
 have e:decide ((200:Int)≤(ws.length:Int))=decide (200≤ws.length):=qBT 200 _
 simp! only [qBB,I.r,g_way,qAA I.a,List.length_map,e]
theorem t4_0 (a b c d:D):((ixN 4 0).bind fun j=>[a,b,c,d][j]?)=some a:=rfl
theorem t4_1 (a b c d:D):((ixN 4 1).bind fun j=>[a,b,c,d][j]?)=some b:=rfl
theorem t4_2 (a b c d:D):((ixN 4 2).bind fun j=>[a,b,c,d][j]?)=some c:=rfl
noncomputable def flD (ws:List Pc):List D:=ws.map fun p=>.tup [.int p.1,.int p.2.1]
theorem qDu (f:D→M (Option D)) (g:D→D) (h:AH) (i:Nat) (xs:List D) (hi:getL h i=some xs) (hx:∀ x∈xs,f x h=.ok (some (g x)) h):∀ (m k:Nat),xs.length-k<m→k≤xs.length→qAN f i m k h=.ok ((xs.drop k).map g) h:=by
 intro m
 induction m with
 | zero=>intro k h1;omega
 | succ m ih =>
  intro k h1 h2
  unfold qAN
  simp only [hi]
  by_cases hk:k<xs.length
  ·rw [List.getElem?_eq_getElem hk]
   have e:=hx _ (List.getElem_mem hk)
   have r:=ih (k+1) (by omega) (by omega)
   rw [List.drop_eq_getElem_cons hk,List.map_cons]
   simp only [M.bind_eq,e,R.bind_ok,r,M.ret_eq]
  ·rw [List.getElem?_eq_none (by omega),List.drop_eq_nil_of_le (by omega)]
   rfl
theorem qE3 (I:Rd G R A L ws lg N):callN fns B (n+1) qE8 [.ref R] G=.ok (.ref G.length) (G++[.lst (flD ws)]):=by
 rw [qFG]
 have ga:=qAA I.a
 have hb:=I.bw
 have t:=qDu (compF (den (callN fns B n) qBY) [some (.ref R)]) (fun d=>match d with | .tup [.int a,.int b,_,_]=>.tup [.int a,.int b] | _=>.non) G A (ws.map pcD) ga (fun x hx=>by
  obtain ⟨p,hp,rfl⟩:=List.mem_map.mp hx
  unfold compF pcD
  simp! only [List.cons_append,List.nil_append,qBY,qId,qN4]) (liveN G A) 0 (by unfold liveN;rw [ga];simp) (Nat.zero_le _)
 have em:(ws.map pcD).map (fun d=>match d with | .tup [.int a,.int b,_,_]=>.tup [.int a,.int b] | _=>.non)=flD ws:=by
  rw [List.map_map];rfl
 rw [List.drop_zero,em] at t
 have hl:(flD ws).length=ws.length:=by unfold flD;simp
 have hlv:liveN G A<16777216:=by unfold liveN;rw [ga];simp;omega
 simp! only [qBR,I.r,g_way,ga,if_pos hlv,t,hl,if_pos (show ws.length≤16777216 by omega)]
theorem m_log (I:Rd G R A L ws lg N):callN fns B (n+1) qHw [.ref R] G=.ok (.ref G.length) (G++[.lst lg]):=by
 rw [qH4]
 have hb:=I.bl
 simp! only [qCR,I.r,g_dn,qAA I.l,if_pos (show lg.length≤16777216 by omega)]
end
noncomputable def okT (y:Tx):Prop:=y.all okC=true∧1≤y.length∧y.length≤400
noncomputable def SGN:Tx:=[32,33,34,35,36,38,39,40,41,42,43,44,45,46,47,48,49,50,51,52,53,54,55,56,57,58,59,60,61,62,63,64,65,66,67,68,69,70,71,72,73,74,75,76,77,78,79,80,81,82,83,84,85,86,87,88,89,90,91,92,93,94,95,96,97,98,99,100,101,102,103,104,105,106,107,108,109,110,111,112,113,114,115,116,117,118,119,120,121,122,123,124,125,126]
theorem qJs:SGN.length=94:=rfl
theorem qPK:∀ c∈SGN,okC c=true:=by decide
theorem qLS (i:Int):∃ c,okC c=true∧((ixN 94 (i % 94)).bind fun j=>SGN[j]?)=some c:=by
 have h1:=Int.emod_nonneg i (show (94:Int)≠0 by omega)
 have h2:=Int.emod_lt_of_pos i (show (0:Int)<94 by omega)
 obtain ⟨k,hk,hk2⟩:∃ k:Nat,i % 94=(k:Int)∧k<94:=⟨(i % 94).toNat,by omega,by omega⟩
 have hk3:k<SGN.length:=hk2
 refine ⟨SGN[k],qPK _ (List.getElem_mem hk3),?_⟩
 rw [hk,qAb hk2,Option.bind_some,List.getElem?_eq_getElem hk3]
theorem qB3 (f:D→M (Option D)) (h:AH):∀ xs:List D,(∀ x∈xs,∃ c,okC c=true∧f x h=.ok (some (.str [c])) h)→∃ y:Tx,qA4 f xs h=.ok (y.map fun c=>.str [c]) h∧y.length=xs.length∧y.all okC=true
 | [],_=>⟨[],rfl,rfl,rfl⟩
 | x::xs,H=>by
  obtain ⟨c,h1,h2⟩:=H x (List.mem_cons_self ..)
  obtain ⟨y,e1,e2,e3⟩:=qB3 f h xs fun z hz=>H z (List.mem_cons_of_mem _ hz)
  refine ⟨c::y,?_,by simp [e2],by rw [List.all_cons,h1,e3];rfl⟩
  show ((f x).bind fun y=>(qA4 f xs).bind fun ys=>M.ret (match y with | some y=>y::ys | none=>ys)) h=_
  simp only [M.bind_eq,h2,R.bind_ok,e1,M.ret_eq]
  rfl
theorem qC3:∀ y:Tx,qAs (y.map fun c=>.str [c])=some (y.map fun c=>[c])
 | []=>rfl
 | c::y=>by
  show (qAs (y.map fun c=>.str [c])).map ([c]::·)=_
  rw [qC3 y]
  rfl
theorem qC6:∀ y:Tx,joinT [] (y.map fun c=>[c])=y
 | []=>rfl
 | [c]=>rfl
 | c::d::y=>by
  have:=qC6 (d::y)
  show [c]++[]++joinT [] ((d::y).map fun c=>[c])=_
  rw [this]
  rfl
theorem qDx (y:Tx) (hy:y.length≤1000):joinN [] (y.map fun c=>[c])≤16777216:=by
 unfold joinN
 rw [List.map_map,List.length_map,show (List.length ∘ fun (c:Nat)=>[c])=fun _=>1 from rfl,List.map_const',List.sum_replicate_nat]
 simp only [List.length_nil,Nat.mul_zero]
 omega
theorem qGT (B n:Nat) (h:AH) (x:Int) (k:Nat) (hk:1≤k∧k≤400):∃ y g,callN fns B (n+1) qGa [.int x,.int k] h=.ok (.str y) (h++g)∧okT y∧y.length=k:=by
 rw [qGj]
 have hs:qAE (k:Int):=by unfold qAE;omega
 have f3:(0:Int)<3∧(3:Int)<1073741824:=⟨by omega,by omega⟩
 have f282:(0:Int)<282∧(282:Int)<1073741824:=⟨by omega,by omega⟩
 have hSG:D.str [32,33,34,35,36,38,39,40,41,42,43,44,45,46,47,48,49,50,51,52,53,54,55,56,57,58,59,60,61,62,63,64,65,66,67,68,69,70,71,72,73,74,75,76,77,78,79,80,81,82,83,84,85,86,87,88,89,90,91,92,93,94,95,96,97,98,99,100,101,102,103,104,105,106,107,108,109,110,111,112,113,114,115,116,117,118,119,120,121,122,123,124,125,126]=D.str SGN:=rfl
 obtain ⟨y1,e1,e2,e3⟩:=qB3 (compF (den (callN fns B n) qBt) [some (.int x),some (.int k),some (.str SGN)]) h (qAK 0 k) (fun z hz=>by
  unfold qAK at hz
  obtain ⟨j,_,rfl⟩:=List.mem_map.mp hz
  obtain ⟨c,hc1,hc2⟩:=qLS (x / 3)
  refine ⟨c,hc1,?_⟩
  unfold compF
  simp! only [List.cons_append,List.nil_append,qBt,if_pos f3,qJs,if_pos (show 94≤16777216 by omega),hc2])
 obtain ⟨y2,u1,u2,u3⟩:=qB3 (compF (den (callN fns B n) qBs) [some (.int x),some (.int k),some (.str SGN)]) h (qAK 0 k) (fun z hz=>by
  unfold qAK at hz
  obtain ⟨j,hj,rfl⟩:=List.mem_map.mp hz
  have hj:=List.mem_range.mp hj
  obtain ⟨c,hc1,hc2⟩:=qLS (x / 3+(0+(j:Int))*(1+x / 282 % 93))
  refine ⟨c,hc1,?_⟩
  unfold compF
  simp! only [List.cons_append,List.nil_append,qBs,if_pos f3,if_pos f282,if_pos (qGN (i:=0+(j:Int)) (j:=1+x / 282 % 93) (by omega)),qJs,if_pos (show 94≤16777216 by omega),hc2])
 rw [qAe] at e2 u2
 cases q:(x % 3 == 0) with
 | true =>
  refine ⟨y1,[.lst (y1.map fun c=>.str [c])],?_,⟨e3,by omega,by omega⟩,e2⟩
  simp only [qBW,denS,den,denT,denI,denL,M.bind_eq,M.ret_eq,R.bind_ok,qFf,tgSet,qA6,List.getElem?_cons_zero,List.getElem?_cons_succ,List.set_cons_zero,List.set_cons_succ,hSG]
  simp! only [q,if_pos hs,Int.toNat_natCast,qAe,if_pos (show k<16777216 by omega),e1,List.length_map,e2,if_pos (show k≤16777216 by omega),qAM,qHM,Option.bind_some,qC3,if_pos (qDx y1 (by omega)),qC6]
 | false =>
  refine ⟨y2,[.lst (y2.map fun c=>.str [c])],?_,⟨u3,by omega,by omega⟩,u2⟩
  simp only [qBW,denS,den,denT,denI,denL,M.bind_eq,M.ret_eq,R.bind_ok,qFf,tgSet,qA6,List.getElem?_cons_zero,List.getElem?_cons_succ,List.set_cons_zero,List.set_cons_succ,hSG]
  simp! only [q,qCy,if_pos hs,Int.toNat_natCast,qAe,if_pos (show k<16777216 by omega),u1,List.length_map,u2,if_pos (show k≤16777216 by omega),qAM,qHM,Option.bind_some,qC3,if_pos (qDx y2 (by omega)),qC6]
theorem qKU (B n:Nat) (h:AH):callN fns B (n+1) qGc [.ref h.length] (h++[.ins qAX []])=.ok .non (h++[.ins qAX (rd (h.length+1) (h.length+2) 0),.lst [],.lst []]):=by
 rw [qGl]
 simp! only [qBz,qAI,qGg,qEo,List.length_nil,List.length_cons,show 0<1000 by omega,if_pos (show 0≤16777216 by omega),List.append_assoc,List.length_append]
 rfl
noncomputable def lgOk (lg:List D):Prop:=∀ d∈lg,∀ h,eqD h 39 d d=some true
theorem lg_eq {lg:List D} (hl:lgOk lg) (h:AH):eqW (eqD h 39) lg lg=some true:=by
 induction lg with
 | nil=>rfl
 | cons d r ih =>
  show (match eqD h 39 d d,eqW (eqD h 39) r r with | some a,some b=>some (a&&b) | _,_=>none)=some true
  rw [hl d (List.mem_cons_self ..) h,ih fun z hz=>hl z (List.mem_cons_of_mem _ hz)]
  rfl
theorem qPM {lg:List D} (hl:lgOk lg) {d:D} (hd:∀ h,eqD h 39 d d=some true):lgOk (lg++[d]):=fun z hz=>by
 rcases List.mem_append.mp hz with q | q
 ·exact hl z q
 ·rw [List.mem_singleton.mp q];exact hd
theorem qGd (a y:Tx) (N i:Int) (h:AH):eqD h 39 (.tup [.str a,.int N,.int i,.str y]) (.tup [.str a,.int N,.int i,.str y])=some true:=by
 rw [show eqD h 39 (.tup [.str a,.int N,.int i,.str y]) (.tup [.str a,.int N,.int i,.str y])=some ((a == a)&&((N == N)&&((i == i)&&((y == y)&&true)))) from rfl,BEq.rfl,BEq.rfl,BEq.rfl,BEq.rfl]
 rfl
theorem qKd (a y:Tx) (N:Int) (h:AH):eqD h 39 (.tup [.str a,.int N,.str y]) (.tup [.str a,.int N,.str y])=some true:=by
 rw [show eqD h 39 (.tup [.str a,.int N,.str y]) (.tup [.str a,.int N,.str y])=some ((a == a)&&((N == N)&&((y == y)&&true))) from rfl,BEq.rfl,BEq.rfl,BEq.rfl]
 rfl
theorem fl_ok (ws:List Pc):lgOk (flD ws):=fun d hd h=>by
 unfold flD at hd
 obtain ⟨p,_,rfl⟩:=List.mem_map.mp hd
 rw [show eqD h 39 (.tup [.int p.1,.int p.2.1]) (.tup [.int p.1,.int p.2.1])=some (((p.1:Int) == (p.1:Int))&&(((p.2.1:Int) == (p.2.1:Int))&&true)) from rfl,BEq.rfl,BEq.rfl]
 rfl
theorem ne_s1:(([99,97,114,114,121]:Tx) == [115,101,110,100])=false:=rfl
theorem ne_s2:(([108,111,115,101]:Tx) == [115,101,110,100])=false:=rfl
theorem ne_s3:(([100,111,117,98,108,101]:Tx) == [115,101,110,100])=false:=rfl
theorem ne_s4:(([116,117,114,110]:Tx) == [115,101,110,100])=false:=rfl
theorem ne_s5:(([115,112,111,105,108]:Tx) == [115,101,110,100])=false:=rfl
theorem ne_c2:(([108,111,115,101]:Tx) == [99,97,114,114,121])=false:=rfl
theorem ne_c3:(([100,111,117,98,108,101]:Tx) == [99,97,114,114,121])=false:=rfl
theorem ne_c4:(([116,117,114,110]:Tx) == [99,97,114,114,121])=false:=rfl
theorem ne_c5:(([115,112,111,105,108]:Tx) == [99,97,114,114,121])=false:=rfl
theorem ne_l3:(([100,111,117,98,108,101]:Tx) == [108,111,115,101])=false:=rfl
theorem ne_l4:(([116,117,114,110]:Tx) == [108,111,115,101])=false:=rfl
theorem ne_l5:(([115,112,111,105,108]:Tx) == [108,111,115,101])=false:=rfl
theorem ne_d4:(([116,117,114,110]:Tx) == [100,111,117,98,108,101])=false:=rfl
theorem ne_d5:(([115,112,111,105,108]:Tx) == [100,111,117,98,108,101])=false:=rfl
theorem ne_t5:(([115,112,111,105,108]:Tx) == [116,117,114,110])=false:=rfl
theorem t2_0 (a b:D):((ixN 2 0).bind fun j=>[a,b][j]?)=some a:=rfl
theorem t2_1 (a b:D):((ixN 2 1).bind fun j=>[a,b][j]?)=some b:=rfl
theorem t3_0 (a b c:D):((ixN 3 0).bind fun j=>[a,b,c][j]?)=some a:=rfl
theorem t3_1 (a b c:D):((ixN 3 1).bind fun j=>[a,b,c][j]?)=some b:=rfl
theorem t3_2 (a b c:D):((ixN 3 2).bind fun j=>[a,b,c][j]?)=some c:=rfl
theorem t4_3 (a b c d:D):((ixN 4 3).bind fun j=>[a,b,c,d][j]?)=some d:=rfl
noncomputable def Fr (M:List Nat) (G G':AH):Prop:=G.length≤G'.length∧∀ (i:Nat) (o:O),i∉M→G[i]?=some o→G'[i]?=some o
theorem Fr.refl (M:List Nat) (G:AH):Fr M G G:=⟨Nat.le_refl _,fun _ _ _ e=>e⟩
theorem Fr.trans {M:List Nat} {a b c:AH} (x:Fr M a b) (y:Fr M b c):Fr M a c:=⟨Nat.le_trans x.1 y.1,fun i o n e=>y.2 i o n (x.2 i o n e)⟩
theorem Fr.app (M:List Nat) (G g:AH):Fr M G (G++g):=⟨by rw [List.length_append];omega,fun _ _ _ e=>qAQ g e⟩
theorem Fr.set {M:List Nat} {i:Nat} (h:i∈M) (G:AH) (o:O):Fr M G (G.set i o):=⟨by rw [List.length_set];exact Nat.le_refl _,fun j _ n e=>by
 rw [List.getElem?_set_ne (fun z=>n (by rw [← z];exact h)),e]⟩
theorem Fr.of {A L R:Nat} {G g:AH} (hl:G.length≤g.length) (h:∀ k,k≠A→k≠L→k≠R→k<G.length→g[k]?=G[k]?):Fr [R,A,L] G g:=⟨hl,fun i o n e=>by
 simp only [List.mem_cons,List.not_mem_nil,or_false,not_or] at n
 rw [h i n.2.1 n.2.2 n.1 (List.getElem?_eq_some_iff.mp e).1,e]⟩
theorem Fr.mono {M M':List Nat} {G g:AH} (x:Fr M G g) (h:∀ i∈M,i∈M'):Fr M' G g:=⟨x.1,fun i o n e=>x.2 i o (fun z=>n (h i z)) e⟩
theorem pcx0 (p:Pc) (h:AH):biD .ix (pcD p) (.int 0) h=.ok (.int p.1) h:=rfl
theorem pcx1 (p:Pc) (h:AH):biD .ix (pcD p) (.int 1) h=.ok (.int p.2.1) h:=rfl
theorem pcx2 (p:Pc) (h:AH):biD .ix (pcD p) (.int 2) h=.ok (.str p.2.2.1) h:=rfl
theorem pcx3 (p:Pc) (h:AH):biD .ix (pcD p) (.int 3) h=.ok (.bl p.2.2.2) h:=rfl
section
variable {B n:Nat} {G:AH} {R A L N:Nat} {ws:List Pc} {lg:List D}
theorem Rd.nAR (I:Rd G R A L ws lg N):A≠R:=fun z=>by have:=I.r;rw [← z,I.a] at this;cases this
theorem Rd.nLR (I:Rd G R A L ws lg N):L≠R:=fun z=>by have:=I.r;rw [← z,I.l] at this;cases this
theorem Rd.two (I:Rd G R A L ws lg N) (ws':List Pc) (lg':List D) (h1:ws'.length≤200) (h2:lg'.length≤5000):Rd ((G.set A (.lst (ws'.map pcD))).set L (.lst lg')) R A L ws' lg' N∧Fr [R,A,L] G ((G.set A (.lst (ws'.map pcD))).set L (.lst lg')):=by
 have hA:=(List.getElem?_eq_some_iff.mp I.a).1
 have hL:=(List.getElem?_eq_some_iff.mp I.l).1
 refine ⟨⟨?_,?_,?_,I.al,h1,h2⟩,(Fr.set (by simp) _ _).trans (Fr.set (by simp) _ _)⟩
 ·rw [List.getElem?_set_ne I.nLR,List.getElem?_set_ne I.nAR];exact I.r
 ·rw [List.getElem?_set_ne I.al.symm,List.getElem?_set_self hA]
 ·rw [List.getElem?_set_self (by rw [List.length_set];exact hL)]
theorem Rd.one (I:Rd G R A L ws lg N) (ws':List Pc):(G.set A (.lst (ws'.map pcD)))[R]?=some (.ins qAX (rd A L N))∧(G.set A (.lst (ws'.map pcD)))[L]?=some (.lst lg)∧(G.set A (.lst (ws'.map pcD)))[A]?=some (.lst (ws'.map pcD)) :=
 ⟨by rw [List.getElem?_set_ne I.nAR];exact I.r,by rw [List.getElem?_set_ne I.al];exact I.l,List.getElem?_set_self (List.getElem?_eq_some_iff.mp I.a).1⟩
theorem qOy (ws:List Pc) (i:Nat):(ws.map pcD).eraseIdx i=(ws.eraseIdx i).map pcD:=by
 rw [List.eraseIdx_eq_take_drop_succ,List.eraseIdx_eq_take_drop_succ,List.map_append,List.map_take,List.map_drop]
theorem qJP (ws:List Pc) (i:Nat):(ws.eraseIdx i).length≤ws.length:=by
 rw [List.eraseIdx_eq_take_drop_succ,List.length_append,List.length_take,List.length_drop];omega
theorem qI3 (I:Rd G R A L ws lg N) {i:Nat} {p:Pc} (hi:ws[i]?=some p):lpopK A (i:Int) G=.ok (pcD p) (G.set A (.lst ((ws.eraseIdx i).map pcD))):=by
 have hl:=(List.getElem?_eq_some_iff.mp hi).1
 have e:(ws.map pcD)[i]?=some (pcD p):=by rw [List.getElem?_map,hi];rfl
 have hb:=I.bw
 unfold lpopK
 rw [I.a]
 simp only [List.length_map,if_pos (show ws.length≤16777216 by omega),qAb hl,e,qOy]
theorem qHr (I:Rd G R A L ws lg N) (i:Nat) (p:Pc) (hi:ws[i]?=some p) (hl:lg.length<5000) :
    ∃ g,callN fns B (n+3) qDE [.ref R,.int i] G=.ok (.tup [.int p.2.1,.str p.2.2.1]) g∧Rd g R A L (ws.eraseIdx i) (lg++[.tup [.str [99,97,114,114,121],.int p.1,.int p.2.1,.str p.2.2.1]]) N∧Fr [R,A,L] G g:=by
  rw [qDF]
  have t:=qBe (B:=B) (n:=n) I i p hi
  have lp:=qI3 I hi
  obtain ⟨r1,r2,_⟩:=I.one (ws.eraseIdx i)
  obtain ⟨J,F⟩:=I.two (ws.eraseIdx i) (lg++[.tup [.str [99,97,114,114,121],.int p.1,.int p.2.1,.str p.2.2.1]]) (Nat.le_trans (qJP ws i) I.bw) (by simp;omega)
  refine ⟨_,?_,J,F⟩
  simp! only [qBH,I.r,n_at,tb_at,t,g_way,qAA I.a,lp,pcx0,pcx1,pcx2,r1,g_dn,qAA r2,r2,if_pos (show lg.length<16777216 by omega),if_pos (show 4≤16777216 by omega),if_pos (show 2≤16777216 by omega)]
theorem qIz (I:Rd G R A L ws lg N) (i:Nat) (p:Pc) (hi:ws[i]?=some p) (hl:lg.length<5000) :
    ∃ g,callN fns B (n+3) qD2 [.ref R,.int i] G=.ok .non g∧Rd g R A L (ws.eraseIdx i) (lg++[.tup [.str [108,111,115,101],.int p.1]]) N∧Fr [R,A,L] G g:=by
  rw [qD8]
  have t:=qBe (B:=B) (n:=n) I i p hi
  have lp:=qI3 I hi
  obtain ⟨r1,r2,_⟩:=I.one (ws.eraseIdx i)
  obtain ⟨J,F⟩:=I.two (ws.eraseIdx i) (lg++[.tup [.str [108,111,115,101],.int p.1]]) (Nat.le_trans (qJP ws i) I.bw) (by simp;omega)
  refine ⟨_,?_,J,F⟩
  simp! only [qBX,I.r,n_at,tb_at,t,g_way,qAA I.a,lp,pcx0,r1,g_dn,qAA r2,r2,if_pos (show lg.length<16777216 by omega),if_pos (show 2≤16777216 by omega)]
theorem qIv (I:Rd G R A L ws lg N) (i j:Nat) (p q:Pc) (hi:ws[i]?=some p) (hj:ws[j]?=some q) (hl:lg.length<5000) :
    ∃ g,callN fns B (n+3) qCe [.ref R,.int i,.int j] G=.ok .non g∧Rd g R A L ((ws.set i q).set j p) (lg++[.tup [.str [116,117,114,110],.int p.1,.int q.1]]) N∧Fr [R,A,L] G g:=by
  rw [qCf]
  have t1:=qBe (B:=B) (n:=n) I i p hi
  have t2:=qBe (B:=B) (n:=n) I j q hj
  have il:=(List.getElem?_eq_some_iff.mp hi).1
  have jl:=(List.getElem?_eq_some_iff.mp hj).1
  obtain ⟨r1,r2,r3⟩:=I.one (ws.set i q)
  obtain ⟨r4,r5,r6⟩:=I.one ((ws.set i q).set j p)
  obtain ⟨J,F⟩:=I.two ((ws.set i q).set j p) (lg++[.tup [.str [116,117,114,110],.int p.1,.int q.1]]) (by simp;exact I.bw) (by simp;omega)
  have s1:(ws.map pcD).set i (pcD q)=(ws.set i q).map pcD:=by rw [List.map_set]
  have s2:((ws.set i q).map pcD).set j (pcD p)=((ws.set i q).set j p).map pcD:=by simp only [List.map_set]
  have i1:ixN ws.length (i:Int)=some i:=qAb il
  have i2:ixN (ws.set i q).length (j:Int)=some j:=qAb (by rw [List.length_set];exact jl)
  refine ⟨_,?_,J,F⟩
  simp! only [qA5,I.r,n_at,tb_at,t1,t2,g_way,I.a,List.length_map,i1,s1,r1,r3,i2,s2,List.set_set,r4,g_dn,qAA r5,r5,pcx0,if_pos (show 3≤16777216 by omega),if_pos (show lg.length<16777216 by omega)]
noncomputable def Inj (ws:List Pc):Prop:=∀ (i j:Nat) (p q:Pc),ws[i]?=some p→ws[j]?=some q→p.1=q.1→i=j
noncomputable def txOf (k:Int):List Pc→D
 | []=>.non
 | p::r=>if p.1=k then .str p.2.2.1 else txOf k r
theorem qHa (I:Rd G R A L ws lg N) (x:Int):∀ (m k:Nat) (s2:Option D),ws.length-k<m→k≤ws.length→SR.andThen (qAH (qAL (TG.nm 2) (denS (callN fns B n) B qAZ)) A m k [some (.ref R),some (.int x),s2] G) (denS (callN fns B n) B qBJ)=.rt (txOf x (ws.drop k)) G:=by
 intro m
 induction m with
 | zero=>intro k s2 h1;omega
 | succ m ih =>
  intro k s2 h1 h2
  unfold qAH
  rw [qAA I.a]
  by_cases hk:k<ws.length
  ·have e:(ws.map pcD)[k]?=some (pcD ws[k]):=by rw [List.getElem?_map,List.getElem?_eq_getElem hk];rfl
   simp only [e]
   rw [qAT,List.drop_eq_getElem_cons hk]
   have r:=ih (k+1) (some (pcD ws[k])) (by omega) (by omega)
   generalize qAH (qAL (TG.nm 2) (denS (callN fns B n) B qAZ)) A m (k+1)=LP at r ⊢
   unfold txOf
   by_cases c:ws[k].1=x
   ·have cb:(ws[k].1 == x)=true:=by simpa using c
    rw [if_pos c]
    unfold pcD
    simp! only [qAZ,qId,qN3,cb]
   ·have cb:(ws[k].1 == x)=false:=by simpa using c
    rw [if_neg c]
    unfold pcD at r ⊢
    simp! only [qAZ,qId,cb]
    exact r
  ·have e:(ws.map pcD)[k]?=none:=by rw [List.getElem?_map,List.getElem?_eq_none (by omega)];rfl
   rw [List.drop_eq_nil_of_le (by omega)]
   simp! only [e,qBJ]
   rfl
theorem qC5 (I:Rd G R A L ws lg N) (x:Int):callN fns B (n+1) qEM [.ref R,.int x] G=.ok (txOf x ws) G:=by
 rw [qEO]
 have ga:=qAA I.a
 have t:=qHa (B:=B) (n:=n) I x (liveN G A) 0 none (by unfold liveN;rw [ga];simp) (Nat.zero_le _)
 rw [List.drop_zero] at t
 simp! only [qA9,I.r,g_way,ga,t]
end
section
variable {B n:Nat} {G:AH} {R A L N:Nat} {ws:List Pc} {lg:List D}
noncomputable def pushW (ws:List Pc) (q:Pc):List Pc:=if 200≤ws.length then ws else ws++[q]
noncomputable def fullD (ws:List Pc) (N i:Nat) (y:Tx):List D:=if 200≤ws.length then [.tup [.str [102,117,108,108],.int N,.int i,.str y]] else []
theorem qFT {ws:List Pc} {q:Pc} (h:ws.length≤200):(pushW ws q).length≤200∧ws.length≤(pushW ws q).length:=by
 unfold pushW
 split
 ·exact ⟨h,Nat.le_refl _⟩
 ·rw [List.length_append,List.length_singleton];omega
theorem qOu (ws:List Pc) (N i:Nat) (y:Tx):(fullD ws N i y).length≤1:=by unfold fullD;split <;> simp
theorem Rd.log (I:Rd G R A L ws lg N) (lg':List D) (h:lg'.length≤5000):Rd (G.set L (.lst lg')) R A L ws lg' N∧Fr [R,A,L] G (G.set L (.lst lg')) :=
 ⟨⟨by rw [List.getElem?_set_ne I.nLR];exact I.r,by rw [List.getElem?_set_ne I.al.symm];exact I.a,List.getElem?_set_self (List.getElem?_eq_some_iff.mp I.l).1,I.al,I.bw,h⟩,Fr.set (by simp) _ _⟩
theorem Rd.num (I:Rd G R A L ws lg N) (M:Nat):Rd (G.set R (.ins qAX (rd A L M))) R A L ws lg M∧Fr [R,A,L] G (G.set R (.ins qAX (rd A L M))) :=
 ⟨⟨List.getElem?_set_self (List.getElem?_eq_some_iff.mp I.r).1,by rw [List.getElem?_set_ne I.nAR.symm];exact I.a,by rw [List.getElem?_set_ne I.nLR.symm];exact I.l,I.al,I.bw,I.bl⟩,Fr.set (by simp) _ _⟩
theorem Rd.row (I:Rd G R A L ws lg N) (ws':List Pc) (h:ws'.length≤200):Rd (G.set A (.lst (ws'.map pcD))) R A L ws' lg N∧Fr [R,A,L] G (G.set A (.lst (ws'.map pcD))) :=
 ⟨⟨by rw [List.getElem?_set_ne I.nAR];exact I.r,List.getElem?_set_self (List.getElem?_eq_some_iff.mp I.a).1,by rw [List.getElem?_set_ne I.al];exact I.l,I.al,h,I.bl⟩,Fr.set (by simp) _ _⟩
theorem qE1 (I:Rd G R A L ws lg N) (i:Nat) (y:Tx) (s:Bool) (hl:lg.length<4990) :
    ∃ g,callN fns B (n+2) qE7 [.ref R,.int i,.str y,.bl s] G=.ok .non g∧Rd g R A L (pushW ws (N,i,y,s)) (lg++fullD ws N i y) (N+1)∧Fr [R,A,L] G g:=by
  rw [qFF]
  obtain ⟨I1,F1⟩:=I.num (N+1)
  have en:(N:Int)+1=((N+1:Nat):Int):=by omega
  generalize hG1:G.set R (O.ins qAX (rd A L ((N+1:Nat):Int)))=G1 at I1 F1
  have f1:=qLD (B:=B) (n:=n) I1
  have hb:=I.bw
  by_cases c:200≤ws.length
  · have eL:lg++fullD ws N i y=lg++[.tup [.str [102,117,108,108],.int N,.int i,.str y]]:=by unfold fullD;rw [if_pos c]
    obtain ⟨I2,F2⟩:=I1.log (lg++fullD ws N i y) (by rw [eL];simp;omega)
    refine ⟨_,?_,by unfold pushW;rw [if_pos c];exact I2,F1.trans F2⟩
    rw [eL]
    simp! only [qA2,I.r,g_nn,qGg,g_len,show 3<1000 by omega,p_nn,en,hG1,I1.r,qHH,qEm,f1,c,qCL,g_dn,qAA I1.l,I1.l,if_pos (show 4≤16777216 by omega),if_pos (show lg.length<16777216 by omega)]
  · have eL:lg++fullD ws N i y=lg:=by unfold fullD;rw [if_neg c,List.append_nil]
    have eW:pushW ws (N,i,y,s)=ws++[(N,i,y,s)]:=by unfold pushW;rw [if_neg c]
    obtain ⟨I2,F2⟩:=I1.row (pushW ws (N,i,y,s)) (qFT hb).1
    refine ⟨_,?_,by rw [eL];exact I2,F1.trans F2⟩
    have em:ws.map pcD++[.tup [.int N,.int i,.str y,.bl s]]=(pushW ws (N,i,y,s)).map pcD:=by rw [eW,List.map_append];rfl
    simp! only [qA2,I.r,g_nn,qGg,g_len,show 3<1000 by omega,p_nn,en,hG1,I1.r,qHH,qEm,f1,c,qCK,g_way,qAA I1.a,I1.a,List.length_map,if_pos (show 4≤16777216 by omega),if_pos (show ws.length<16777216 by omega),em]
noncomputable def sentD (ws:List Pc) (N i:Nat) (y:Tx):D:=.tup [.str (if 200≤ws.length then [102,117,108,108] else [115,101,110,100]),.int N,.int i,.str y]
theorem qIw (I:Rd G R A L ws lg N) (i:Nat) (hi:i<2) (y:Tx) (hy:y.length≤1000) (ht:txOk y=true) (hl:lg.length<4980) :
    ∃ g,callN fns B (n+5) qBq [.ref R,.int i,.str y] G=.ok (.int N) g∧Rd g R A L (pushW ws (N,i,y,false)) (lg++[sentD ws N i y]) (N+1)∧Fr [R,A,L] G g:=by
  rw [qCg]
  have t:=qCp B (n+3) 2 i G hi
  have e:((2:Nat):Int)-1=1:=rfl
  rw [e] at t
  have t2:=qIx (B:=B) (n:=n+1) G y hy
  rw [ht] at t2
  have I1:=I.app [.lst (y.map fun c=>.bl (okC c))]
  have F1:Fr [R,A,L] G (G++[.lst (y.map fun c=>.bl (okC c))]):=Fr.app _ _ _
  generalize hG1:G++[O.lst (y.map fun c=>.bl (okC c))]=G1 at t2 I1 F1
  have f1:=qLD (B:=B) (n:=n+3) I1
  by_cases c:200≤ws.length
  · obtain ⟨g,e1,I2,F2⟩:=qE1 (B:=B) (n:=n+2) I1 i y false (by omega)
    have eL:lg++fullD ws N i y=lg++[sentD ws N i y]:=by unfold fullD sentD;rw [if_pos c,if_pos c]
    rw [eL] at I2
    refine ⟨g,?_,I2,F1.trans F2⟩
    simp! only [qAv,t,t2,qBx,I1.r,g_nn,qHH,qEm,f1,c,qBy,n_put,qII,e1]
  · have es:sentD ws N i y=.tup [.str [115,101,110,100],.int N,.int i,.str y]:=by unfold sentD;rw [if_neg c]
    obtain ⟨I2,F2⟩:=I1.log (lg++[sentD ws N i y]) (by simp;omega)
    generalize hG2:G1.set L (O.lst (lg++[sentD ws N i y]))=G2 at I2 F2
    obtain ⟨g,e1,I3,F3⟩:=qE1 (B:=B) (n:=n+2) I2 i y false (by simp;omega)
    have eL:lg++[sentD ws N i y]++fullD ws N i y=lg++[sentD ws N i y]:=by unfold fullD;rw [if_neg c,List.append_nil]
    rw [eL] at I3
    refine ⟨g,?_,I3,(F1.trans F2).trans F3⟩
    rw [es] at hG2
    simp! only [qAv,t,t2,qBx,I1.r,g_nn,qHH,qEm,f1,c,qC2,g_dn,qAA I1.l,I1.l,if_pos (show 4≤16777216 by omega),if_pos (show lg.length<16777216 by omega),hG2,qBy,I2.r,n_put,qII,e1]
theorem qGU (I:Rd G R A L ws lg N) (i:Nat) (p:Pc) (hi:ws[i]?=some p) (hl:lg.length<4980) :
    ∃ g,callN fns B (n+4) qCr [.ref R,.int i] G=.ok (.int N) g∧Rd g R A L (pushW ws (N,p.2.1,p.2.2.1,p.2.2.2)) (lg++[.tup [.str [100,111,117,98,108,101],.int p.1,.int N]]++fullD ws N p.2.1 p.2.2.1) (N+1)∧Fr [R,A,L] G g:=by
  rw [qCu]
  have t:=qBe (B:=B) (n:=n+1) I i p hi
  obtain ⟨I2,F2⟩:=I.log (lg++[.tup [.str [100,111,117,98,108,101],.int p.1,.int N]]) (by simp;omega)
  generalize hG2:G.set L (O.lst (lg++[.tup [.str [100,111,117,98,108,101],.int p.1,.int N]]))=G2 at I2 F2
  obtain ⟨g,e1,I3,F3⟩:=qE1 (B:=B) (n:=n+1) I2 p.2.1 p.2.2.1 p.2.2.2 (by simp;omega)
  refine ⟨g,?_,I3,F2.trans F3⟩
  simp! only [qA3,I.r,n_at,tb_at,t,g_nn,g_dn,qAA I.l,pcx0,if_pos (show 3≤16777216 by omega),I.l,if_pos (show lg.length<16777216 by omega),hG2,I2.r,n_put,qII,pcx1,pcx2,pcx3,e1]
end
noncomputable def ow (ro lo:Nat) (N:Int):List (Ky × D):=[(.str [114,111,119],.ref ro),(.str [108,111,103],.ref lo),(.str [103,105,118,101,110],.int N)]
structure Ow (G:AH) (O ro lo:Nat) (ws:List Pc) (lg:List D) (N:Nat):Prop where
 od:G[O]?=some (.dct (ow ro lo N))
 row:G[ro]?=some (.lst (ws.map pcD))
 log:G[lo]?=some (.lst lg)
 ne:ro≠lo
 bw:ws.length≤200
 bl:lg.length≤5000
section
variable {B n:Nat} {G:AH} {O ro lo N:Nat} {ws:List Pc} {lg:List D}
theorem Ow.xr (I:Ow G O ro lo ws lg N):ixK O (.str [114,111,119]) G=.ok (.ref ro) G:=by unfold ixK;rw [I.od];rfl
theorem Ow.xl (I:Ow G O ro lo ws lg N):ixK O (.str [108,111,103]) G=.ok (.ref lo) G:=by unfold ixK;rw [I.od];rfl
theorem Ow.xg (I:Ow G O ro lo ws lg N):ixK O (.str [103,105,118,101,110]) G=.ok (.int N) G:=by unfold ixK;rw [I.od];rfl
theorem Ow.sg (I:Ow G O ro lo ws lg N) (M:Int):putKD (.int M) O (.str [103,105,118,101,110]) G=.ok () (G.set O (.dct (ow ro lo M))):=by unfold putKD;rw [I.od];rfl
theorem Ow.sr (I:Ow G O ro lo ws lg N) (r:Nat):putKD (.ref r) O (.str [114,111,119]) G=.ok () (G.set O (.dct (ow r lo N))):=by unfold putKD;rw [I.od];rfl
theorem Ow.app (I:Ow G O ro lo ws lg N) (g:AH):Ow (G++g) O ro lo ws lg N:=⟨qAQ g I.od,qAQ g I.row,qAQ g I.log,I.ne,I.bw,I.bl⟩
theorem Ow.nOr (I:Ow G O ro lo ws lg N):O≠ro:=fun z=>by have:=I.row;rw [← z,I.od] at this;cases this
theorem Ow.nOl (I:Ow G O ro lo ws lg N):O≠lo:=fun z=>by have:=I.log;rw [← z,I.od] at this;cases this
theorem Ow.setl (I:Ow G O ro lo ws lg N) (d:D) (hl:lg.length<5000):Ow (G.set lo (.lst (lg++[d]))) O ro lo ws (lg++[d]) N :=
 ⟨by rw [List.getElem?_set_ne I.nOl.symm];exact I.od,by rw [List.getElem?_set_ne I.ne.symm];exact I.row,List.getElem?_set_self (List.getElem?_eq_some_iff.mp I.log).1,I.ne,I.bw,by simp;omega⟩
theorem Ow.setr (I:Ow G O ro lo ws lg N) (ws':List Pc) (hl:ws'.length≤200):Ow (G.set ro (.lst (ws'.map pcD))) O ro lo ws' lg N :=
 ⟨by rw [List.getElem?_set_ne I.nOr.symm];exact I.od,List.getElem?_set_self (List.getElem?_eq_some_iff.mp I.row).1,by rw [List.getElem?_set_ne I.ne];exact I.log,I.ne,hl,I.bl⟩
theorem Ow.setn (I:Ow G O ro lo ws lg N) (M:Nat):Ow (G.set O (.dct (ow ro lo M))) O ro lo ws lg M :=
 ⟨List.getElem?_set_self (List.getElem?_eq_some_iff.mp I.od).1,by rw [List.getElem?_set_ne I.nOr];exact I.row,by rw [List.getElem?_set_ne I.nOl];exact I.log,I.ne,I.bw,I.bl⟩
theorem qLC (I:Ow G O ro lo ws lg N) (w:Tx) (i:Nat) (y:Tx) (s:Bool) (hl:lg.length<4990) :
    ∃ g,callN fns B (n+1) qJH [.ref O,.str w,.int i,.str y,.bl s] G=.ok (.int N) g∧Ow g O ro lo (pushW ws (N,i,y,s)) (lg++(if 200≤ws.length then [.tup [.str [102,117,108,108],.int N,.int i,.str y]] else if w == [115,101,110,100] then [.tup [.str [115,101,110,100],.int N,.int i,.str y]] else [])) (N+1)∧Fr [O,ro,lo] G g:=by
  rw [qJl]
  have I1:=I.setn (N+1)
  have F1:Fr [O,ro,lo] G (G.set O (.dct (ow ro lo ((N+1:Nat):Int)))):=Fr.set (by simp) _ _
  have sg:=I.sg ((N:Int)+1)
  have en:(N:Int)+1=((N+1:Nat):Int):=by omega
  rw [en] at sg
  generalize G.set O (.dct (ow ro lo ((N+1:Nat):Int)))=G1 at *
  have hb:=I.bw
  have d0:decide ((200:Int)≤(ws.length:Int))=decide (200≤ws.length):=qBT 200 _
  by_cases c:200≤ws.length
  · have I2:=I1.setl (.tup [.str [102,117,108,108],.int N,.int i,.str y]) (by omega)
    refine ⟨_,?_,by unfold pushW;rw [if_pos c,if_pos c];exact I2,F1.trans (Fr.set (by simp) _ _)⟩
    simp! only [qBl,I.xg,en,sg,I1.xr,qAA I1.row,List.length_map,d0,c,qEE,I1.xl,qAA I1.log,I1.log,if_pos (show 4≤16777216 by omega),if_pos (show lg.length<16777216 by omega),qBu]
  · have eW:pushW ws (N,i,y,s)=ws++[(N,i,y,s)]:=by unfold pushW;rw [if_neg c]
    have em:ws.map pcD++[.tup [.int N,.int i,.str y,.bl s]]=(pushW ws (N,i,y,s)).map pcD:=by rw [eW,List.map_append];rfl
    have pl:=(qFT (q:=(N,i,y,s)) hb).1
    cases q:(w == [115,101,110,100]) with
    | true =>
      have I2:=I1.setl (.tup [.str [115,101,110,100],.int N,.int i,.str y]) (by omega)
      have I3:=I2.setr (pushW ws (N,i,y,s)) pl
      refine ⟨_,?_,by rw [if_neg c,if_pos rfl];exact I3,(F1.trans (Fr.set (by simp) _ _)).trans (Fr.set (by simp) _ _)⟩
      simp! only [qBl,I.xg,en,sg,I1.xr,qAA I1.row,List.length_map,d0,c,qCj,q,qED,I1.xl,qAA I1.log,I1.log,if_pos (show 4≤16777216 by omega),if_pos (show lg.length<16777216 by omega),qCk,I2.xr,qAA I2.row,I2.row,if_pos (show ws.length<16777216 by omega),em,qBu]
    | false =>
      have I3:=I1.setr (pushW ws (N,i,y,s)) pl
      refine ⟨_,?_,by rw [if_neg c,if_neg (by decide),List.append_nil];exact I3,F1.trans (Fr.set (by simp) _ _)⟩
      simp! only [qBl,I.xg,en,sg,I1.xr,qAA I1.row,List.length_map,d0,c,qCj,q,if_pos (show 4≤16777216 by omega),qCk,I1.row,if_pos (show ws.length<16777216 by omega),em,qBu]
theorem qMo (I:Ow G O ro lo ws lg N) (i:Nat) (y:Tx) (hl:lg.length<4980) :
    ∃ g,callN fns B (n+2) qAw [.ref O,.tup [.str [115,101,110,100],.int i,.str y]] G=.ok (.int N) g∧Ow g O ro lo (pushW ws (N,i,y,false)) (lg++[sentD ws N i y]) (N+1)∧Fr [O,ro,lo] G g:=by
  rw [qBU]
  obtain ⟨g,e,J,F⟩:=qLC (B:=B) (n:=n) I [115,101,110,100] i y false (by omega)
  have es:(if 200≤ws.length then [D.tup [.str [102,117,108,108],.int N,.int i,.str y]] else if ([115,101,110,100]:Tx) == [115,101,110,100] then [.tup [.str [115,101,110,100],.int N,.int i,.str y]] else [])=[sentD ws N i y]:=by
    unfold sentD
    by_cases c:200≤ws.length
    · rw [if_pos c,if_pos c]
    · rw [if_neg c,if_neg c,if_pos (by decide)]
  rw [es] at J
  refine ⟨g,?_,J,F⟩
  simp! only [qAo,t3_0,t3_1,t3_2,e]
theorem qCS (I:Ow G O ro lo ws lg N) {i:Nat} {p:Pc} (hi:ws[i]?=some p):((getL G ro).bind fun xs=>(ixN xs.length (i:Int)).bind fun j=>xs[j]?)=some (pcD p):=by
 rw [qAA I.row,Option.bind_some,List.length_map,qAb (List.getElem?_eq_some_iff.mp hi).1,Option.bind_some,List.getElem?_map,hi]
 rfl
theorem qJW (I:Ow G O ro lo ws lg N) (i:Nat) (p:Pc) (hi:ws[i]?=some p) (hl:lg.length<4980) :
    ∃ g,callN fns B (n+2) qAw [.ref O,.tup [.str [100,111,117,98,108,101],.int i]] G=.ok (.int N) g∧Ow g O ro lo (pushW ws (N,p.2.1,p.2.2.1,p.2.2.2)) (lg++[.tup [.str [100,111,117,98,108,101],.int p.1,.int N]]++fullD ws N p.2.1 p.2.2.1) (N+1)∧Fr [O,ro,lo] G g:=by
  rw [qBU]
  have ra:=qCS I hi
  have I1:=I.setl (.tup [.str [100,111,117,98,108,101],.int p.1,.int N]) (by omega)
  obtain ⟨g,e,J,F⟩:=qLC (B:=B) (n:=n) I1 [100,111,117,98,108,101] p.2.1 p.2.2.1 p.2.2.2 (by simp;omega)
  have es:(if 200≤ws.length then [D.tup [.str [102,117,108,108],.int N,.int p.2.1,.str p.2.2.1]] else if ([100,111,117,98,108,101]:Tx) == [115,101,110,100] then [.tup [.str [115,101,110,100],.int N,.int p.2.1,.str p.2.2.1]] else [])=fullD ws N p.2.1 p.2.2.1:=by
    unfold fullD
    by_cases c:200≤ws.length
    · rw [if_pos c,if_pos c]
    · rw [if_neg c,if_neg c,if_neg (by decide)]
  rw [es] at J
  refine ⟨g,?_,J,(Fr.set (by simp) _ _).trans F⟩
  simp! only [qAo,t2_0,t2_1,ne_s3,qAy,I.xr,ra,qDQ,I.xl,qAA I.log,pcx0,I.xg,if_pos (show 3≤16777216 by omega),I.log,if_pos (show lg.length<16777216 by omega),pcx1,pcx2,pcx3,e]
end
theorem ne_d2:(([108,111,115,101]:Tx) == [100,111,117,98,108,101])=false:=rfl
theorem ne_d1:(([99,97,114,114,121]:Tx) == [100,111,117,98,108,101])=false:=rfl
theorem ne_t1:(([99,97,114,114,121]:Tx) == [116,117,114,110])=false:=rfl
theorem ne_t2:(([108,111,115,101]:Tx) == [116,117,114,110])=false:=rfl
theorem ne_t3:(([100,111,117,98,108,101]:Tx) == [116,117,114,110])=false:=rfl
theorem ne_t0:(([115,101,110,100]:Tx) == [116,117,114,110])=false:=rfl
theorem ne_p0:(([115,101,110,100]:Tx) == [115,112,111,105,108])=false:=rfl
theorem ne_p1:(([99,97,114,114,121]:Tx) == [115,112,111,105,108])=false:=rfl
theorem ne_p2:(([108,111,115,101]:Tx) == [115,112,111,105,108])=false:=rfl
theorem ne_p3:(([100,111,117,98,108,101]:Tx) == [115,112,111,105,108])=false:=rfl
theorem ne_p4:(([116,117,114,110]:Tx) == [115,112,111,105,108])=false:=rfl
theorem ne_l1:(([99,97,114,114,121]:Tx) == [108,111,115,101])=false:=rfl
section
variable {B n:Nat} {G:AH} {O ro lo N:Nat} {ws:List Pc} {lg:List D}
theorem sw_at {ws:List Pc} {i j:Nat} {p q:Pc} (hi:ws[i]?=some p) (hj:ws[j]?=some q):∃ r,((ws.set i q).set j p)[i]?=some r∧r.1=q.1:=by
 have il:=(List.getElem?_eq_some_iff.mp hi).1
 have jl:=(List.getElem?_eq_some_iff.mp hj).1
 by_cases c:j=i
 ·subst c
  rw [hi] at hj
  cases hj
  exact ⟨p,by rw [List.getElem?_set_self (by rw [List.length_set];exact jl)],rfl⟩
 ·exact ⟨q,by rw [List.getElem?_set_ne c,List.getElem?_set_self il],rfl⟩
theorem qMn (I:Ow G O ro lo ws lg N) (i j:Nat) (p q:Pc) (hi:ws[i]?=some p) (hj:ws[j]?=some q) (hl:lg.length<5000) :
    ∃ g,callN fns B (n+1) qAw [.ref O,.tup [.str [116,117,114,110],.int i,.int j]] G=.ok .non g∧Ow g O ro lo ((ws.set i q).set j p) (lg++[.tup [.str [116,117,114,110],.int p.1,.int q.1]]) N∧Fr [O,ro,lo] G g:=by
  rw [qBU]
  have il:=(List.getElem?_eq_some_iff.mp hi).1
  have jl:=(List.getElem?_eq_some_iff.mp hj).1
  have ra:=qCS I hi
  have rb:=qCS I hj
  have I1:=I.setr (ws.set i q) (by simp;exact I.bw)
  have s1:(ws.map pcD).set i (pcD q)=(ws.set i q).map pcD:=by rw [List.map_set]
  have i1:ixN ws.length (i:Int)=some i:=qAb il
  have F1:Fr [O,ro,lo] G (G.set ro (.lst ((ws.set i q).map pcD))):=Fr.set (by simp) _ _
  generalize hG1:G.set ro (.lst ((ws.set i q).map pcD))=G1 at *
  have I2:=I1.setr ((ws.set i q).set j p) (by simp;exact I.bw)
  have s2:((ws.set i q).map pcD).set j (pcD p)=((ws.set i q).set j p).map pcD:=by simp only [List.map_set]
  have i2:ixN (ws.set i q).length (j:Int)=some j:=qAb (by rw [List.length_set];exact jl)
  have F2:Fr [O,ro,lo] G1 (G1.set ro (.lst (((ws.set i q).set j p).map pcD))):=Fr.set (by simp) _ _
  generalize hG2:G1.set ro (.lst (((ws.set i q).set j p).map pcD))=G2 at *
  obtain ⟨r,hr,hr2⟩:=sw_at hi hj
  have rc:=qCS I2 hr
  have I3:=I2.setl (.tup [.str [116,117,114,110],.int p.1,.int q.1]) hl
  refine ⟨_,?_,I3,(F1.trans F2).trans (Fr.set (by simp) _ _)⟩
  simp! only [qAo,t3_0,t3_1,t3_2,ne_s4,qAy,I.xr,ra,ne_d4,qBF,qDP,rb,I.row,List.length_map,i1,s1,hG1,I1.xr,I1.row,i2,s2,hG2,I2.xl,qAA I2.log,pcx0,I2.xr,rc,hr2,if_pos (show 3≤16777216 by omega),I2.log,if_pos (show lg.length<16777216 by omega)]
theorem qKi (I:Ow G O ro lo ws lg N) (i:Nat) (p:Pc) (hi:ws[i]?=some p) (hz:p.2.2.1.length≤1000) (j c:Nat) (hj:j<p.2.2.1.length) (hl:lg.length<5000) :
    ∃ g,callN fns B (n+1) qAw [.ref O,.tup [.str [115,112,111,105,108],.int i,.int j,.str [c]]] G=.ok .non g∧Ow g O ro lo (ws.set i (p.1,p.2.1,p.2.2.1.take j++[c]++p.2.2.1.drop (j+1),true)) (lg++[.tup [.str [115,112,111,105,108],.int p.1,.str (p.2.2.1.take j++[c]++p.2.2.1.drop (j+1))]]) N∧Fr [O,ro,lo] G g:=by
  rw [qBU]
  have il:=(List.getElem?_eq_some_iff.mp hi).1
  have ra:=qCS I hi
  have ej:(j:Int)+1=((j+1:Nat):Int):=by omega
  have l1:(p.2.2.1.take j).length=j:=by rw [List.length_take];omega
  have l2:(p.2.2.1.drop (j+1)).length≤1000:=by rw [List.length_drop];omega
  have l3:(p.2.2.1.take j++[c]).length=j+1:=by rw [List.length_append,l1];rfl
  have c1:j+1≤16777216:=by omega
  have c2:j+1+(p.2.2.1.drop (j+1)).length≤16777216:=by omega
  generalize hT:p.2.2.1.take j++[c]++p.2.2.1.drop (j+1)=T
  have I1:=I.setr (ws.set i (p.1,p.2.1,T,true)) (by simp;exact I.bw)
  have s1:(ws.map pcD).set i (.tup [.int p.1,.int p.2.1,.str T,.bl true])=(ws.set i (p.1,p.2.1,T,true)).map pcD:=by rw [List.map_set];rfl
  have i1:ixN ws.length (i:Int)=some i:=qAb il
  have F1:Fr [O,ro,lo] G (G.set ro (.lst ((ws.set i (p.1,p.2.1,T,true)).map pcD))):=Fr.set (by simp) _ _
  generalize hG1:G.set ro (.lst ((ws.set i (p.1,p.2.1,T,true)).map pcD))=G1 at *
  have I3:=I1.setl (.tup [.str [115,112,111,105,108],.int p.1,.str T]) hl
  refine ⟨_,?_,I3,F1.trans (Fr.set (by simp) _ _)⟩
  simp! only [qAo,t4_0,t4_1,t4_2,t4_3,ne_s5,qAy,I.xr,ra,ne_d5,qBF,ne_t5,qBc,qDO,pcx2,if_pos (show p.2.2.1.length≤16777216 by omega),qGe,l1,if_pos c1,if_pos (show j≤16777215 by omega),ej,qCs,l3,if_pos c2,hT,pcx0,pcx1,if_pos (show 4≤16777216 by omega),I.row,List.length_map,i1,s1,hG1,I1.xl,qAA I1.log,if_pos (show 3≤16777216 by omega),I1.log,if_pos (show lg.length<16777216 by omega)]
theorem qLN (I:Ow G O ro lo ws lg N) (i:Nat) (hi:i<ws.length) (x2 x3:Option D) (w:Tx) (u:List D) (h1:∀ H,biD .ix (.tup u) (.int 1) H=.ok (.int i) H) :
    ∃ g ro',denS (callN fns B n) B (.setIx (.var 0) (.lit (.str [114,111,119])) (.bi .add (.sl (.bi .ix (.var 0) (.lit (.str [114,111,119]))) .no (.at (.bi .ix (.var 1) (.lit (.int 1))))) (.sl (.bi .ix (.var 0) (.lit (.str [114,111,119]))) (.at (.bi .add (.bi .ix (.var 1) (.lit (.int 1))) (.lit (.int 1)))) .no))) [some (.ref O),some (.tup u),x2,x3] G=.nx [some (.ref O),some (.tup u),x2,x3] g∧Ow g O ro' lo (ws.eraseIdx i) lg N∧Fr [O,ro,lo] G g∧G.length≤ro':=by
  have hb:=I.bw
  have ct:cutX (ws.map pcD) none (some (i:Int))=(ws.take i).map pcD:=by rw [qGe,List.map_take]
  have ej:(i:Int)+1=((i+1:Nat):Int):=by omega
  have cd:cutX (ws.map pcD) (some ((i+1:Nat):Int)) none=(ws.drop (i+1)).map pcD:=by rw [qCs,List.map_drop]
  have l1:(ws.take i).length≤16777216:=by rw [List.length_take];omega
  have l2:(ws.drop (i+1)).length≤16777216:=by rw [List.length_drop];omega
  have I1:=I.app [.lst ((ws.take i).map pcD)]
  have I2:=I1.app [.lst ((ws.drop (i+1)).map pcD)]
  have em:(ws.take i).map pcD++(ws.drop (i+1)).map pcD=(ws.eraseIdx i).map pcD:=by rw [List.eraseIdx_eq_take_drop_succ,List.map_append]
  have el:(ws.eraseIdx i).length≤200:=Nat.le_trans (qJP ws i) hb
  have I3:=I2.app [.lst ((ws.eraseIdx i).map pcD)]
  have g1:(G++[Fy.O.lst ((ws.take i).map pcD)]++[Fy.O.lst ((ws.drop (i+1)).map pcD)])[G.length]?=some (.lst ((ws.take i).map pcD)):=qAQ _ (by rw [qAI];rfl)
  have g2:(G++[Fy.O.lst ((ws.take i).map pcD)]++[Fy.O.lst ((ws.drop (i+1)).map pcD)])[(G++[Fy.O.lst ((ws.take i).map pcD)]).length]?=some (.lst ((ws.drop (i+1)).map pcD)):=by rw [qAI];rfl
  have sr:=I3.sr (G++[Fy.O.lst ((ws.take i).map pcD)]++[Fy.O.lst ((ws.drop (i+1)).map pcD)]).length
  have gn:(G++[Fy.O.lst ((ws.take i).map pcD)]++[Fy.O.lst ((ws.drop (i+1)).map pcD)]++[Fy.O.lst ((ws.eraseIdx i).map pcD)])[(G++[Fy.O.lst ((ws.take i).map pcD)]++[Fy.O.lst ((ws.drop (i+1)).map pcD)]).length]?=some (.lst ((ws.eraseIdx i).map pcD)):=by rw [qAI];rfl
  obtain ⟨K,hK⟩:∃ K,K=G++[Fy.O.lst ((ws.take i).map pcD)]++[Fy.O.lst ((ws.drop (i+1)).map pcD)]++[Fy.O.lst ((ws.eraseIdx i).map pcD)]:=⟨_,rfl⟩
  obtain ⟨r,hr⟩:∃ r,r=(G++[Fy.O.lst ((ws.take i).map pcD)]++[Fy.O.lst ((ws.drop (i+1)).map pcD)]).length:=⟨_,rfl⟩
  have hrl:G.length≤r:=by rw [hr];simp
  have nO:O≠r:=by have:=(List.getElem?_eq_some_iff.mp I.od).1;omega
  have nl:r≠lo:=by have:=(List.getElem?_eq_some_iff.mp I.log).1;omega
  refine ⟨K.set O (.dct (ow r lo N)),r,?_,⟨?_,?_,?_,nl,el,I.bl⟩,?_,hrl⟩
  · simp! only [I.xr,qAA I.row,h1,ct,List.length_map,if_pos l1,I1.xr,qAA I1.row,ej,cd,if_pos l2,g1,g2,em,if_pos (show (ws.eraseIdx i).length≤16777216 by omega),sr]
    rw [hK,hr]
  · rw [List.getElem?_set_self (by rw [hK];exact (List.getElem?_eq_some_iff.mp I3.od).1)]
  · rw [List.getElem?_set_ne nO,hK,hr];exact gn
  · rw [List.getElem?_set_ne I.nOl,hK];exact I3.log
  · rw [hK];exact (((Fr.app _ _ _).trans (Fr.app _ _ _)).trans (Fr.app _ _ _)).trans (Fr.set (by simp) _ _)
theorem qMp (I:Ow G O ro lo ws lg N) (i:Nat) (p:Pc) (hi:ws[i]?=some p) (hl:lg.length<5000) :
    ∃ g ro',callN fns B (n+1) qAw [.ref O,.tup [.str [108,111,115,101],.int i]] G=.ok .non g∧Ow g O ro' lo (ws.eraseIdx i) (lg++[.tup [.str [108,111,115,101],.int p.1]]) N∧Fr [O,ro,lo] G g∧G.length≤ro':=by
  rw [qBU]
  have ra:=qCS I hi
  obtain ⟨g,ro',e,J,F,hr⟩:=qLN (B:=B) (n:=n) I i (List.getElem?_eq_some_iff.mp hi).1 (some (pcD p)) none [] [.str [108,111,115,101],.int i] (fun H=>rfl)
  have J2:=J.setl (.tup [.str [108,111,115,101],.int p.1]) hl
  refine ⟨_,ro',?_,J2,F.trans (Fr.set (by simp) _ _),hr⟩
  simp! only [qAo,t2_0,t2_1,ne_s2,qAy,I.xr,ra,ne_d2,qBF,ne_t2,qBc,ne_p2,qCG]
  simp! only [t2_0,t2_1,I.xr,ra] at e
  rw [e]
  simp! only [t2_0,qDN,J.xl,qAA J.log,pcx0,if_pos (show 2≤16777216 by omega),J.log,if_pos (show lg.length<16777216 by omega)]
theorem qKj (I:Ow G O ro lo ws lg N) (i:Nat) (p:Pc) (hi:ws[i]?=some p) (hl:lg.length<5000) :
    ∃ g ro',callN fns B (n+1) qAw [.ref O,.tup [.str [99,97,114,114,121],.int i]] G=.ok (.tup [.int p.2.1,.str p.2.2.1]) g∧Ow g O ro' lo (ws.eraseIdx i) (lg++[.tup [.str [99,97,114,114,121],.int p.1,.int p.2.1,.str p.2.2.1]]) N∧Fr [O,ro,lo] G g∧G.length≤ro':=by
  rw [qBU]
  have ra:=qCS I hi
  obtain ⟨g,ro',e,J,F,hr⟩:=qLN (B:=B) (n:=n) I i (List.getElem?_eq_some_iff.mp hi).1 (some (pcD p)) none [] [.str [99,97,114,114,121],.int i] (fun H=>rfl)
  have J2:=J.setl (.tup [.str [99,97,114,114,121],.int p.1,.int p.2.1,.str p.2.2.1]) hl
  refine ⟨_,ro',?_,J2,F.trans (Fr.set (by simp) _ _),hr⟩
  simp! only [qAo,t2_0,t2_1,ne_s1,qAy,I.xr,ra,ne_d1,qBF,ne_t1,qBc,ne_p1,qCG]
  simp! only [t2_0,t2_1,I.xr,ra] at e
  rw [e]
  simp! only [t2_0,ne_l1,qDM,J.xl,qAA J.log,pcx0,pcx1,pcx2,if_pos (show 4≤16777216 by omega),if_pos (show 2≤16777216 by omega),J.log,if_pos (show lg.length<16777216 by omega)]
end
section
variable {B n:Nat} {G:AH} {O ro lo N:Nat} {ws:List Pc} {lg:List D}
theorem qG6 (I:Ow G O ro lo ws lg N) (i:Nat) (p:Pc) (hi:ws[i]?=some p) (hz:p.2.2.1.length≤1000) (a:Int) (c:Nat) (due:Tx)
    (h:(due=[78,111,68,101,101,100]∧(p.2.2.2=true∨(p.2.2.2=false∧(a<0∨(p.2.2.1.length:Int)≤a∨∃ j:Nat,a=(j:Int)∧p.2.2.1[j]?=some c))))∨(due=[]∧p.2.2.2=false∧∃ (j e:Nat),a=(j:Int)∧p.2.2.1[j]?=some e∧e≠c)) :
    callN fns B (n+1) qGZ [.ref O,.tup [.str [115,112,111,105,108],.int i,.int a,.str [c]]] G=.ok (.str due) G:=by
  rw [qGi]
  have e0:(2:Int)+0=2:=rfl
  have cx:cutX [D.str [115,112,111,105,108],.int i,.int a,.str [c]] (some 1) (some 2)=[.int i]:=rfl
  have il:=(List.getElem?_eq_some_iff.mp hi).1
  have c1:¬ (i:Int)<0:=by omega
  have c2:¬ (ws.length:Int)≤i:=by omega
  have ra3:((ixN ws.length (i:Int)).bind fun j=>(ws.map pcD)[j]?)=some (pcD p):=by
    rw [qAb il,Option.bind_some,List.getElem?_map,hi];rfl
  have gr:=qAA I.row
  have ne_t5:(([115,112,111,105,108]:Tx) == [116,117,114,110])=false:=rfl
  rcases h with ⟨rfl,h | ⟨h0,h | h | ⟨j,rfl,hj⟩⟩⟩ | ⟨rfl,h0,j,e,rfl,hj,he⟩
  · simp! only [qAg,I.xr,gr,List.length_map,t4_0,t4_1,ne_t5,e0,cx,qBi,qAl,ne_s5,c1,c2,qAj,qAk,Option.bind_some,ra3,pcx3,h]
  · simp! only [qAg,I.xr,gr,List.length_map,t4_0,t4_1,ne_t5,e0,cx,qBi,qAl,ne_s5,c1,c2,qAj,qAk,Option.bind_some,ra3,pcx3,h0,t4_2,h]
  · have h3:¬ a<0:=by omega
    simp! only [qAg,I.xr,gr,List.length_map,t4_0,t4_1,ne_t5,e0,cx,qBi,qAl,ne_s5,c1,c2,qAj,qAk,Option.bind_some,ra3,pcx3,h0,t4_2,h3,pcx2,if_pos (show p.2.2.1.length≤16777216 by omega),h]
  · have jl:=(List.getElem?_eq_some_iff.mp hj).1
    have h3:¬ (j:Int)<0:=by omega
    have h4:¬ (p.2.2.1.length:Int)≤j:=by omega
    have tx:=tx_at hj
    have cc:([c] == ([c]:Tx))=true:=by simp
    simp! only [qAg,I.xr,gr,List.length_map,t4_0,t4_1,ne_t5,e0,cx,qBi,qAl,ne_s5,c1,c2,qAj,qAk,Option.bind_some,ra3,pcx3,h0,t4_2,h3,pcx2,if_pos (show p.2.2.1.length≤16777216 by omega),h4,tx,t4_3,cc]
  · have jl:=(List.getElem?_eq_some_iff.mp hj).1
    have h3:¬ (j:Int)<0:=by omega
    have h4:¬ (p.2.2.1.length:Int)≤j:=by omega
    have tx:=tx_at hj
    have cc:([e] == ([c]:Tx))=false:=by simpa using he
    simp! only [qAg,I.xr,gr,List.length_map,t4_0,t4_1,ne_t5,e0,cx,qBi,qAl,ne_s5,c1,c2,qAj,qAk,Option.bind_some,ra3,pcx3,h0,t4_2,h3,pcx2,if_pos (show p.2.2.1.length≤16777216 by omega),h4,tx,t4_3,cc,qCx]
end
structure Wk (ws:List Pc) (lg:List D) (N:Nat):Prop where
 inj:Inj ws
 num:∀ p∈ws,0≤p.1∧p.1<N
 tx:∀ p∈ws,p.2.2.1.length≤400
 lok:lgOk lg
structure Pr (G:AH) (R A L O ro lo:Nat) (ws:List Pc) (lg:List D) (N:Nat):Prop where
 rd:Rd G R A L ws lg N
 ow:Ow G O ro lo ws lg N
 d1:A≠ro
 d2:A≠lo
 d3:L≠ro
 d4:L≠lo
section
variable {G g:AH} {R A L O ro lo N:Nat} {ws:List Pc} {lg:List D}
theorem Ow.fr (I:Ow G O ro lo ws lg N) {M:List Nat} (F:Fr M G g) (h1:O∉M) (h2:ro∉M) (h3:lo∉M):Ow g O ro lo ws lg N:=⟨F.2 O _ h1 I.od,F.2 ro _ h2 I.row,F.2 lo _ h3 I.log,I.ne,I.bw,I.bl⟩
theorem Rd.fr (I:Rd G R A L ws lg N) {M:List Nat} (F:Fr M G g) (h1:R∉M) (h2:A∉M) (h3:L∉M):Rd g R A L ws lg N:=⟨F.2 R _ h1 I.r,F.2 A _ h2 I.a,F.2 L _ h3 I.l,I.al,I.bw,I.bl⟩
theorem Pr.kinds (P:Pr G R A L O ro lo ws lg N):O∉[R,A,L]∧ro∉[R,A,L]∧lo∉[R,A,L]∧R∉[O,ro,lo]∧A∉[O,ro,lo]∧L∉[O,ro,lo]:=by
 have a1:O≠R:=fun z=>by have:=P.ow.od;rw [z,P.rd.r] at this;cases this
 have a2:O≠A:=fun z=>by have:=P.ow.od;rw [z,P.rd.a] at this;cases this
 have a3:O≠L:=fun z=>by have:=P.ow.od;rw [z,P.rd.l] at this;cases this
 have a4:ro≠R:=fun z=>by have:=P.ow.row;rw [z,P.rd.r] at this;cases this
 have a5:lo≠R:=fun z=>by have:=P.ow.log;rw [z,P.rd.r] at this;cases this
 have:=P.d1
 have:=P.d2
 have:=P.d3
 have:=P.d4
 simp only [List.mem_cons,List.not_mem_nil,or_false,not_or]
 refine ⟨⟨a1,a2,a3⟩,⟨a4,?_,?_⟩,⟨a5,?_,?_⟩,⟨?_,?_,?_⟩,⟨?_,?_,?_⟩,⟨?_,?_,?_⟩⟩ <;> omega
theorem Pr.fr (P:Pr G R A L O ro lo ws lg N) {M:List Nat} (F:Fr M G g) (h:∀ i∈M,i∉[R,A,L,O,ro,lo]):Pr g R A L O ro lo ws lg N:=by
 have k:∀ i,i∈[R,A,L,O,ro,lo]→i∉M:=fun i hi hm=>h i hm hi
 exact ⟨P.rd.fr F (k _ (by simp)) (k _ (by simp)) (k _ (by simp)),P.ow.fr F (k _ (by simp)) (k _ (by simp)) (k _ (by simp)),P.d1,P.d2,P.d3,P.d4⟩
theorem Pr.app (P:Pr G R A L O ro lo ws lg N) (g:AH):Pr (G++g) R A L O ro lo ws lg N:=P.fr (M:=[]) (Fr.app _ _ _) (fun i hi=>by cases hi)
theorem Pr.both (P:Pr G R A L O ro lo ws lg N) {g1 g2:AH} {ws':List Pc} {lg':List D} {N' ro':Nat} (F1:Fr [R,A,L] G g1) (I1:Rd g1 R A L ws' lg' N') (F2:Fr [O,ro,lo] g1 g2) (I2:Ow g2 O ro' lo ws' lg' N') (hr:ro'=ro∨g1.length≤ro') :
    Pr g2 R A L O ro' lo ws' lg' N'∧Fr [R,A,L,O,ro,lo] G g2∧(ro'=ro∨G.length≤ro'):=by
  obtain ⟨k1,k2,k3,k4,k5,k6⟩:=P.kinds
  have hA:=(List.getElem?_eq_some_iff.mp I1.a).1
  have hL:=(List.getElem?_eq_some_iff.mp I1.l).1
  refine ⟨⟨I1.fr F2 k4 k5 k6,I2,?_,P.d2,?_,P.d4⟩,(F1.mono (fun i hi=>by simp at hi ⊢;omega)).trans (F2.mono (fun i hi=>by simp at hi ⊢;omega)),hr.imp id (fun z=>by have:=F1.1;omega)⟩
  · rcases hr with z | z
    · rw [z];exact P.d1
    · omega
  · rcases hr with z | z
    · rw [z];exact P.d3
    · omega
end
theorem er (H:AH) (i j:Nat):eqTop H (.ref i) (.ref j)=(match getL H i,getL H j with | some xs,some ys=>eqW (eqD H 39) xs ys | _,_=>none):=rfl
theorem Fr.tail {G K:AH} (F:Fr [] G K) {k:Nat} (h:G.length≤k) (o:O):Fr [] G (K.set k o):=⟨by rw [List.length_set];exact F.1,fun i o' n e=>by
 have:=(List.getElem?_eq_some_iff.mp e).1
 rw [List.getElem?_set_ne (by omega)];exact F.2 i o' n e⟩
theorem Inj.tail {p:Pc} {r:List Pc} (h:Inj (p::r)):Inj r:=fun i j a b hi hj e=>by
 have:=h (i+1) (j+1) a b (by simpa using hi) (by simpa using hj) e
 omega
theorem qIF:∀ {ws:List Pc} {i:Nat} {p:Pc},Inj ws→ws[i]?=some p→txOf p.1 ws=.str p.2.2.1
 | [],i,p,_,h=>by simp at h
 | q::r,0,p,_,h=>by
  simp at h
  subst h
  unfold txOf
  rw [if_pos rfl]
 | q::r,i+1,p,hI,h=>by
  unfold txOf
  rw [if_neg (fun z=>by have:=hI 0 (i+1) q p rfl h (by omega);omega)]
  exact qIF hI.tail (by simpa using h)
theorem qGB (k:Int):∀ {ws:List Pc},(∀ p∈ws,p.1≠k)→txOf k ws=.non
 | [],_=>rfl
 | p::r,h=>by
  unfold txOf
  rw [if_neg (h p (List.mem_cons_self ..))]
  exact qGB k fun q hq=>h q (List.mem_cons_of_mem _ hq)
theorem tx_eq (y:Tx) (h:AH):eqTop h (.str y) (.str y)=some true:=by
 show some (y == y)=some true
 rw [BEq.rfl]
section
variable {B n:Nat} {G:AH} {R A L O ro lo N:Nat} {ws:List Pc} {lg:List D}
theorem qLg (P:Pr G R A L O ro lo ws lg N) (W:Wk ws lg N) (x2 x3:Option D):∀ (m k:Nat) (s4:Option D),ws.length-k<m→k≤ws.length→∃ s4',qAH (qAL (TG.nm 4) (denS (callN fns B (n+1)) B qA7)) ro m k [some (.ref R),some (.ref O),x2,x3,s4] G=.nx [some (.ref R),some (.ref O),x2,x3,s4'] G:=by
 intro m
 induction m with
 | zero=>intro k s4 h1;omega
 | succ m ih =>
  intro k s4 h1 h2
  unfold qAH
  rw [qAA P.ow.row]
  by_cases hk:k<ws.length
  ·have e:(ws.map pcD)[k]?=some (pcD ws[k]):=by rw [List.getElem?_map,List.getElem?_eq_getElem hk];rfl
   obtain ⟨s4',r⟩:=ih (k+1) (some (pcD ws[k])) (by omega) (by omega)
   refine ⟨s4',?_⟩
   have tf:=qC5 (B:=B) (n:=n) P.rd ws[k].1
   rw [qIF W.inj (List.getElem?_eq_getElem hk)] at tf
   simp only [e]
   rw [qAT]
   generalize qAH (qAL (TG.nm 4) (denS (callN fns B (n+1)) B qA7)) ro m (k+1)=LP at r ⊢
   simp! only [qA7,P.rd.r,qK9,qIG,pcx0,tf,pcx2,BEq.rfl]
   exact r
  ·have e:(ws.map pcD)[k]?=none:=by rw [List.getElem?_map,List.getElem?_eq_none (by omega)];rfl
   simp only [e]
   exact ⟨s4,rfl⟩
theorem qE0 (P:Pr G R A L O ro lo ws lg N) (W:Wk ws lg N):∃ G',callN fns B (n+2) qFo [.ref R,.ref O] G=.ok (.bl true) G'∧Fr [] G G':=by
 rw [qFt]
 have hbw:=P.rd.bw
 have hbl:=P.rd.bl
 have f1:=qE3 (B:=B) (n:=n) P.rd
 have P1:=P.app [.lst (flD ws)]
 have f2:=m_log (B:=B) (n:=n) P1.rd
 have P2:=P1.app [.lst lg]
 have fll:(flD ws).length=ws.length:=by unfold flD;simp
 obtain ⟨a,ha⟩:∃ a,a=G.length:=⟨_,rfl⟩
 obtain ⟨b,hb⟩:∃ b,b=(G++[Fy.O.lst (flD ws)]).length:=⟨_,rfl⟩
 have hab:b=a+1:=by rw [hb,ha];simp
 obtain ⟨G2,hG2⟩:∃ G2,G2=G++[Fy.O.lst (flD ws)]++[.lst lg]:=⟨_,rfl⟩
 have F2:Fr [] G G2:=by rw [hG2];exact (Fr.app _ _ _).trans (Fr.app _ _ _)
 have l2:G2.length=a+2:=by rw [hG2,ha];simp
 have ga2:G2[a]?=some (.lst (flD ws)):=by rw [hG2,ha];exact qAQ _ (by rw [qAI];rfl)
 have gb2:G2[b]?=some (.lst lg):=by rw [hG2,hb,qAI];rfl
 rw [← ha] at f1
 rw [← hb,← hG2] at f2
 rw [← hG2] at P2
 have gro:=qAA P2.ow.row
 have mr:∀ x4,qAN (compF (den (callN fns B (n+1)) qA8) [some (.ref R),some (.ref O),some (.ref a),some (.ref b),x4]) ro (liveN G2 ro) 0 G2=.ok (flD ws) G2:=fun x4=>by
  have t:=qDu (compF (den (callN fns B (n+1)) qA8) [some (.ref R),some (.ref O),some (.ref a),some (.ref b),x4]) (fun d=>match d with | .tup [.int a,.int b,_,_]=>.tup [.int a,.int b] | _=>.non) G2 ro (ws.map pcD) gro (fun x hx=>by
   obtain ⟨p,hp,rfl⟩:=List.mem_map.mp hx
   show compF _ _ _ _=.ok (some (.tup [.int p.1,.int p.2.1])) _
   unfold compF
   simp! only [List.cons_append,List.nil_append,qA8,pcx0,pcx1,if_pos (show 2≤16777216 by omega)]) (liveN G2 ro) 0 (by unfold liveN;rw [gro];simp) (Nat.zero_le _)
  have em:(ws.map pcD).map (fun d=>match d with | .tup [.int a,.int b,_,_]=>.tup [.int a,.int b] | _=>.non)=flD ws:=by
   rw [List.map_map];rfl
  rw [List.drop_zero,em] at t
  exact t
 have hlv:liveN G2 ro<16777216:=by unfold liveN;rw [gro];simp;omega
 have P3:=P2.app [.lst (flD ws)]
 obtain ⟨G3,hG3⟩:∃ G3,G3=G2++[Fy.O.lst (flD ws)]:=⟨_,rfl⟩
 rw [← hG3] at P3
 have F3:Fr [] G G3:=by rw [hG3];exact F2.trans (Fr.app _ _ _)
 have ga3:G3[a]?=some (.lst (flD ws)):=by rw [hG3];exact qAQ _ ga2
 have gb3:G3[b]?=some (.lst lg):=by rw [hG3];exact qAQ _ gb2
 have gc3:G3[G2.length]?=some (.lst (flD ws)):=by rw [hG3,qAI];rfl
 have l3:G3.length=a+3:=by rw [hG3];simp;omega
 obtain ⟨G4,hG4⟩:∃ G4,G4=G3.set a (.lst (flD ws++[.tup [.int 0,.int 0]])):=⟨_,rfl⟩
 have F4:Fr [] G G4:=by rw [hG4];exact F3.tail (by omega) _
 have gb4:G4[b]?=some (.lst lg):=by rw [hG4,List.getElem?_set_ne (by omega)];exact gb3
 obtain ⟨G5,hG5⟩:∃ G5,G5=G4.set b (.lst (lg++[.tup [.str [108,111,115,101],.int 0]])):=⟨_,rfl⟩
 have F5:Fr [] G G5:=by rw [hG5];exact F4.tail (by omega) _
 have P5:Pr G5 R A L O ro lo ws lg N:=P.fr F5 (fun i hi=>by cases hi)
 have P4:Pr G4 R A L O ro lo ws lg N:=P.fr F4 (fun i hi=>by cases hi)
 obtain ⟨s4',lp⟩:=qLg (B:=B) (n:=n) P5 W (some (.ref a)) (some (.ref b)) (liveN G5 ro) 0 none (by unfold liveN;rw [qAA P5.ow.row];simp) (Nat.zero_le _)
 have tN:=qC5 (B:=B) (n:=n) P5.rd N
 rw [qGB N (fun p hp=>by have:=(W.num p hp).2;omega)] at tN
 have tM:=qC5 (B:=B) (n:=n) P5.rd (-1)
 rw [qGB (-1) (fun p hp=>by have:=(W.num p hp).1;omega)] at tM
 have f5:=qE3 (B:=B) (n:=n) P5.rd
 have P6:=P5.app [.lst (flD ws)]
 have f6:=m_log (B:=B) (n:=n) P6.rd
 have P7:=P6.app [.lst lg]
 have gg5:getL (G5++[Fy.O.lst (flD ws)]) G5.length=some (flD ws):=by rw [qAM];rfl
 have gg6:getL (G5++[Fy.O.lst (flD ws)]++[.lst lg]) (G5++[Fy.O.lst (flD ws)]).length=some lg:=by rw [qAM];rfl
 have tl:(Ty.list == Ty.list)=true:=rfl
 have lok:=W.lok
 have flok:=fl_ok ws
 have ee1:((ws.length:Int) == (ws.length:Int))=true:=by simp
 have ee2:((lg.length:Int) == (lg.length:Int))=true:=by simp
 refine ⟨G5++[.lst (flD ws)]++[.lst lg],?_,(F5.trans (Fr.app _ _ _)).trans (Fr.app _ _ _)⟩
 simp! only [qBb,P.rd.r,qEy,qDi,f1,P1.rd.r,n_log,qIJ,f2,qAA ga2,qAA gb2,Option.map_some,tl,P2.ow.xl,er,qAA P2.ow.log,lg_eq lok,qCY,P2.ow.xr,gro,if_pos hlv,mr,fll,if_pos (show ws.length≤16777216 by omega)]
 rw [← hG3]
 simp! only [er,qAA ga3,qAA gc3,lg_eq flok,qCZ,ga3,fll,if_pos (show ws.length<16777216 by omega),if_pos (show 2≤16777216 by omega)]
 rw [← hG4]
 simp! only [qAA gb4,gb4,if_pos (show lg.length<16777216 by omega),if_pos (show 2≤16777216 by omega)]
 rw [← hG5]
 simp! only [P5.ow.xr,qAA P5.ow.row,lp,qCa,P5.rd.r,qK9,qIG,P5.ow.xg,tN,tM,qCb,qEy,qDi,f5,gg5,fll,P6.ow.xr,qAA P6.ow.row,List.length_map,ee1,P6.rd.r,n_log,qIJ,f6,gg6,P7.ow.xl,qAA P7.ow.log,ee2]
end
theorem Ok.full1 {log:List En} {row:List Pc} {fs:List Tx} (I:Ok log row fs) (h:Nat) (t:Tx):Ok (log++[.full fs.length h t]) row (fs++[t]):=by
 have hl:(fs++[t]).length=fs.length+1:=by simp
 have hs:stp (runL m0 log) (.full fs.length h t)=up (runL m0 log) fs.length t:=rfl
 refine ⟨qCM I.ok trivial,fun k=>?_,fun k=>?_,fun p hp=>?_,fun k=>?_,I.nd,fun p hp=>?_⟩
 ·rw [qC9,hs]
  cases q:go m0 k log with
  | some u =>
   have:=I.sent k
   rw [q] at this
   by_cases z:0≤k
   ·rw [if_pos z] at this ⊢
    rw [List.getElem?_append_left (List.getElem?_eq_some_iff.mp this.symm).1]
    exact this
   ·rw [if_neg z] at this;cases this
  | none =>
   have hn:=I.none_iff q
   show up (runL m0 log) fs.length t k=_
   unfold up
   by_cases z:k=(fs.length:Int)
   ·subst z
    rw [if_pos rfl,if_pos (by omega)]
    simp
   ·rw [if_neg z,(I.at_none hn).1]
    by_cases y:0≤k
    ·rw [if_pos y,List.getElem?_eq_none (by rw [hl];omega)]
    ·rw [if_neg y]
 ·rw [qAt,hs,hl]
  unfold up
  by_cases z:k=(fs.length:Int)
  ·rw [if_pos z];constructor
   ·intro _;omega
   ·intro _;rfl
  ·rw [if_neg z,I.dom k];omega
 ·rw [qAt,hs]
  unfold up
  have:=I.lt p hp
  rw [if_neg (by omega)]
  exact I.cur p hp
 ·rw [List.any_append,List.any_cons,List.any_nil,Bool.or_false,Bool.or_eq_true,I.gone k,hl]
  show _∨((fs.length:Int) == k)=true↔_
  rw [beq_iff_eq]
  constructor
  ·rintro (⟨a,b,c⟩ | z)
   ·exact ⟨a,by omega,c⟩
   ·exact ⟨by omega,by omega,fun p hp=>by have:=I.lt p hp;omega⟩
  ·rintro ⟨a,b,c⟩
   by_cases z:(fs.length:Int)=k
   ·exact .inr z
   ·exact .inl ⟨a,by omega,c⟩
 ·rw [hl]
  have:=I.lt p hp;omega
noncomputable def sentE (ws:List Pc) (N i:Nat) (y:Tx):En:=if 200≤ws.length then .full N i y else .send N i y
theorem qLk (ws:List Pc) (N i:Nat) (y:Tx):enD (sentE ws N i y)=sentD ws N i y:=by
 unfold sentE sentD
 by_cases c:200≤ws.length
 ·rw [if_pos c,if_pos c];rfl
 ·rw [if_neg c,if_neg c];rfl
theorem Ok.sends {log:List En} {ws:List Pc} {fs:List Tx} (I:Ok log ws fs) (i:Nat) (y:Tx):Ok (log++[sentE ws fs.length i y]) (pushW ws (fs.length,i,y,false)) (fs++[y]):=by
 unfold sentE pushW
 by_cases c:200≤ws.length
 ·rw [if_pos c,if_pos c];exact I.full1 i y
 ·rw [if_neg c,if_neg c];exact I.new i false trivial rfl (fun k=>rfl)
noncomputable def fullE (ws:List Pc) (N i:Nat) (y:Tx):List En:=if 200≤ws.length then [.full N i y] else []
theorem qMi (ws:List Pc) (N i:Nat) (y:Tx):(fullE ws N i y).map enD=fullD ws N i y:=by
 unfold fullE fullD
 by_cases c:200≤ws.length
 ·rw [if_pos c,if_pos c];rfl
 ·rw [if_neg c,if_neg c];rfl
theorem Ok.dbls {log:List En} {ws:List Pc} {fs:List Tx} (I:Ok log ws fs) {j:Nat} {p:Pc} (hj:ws[j]?=some p):Ok (log++[.dbl p.1 fs.length]++fullE ws fs.length p.2.1 p.2.2.1) (pushW ws (fs.length,p.2.1,p.2.2.1,p.2.2.2)) (fs++[p.2.2.1]):=by
 have hc:=I.cur p (List.mem_of_getElem? hj)
 have hs:stp (runL m0 log) (.dbl p.1 fs.length)=up (runL m0 log) fs.length p.2.2.1:=by
  show (match runL m0 log p.1 with | some t=>up (runL m0 log) fs.length t | none=>runL m0 log)=_
  rw [hc]
 have I1:=I.new (e:=.dbl p.1 fs.length) p.2.1 p.2.2.2 ⟨_,hc⟩ hs (fun k=>rfl)
 unfold fullE pushW
 by_cases c:200≤ws.length
 ·rw [if_pos c,if_pos c]
  have hl:(ws++[(fs.length,p.2.1,p.2.2.1,p.2.2.2)])[ws.length]?=some (fs.length,p.2.1,p.2.2.1,p.2.2.2):=by
   rw [List.getElem?_append_right (Nat.le_refl _),Nat.sub_self];rfl
  have hc2:=I1.cur _ (List.mem_of_getElem? hl)
  have I2:=I1.drop (e:=.full fs.length p.2.1 p.2.2.1) hl trivial (by
   show up (runL m0 (log++[.dbl p.1 fs.length])) fs.length p.2.2.1=_
   funext k
   unfold up
   by_cases z:k=(fs.length:Int)
   ·rw [if_pos z,z];exact hc2.symm
   ·rw [if_neg z]) (fun k=>rfl)
  have er:(ws++[(fs.length,p.2.1,p.2.2.1,p.2.2.2)]).take ws.length++(ws++[(fs.length,p.2.1,p.2.2.1,p.2.2.2)]).drop (ws.length+1)=ws:=by
   rw [List.take_append_of_le_length (Nat.le_refl _),List.take_length,List.drop_eq_nil_of_le (by simp),List.append_nil]
  rw [er] at I2
  exact I2
 ·rw [if_neg c,if_neg c,List.append_nil];exact I1
theorem Ok.drops {log:List En} {ws:List Pc} {fs:List Tx} (I:Ok log ws fs) {j:Nat} {p:Pc} (hj:ws[j]?=some p) (e:En) (he:e=.lose p.1∨e=.carry p.1 p.2.1 p.2.2.1):Ok (log++[e]) (ws.eraseIdx j) fs:=by
 rw [List.eraseIdx_eq_take_drop_succ]
 rcases he with rfl | rfl
 ·exact I.drop hj trivial rfl (fun k=>rfl)
 ·exact I.drop hj trivial rfl (fun k=>rfl)
theorem Ok.turns {log:List En} {ws:List Pc} {fs:List Tx} (I:Ok log ws fs) {i j:Nat} {p q:Pc} (hi:ws[i]?=some p) (hj:ws[j]?=some q):Ok (log++[.turn p.1 q.1]) ((ws.set i q).set j p) fs:=by
 obtain ⟨il,rfl⟩:=List.getElem?_eq_some_iff.mp hi
 obtain ⟨jl,rfl⟩:=List.getElem?_eq_some_iff.mp hj
 exact I.perm (qIL il jl) trivial rfl (fun k=>rfl)
theorem en_ok (e:En) (h:AH):eqD h 39 (enD e) (enD e)=some true:=by
 cases e with
 | send n g t=>exact qGd _ _ _ _ h
 | carry n g t=>exact qGd _ _ _ _ h
 | full n g t=>exact qGd _ _ _ _ h
 | spoil n t=>exact qKd _ _ _ h
 | dbl n g =>
  rw [show eqD h 39 (enD (.dbl n g)) (enD (.dbl n g))=some ((([100,111,117,98,108,101]:Tx) == [100,111,117,98,108,101])&&(((n:Int) == (n:Int))&&(((g:Int) == (g:Int))&&true))) from rfl,BEq.rfl,BEq.rfl,BEq.rfl];rfl
 | turn n g =>
  rw [show eqD h 39 (enD (.turn n g)) (enD (.turn n g))=some ((([116,117,114,110]:Tx) == [116,117,114,110])&&(((n:Int) == (n:Int))&&(((g:Int) == (g:Int))&&true))) from rfl,BEq.rfl,BEq.rfl,BEq.rfl];rfl
 | lose n =>
  rw [show eqD h 39 (enD (.lose n)) (enD (.lose n))=some ((([108,111,115,101]:Tx) == [108,111,115,101])&&(((n:Int) == (n:Int))&&true)) from rfl,BEq.rfl,BEq.rfl];rfl
theorem Ok.wk {log:List En} {ws:List Pc} {fs:List Tx} (I:Ok log ws fs) (ht:∀ p∈ws,p.2.2.1.length≤400):Wk ws (log.map enD) fs.length :=
 ⟨fun i j p q hi hj e=>qHG I.nd hi hj e,fun p hp=>⟨Nat.zero_le _,I.lt p hp⟩,ht,fun d hd h=>by
  obtain ⟨e,_,rfl⟩:=List.mem_map.mp hd
  exact en_ok e h⟩
inductive Dd where
 | send (i:Nat) (y:Tx) | carry (p:Nat) | lose (p:Nat) | double (p:Nat) | turn (p o:Nat) | spoil (p c:Nat)
noncomputable def dD:Dd→D
 | .send i y=>.tup [.str [115,101,110,100],.int i,.str y]
 | .carry p=>.tup [.str [99,97,114,114,121],.int p]
 | .lose p=>.tup [.str [108,111,115,101],.int p]
 | .double p=>.tup [.str [100,111,117,98,108,101],.int p]
 | .turn p o=>.tup [.str [116,117,114,110],.int p,.int o]
 | .spoil p c=>.tup [.str [115,112,111,105,108],.int p,.int 0,.str [c]]
noncomputable def okD (ws:List Pc):Dd→Prop
 | .send i y=>i<2∧okT y
 | .carry p=>p<ws.length
 | .lose p=>p<ws.length
 | .double p=>p<ws.length
 | .turn p o=>p<ws.length∧o<ws.length
 | .spoil p c=>okC c=true∧∃ q e,ws[p]?=some q∧q.2.2.2=false∧q.2.2.1[0]?=some e∧e≠c
noncomputable def ga (a:D):Prop:=(∃ k,a=.int k)∨a=.non∨∃ k y,a=.tup [.int k,.str y]
theorem eq_ga {a:D} (h:ga a) (G:AH):eqTop G a a=some true:=by
 rcases h with ⟨k,rfl⟩ | rfl | ⟨k,y,rfl⟩
 ·show some (k == k)=some true;rw [BEq.rfl]
 ·rfl
 ·show eqW (eqD G 39) [D.int k,.str y] [.int k,.str y]=some true
  rw [show eqW (eqD G 39) [D.int k,.str y] [.int k,.str y]=some ((k == k)&&((y == y)&&true)) from rfl,BEq.rfl,BEq.rfl]
  rfl
theorem wh_ga {a:D} (h:ga a) (B n:Nat):∃ b,∀ G,callN fns B (n+1) qGY [a] G=.ok (.bl b) G:=by
 rcases h with ⟨k,rfl⟩ | rfl | ⟨k,y,rfl⟩
 ·exact ⟨true,fun _=>rfl⟩
 ·exact ⟨false,fun _=>rfl⟩
 ·exact ⟨false,fun _=>rfl⟩
noncomputable def lenD (k:Nat):Dd→Nat
 | .send _ _=>min 200 (k+1)
 | .double _=>min 200 (k+1)
 | .carry _=>k-1
 | .lose _=>k-1
 | _=>k
structure Z (G:AH) (R A L O lo f:Nat) (E:List (Nat × Fy.O)) (ro:Nat) (ws:List Pc) (log:List En) (fs:List Tx):Prop where
 pr:Pr G R A L O ro lo ws (log.map enD) fs.length
 ok:Ok log ws fs
 tx:∀ p∈ws,okT p.2.2.1
 fl:G[f]?=some (.lst (fs.map .str))
 nf:f∉[R,A,L,O,ro,lo]
 ex:∀ e∈E,G[e.1]?=some e.2∧e.1∉[R,A,L,O,ro,lo]∧e.1≠f
section
variable {B n:Nat} {G:AH} {R A L O lo f:Nat} {E:List (Nat × Fy.O)} {ro:Nat} {ws:List Pc} {log:List En} {fs:List Tx}
theorem Z.fr (z:Z G R A L O lo f E ro ws log fs) {G':AH} (F:Fr [] G G'):Z G' R A L O lo f E ro ws log fs :=
 ⟨z.pr.fr F (by simp),z.ok,z.tx,F.2 _ _ (by simp) z.fl,z.nf,fun e he=>⟨F.2 _ _ (by simp) (z.ex e he).1,(z.ex e he).2⟩⟩
theorem Z.app (z:Z G R A L O lo f E ro ws log fs) (g:AH):Z (G++g) R A L O lo f E ro ws log fs:=z.fr (Fr.app _ _ _)
theorem Z.wk (z:Z G R A L O lo f E ro ws log fs):Wk ws (log.map enD) fs.length:=z.ok.wk fun p hp=>(z.tx p hp).2.2
theorem Z.first (z : Z G R A L O lo f E ro ws log fs) (y : Tx) : Pr (G.set f (.lst ((fs ++ [y]).map .str))) R A L O ro lo ws (log.map enD) fs.length ∧ (G.set f (.lst ((fs ++ [y]).map .str)))[f]? = some (.lst ((fs ++ [y]).map .str)) ∧ Fr [f] G (G.set f (.lst ((fs ++ [y]).map .str))) := by
  have F : Fr [f] G (G.set f (.lst ((fs ++ [y]).map .str))) := Fr.set (by simp) _ _
  exact ⟨z.pr.fr F (fun i hi hm => by have : i = f := by simpa using hi
                                      subst this
                                      exact z.nf hm), List.getElem?_set_self (List.getElem?_eq_some_iff.mp z.fl).1, F⟩
theorem b11 {g1 g2:AH} {a d:D} {x5:Option D} {ro':Nat} {ws':List Pc} {lg':List D} {N':Nat} (hd:callN fns B (n+1) qAw [.ref O,d] g1=.ok a g2) (hg:ga a) (I:Ow g2 O ro' lo ws' lg' N') :
    denS (callN fns B (n+1)) B qBv [some (.ref R),some (.ref O),some d,some (.ref f),some a,x5] g1=.rt (.bl true) g2:=by
  obtain ⟨b,wh⟩:=wh_ga hg B n
  have ea:=eq_ga hg g2
  have hb:=I.bw
  have d2:decide ((ws'.length:Int)≤200)=true:=decide_eq_true (by omega)
  cases b <;> simp! only [qBv,hd,ea,wh,I.xr,qAA I.row,List.length_map,d2]
theorem Z.next (z:Z G R A L O lo f E ro ws log fs) {G0 g1 g2:AH} {fs':List Tx} {ws':List Pc} {log':List En} {ro':Nat} (P0:Pr G0 R A L O ro lo ws (log.map enD) fs.length) (F0:Fr [f] G G0) (hf:G0[f]?=some (.lst (fs'.map .str)))
    (I1:Rd g1 R A L ws' (log'.map enD) fs'.length) (F1:Fr [R,A,L] G0 g1) (I2:Ow g2 O ro' lo ws' (log'.map enD) fs'.length) (F2:Fr [O,ro,lo] g1 g2) (hr:ro'=ro∨g1.length≤ro') (ok:Ok log' ws' fs') (tx:∀ p∈ws',okT p.2.2.1):Z g2 R A L O lo f E ro' ws' log' fs':=by
  obtain ⟨P2,F,hr2⟩:=P0.both F1 I1 F2 I2 hr
  have hin:∀ {i:Nat} {o:Fy.O},i∉[R,A,L,O,ro,lo]→G0[i]?=some o→i∉[R,A,L,O,ro',lo]∧g2[i]?=some o:=fun {i o} hi hg=>by
    refine ⟨fun hm=>?_,F.2 i o hi hg⟩
    rcases hr2 with e | e
    · rw [e] at hm;exact hi hm
    · have hl:=(List.getElem?_eq_some_iff.mp hg).1
      simp only [List.mem_cons,List.not_mem_nil,or_false] at hm hi
      omega
  obtain ⟨n1,h1⟩:=hin z.nf hf
  refine ⟨P2,ok,tx,h1,n1,fun e he=>?_⟩
  obtain ⟨e1,e2,e3⟩:=z.ex e he
  obtain ⟨n2,h2⟩:=hin e2 (F0.2 _ _ (by simpa using e3) e1)
  exact ⟨h2,n2,e3⟩
end
section
variable {B n:Nat} {G:AH} {R A L O lo f:Nat} {E:List (Nat × Fy.O)} {ro:Nat} {ws:List Pc} {log:List En} {fs:List Tx}
theorem mapS (log:List En) (e:En):log.map enD++[enD e]=(log++[e]).map enD:=by rw [List.map_append];rfl
theorem strS (fs:List Tx) (y:Tx):fs.map D.str++[.str y]=(fs++[y]).map .str:=by rw [List.map_append];rfl
theorem qFS {ws:List Pc} {q p:Pc} (h:p∈pushW ws q):p∈ws∨p=q:=by
 unfold pushW at h
 split at h
 ·exact .inl h
 ·rcases List.mem_append.mp h with z | z
  ·exact .inl z
  ·exact .inr (List.mem_singleton.mp z)
theorem qEY (ws:List Pc) (q:Pc) (h:ws.length≤200):(pushW ws q).length=min 200 (ws.length+1):=by
 unfold pushW
 split
 ·omega
 ·rw [List.length_append,List.length_singleton];omega
theorem qDD {ws:List Pc} {i:Nat} (h:i<ws.length):∃ p,ws[i]?=some p:=⟨ws[i],List.getElem?_eq_getElem h⟩
theorem qOD {y:Tx} (hy:okT y):txOk y=true:=by
 unfold txOk
 rw [hy.1,decide_eq_true hy.2.1,decide_eq_true hy.2.2]
 rfl
theorem qI1 (z:Z G R A L O lo f E ro ws log fs) (hl:log.length<4900) (hfs:fs.length<4900) (dd:Dd) (ok:okD ws dd) :
    ∃ g ro' ws' log' fs',callN fns B (n+7) qC8 [.ref R,.ref O,dD dd,.ref f] G=.ok (.bl true) g∧Z g R A L O lo f E ro' ws' log' fs'∧ws'.length=lenD ws.length dd∧log'.length≤log.length+2∧fs'.length≤fs.length+1∧fs.length≤fs'.length∧(∀ i y,dd=.send i y→fs'.length=fs.length+1):=by
  rw [qH3]
  have P:=z.pr
  have hbw:=P.rd.bw
  have lgl:(log.map enD).length<4900:=by rw [List.length_map];exact hl
  cases dd with
  | send i y =>
    obtain ⟨hi,hy⟩:=ok
    obtain ⟨P0,f0,F0⟩:=z.first y
    generalize hG0:G.set f (Fy.O.lst ((fs++[y]).map .str))=G0 at P0 f0 F0
    obtain ⟨k1,k2,k3,_,_,_⟩:=P0.kinds
    obtain ⟨g1,e1,I1,F1⟩:=qIw (B:=B) (n:=n+1) P0.rd i hi y (by have:=hy.2.2;omega) (qOD hy) (by omega)
    obtain ⟨g2,e2,I2,F2⟩:=qMo (B:=B) (n:=n+4) (P0.ow.fr F1 k1 k2 k3) i y (by omega)
    have bb:=b11 (R:=R) (f:=f) (x5:=none) e2 (.inl ⟨_,rfl⟩) I2
    rw [← qLk,mapS] at I1 I2
    have hN:(fs++[y]).length=fs.length+1:=by simp
    rw [← hN] at I1 I2
    have z2:=z.next P0 F0 f0 I1 F1 I2 F2 (.inl rfl) (z.ok.sends i y) (fun p hp=>by
      rcases qFS hp with h | h
      · exact z.tx p h
      · rw [h];exact hy)
    refine ⟨g2,ro,_,_,_,?_,z2,qEY _ _ hbw,by simp,by simp,by simp,fun _ _ _=>by simp⟩
    simp! only [qAq,dD,t3_0,qDW,qAA z.fl,t3_2,z.fl,List.length_map,if_pos (show fs.length<16777216 by omega),strS,hG0,P0.rd.r,qLA,qIH,t3_1,e1]
    rw [bb]
    rfl
  | double i =>
    obtain ⟨p,hp⟩:=qDD ok
    obtain ⟨P0,f0,F0⟩:=z.first p.2.2.1
    generalize hG0:G.set f (Fy.O.lst ((fs++[p.2.2.1]).map .str))=G0 at P0 f0 F0
    obtain ⟨k1,k2,k3,_,_,_⟩:=P0.kinds
    obtain ⟨g1,e1,I1,F1⟩:=qGU (B:=B) (n:=n+2) P0.rd i p hp (by omega)
    obtain ⟨g2,e2,I2,F2⟩:=qJW (B:=B) (n:=n+4) (P0.ow.fr F1 k1 k2 k3) i p hp (by omega)
    have bb:=b11 (R:=R) (f:=f) (x5:=none) e2 (.inl ⟨_,rfl⟩) I2
    have em:log.map enD++[.tup [.str [100,111,117,98,108,101],.int p.1,.int fs.length]]++fullD ws fs.length p.2.1 p.2.2.1=(log++[En.dbl p.1 fs.length]++fullE ws fs.length p.2.1 p.2.2.1).map enD:=by
      rw [List.map_append,List.map_append,qMi];rfl
    rw [em] at I1 I2
    have hN:(fs++[p.2.2.1]).length=fs.length+1:=by simp
    rw [← hN] at I1 I2
    have z2:=z.next P0 F0 f0 I1 F1 I2 F2 (.inl rfl) (z.ok.dbls hp) (fun q hq=>by
      rcases qFS hq with h | h
      · exact z.tx q h
      · rw [h];exact z.tx p (List.mem_of_getElem? hp))
    have ra:=qCS P.ow hp
    have fl:(fullE ws fs.length p.2.1 p.2.2.1).length≤1:=by unfold fullE;split <;> simp
    refine ⟨g2,ro,_,_,_,?_,z2,qEY _ _ hbw,by simp;omega,by simp,by simp,fun _ _ h=>by cases h⟩
    simp! only [qAq,dD,t2_0,ne_s3,qAp,qDV,qAA z.fl,P.ow.xr,t2_1,ra,pcx2,z.fl,List.length_map,if_pos (show fs.length<16777216 by omega),strS,hG0,P0.rd.r,qKL,qIK,e1]
    rw [bb]
    rfl
  | carry i =>
    obtain ⟨p,hp⟩:=qDD ok
    obtain ⟨k1,k2,k3,_,_,_⟩:=P.kinds
    obtain ⟨g1,e1,I1,F1⟩:=qHr (B:=B) (n:=n+3) P.rd i p hp (by omega)
    obtain ⟨g2,ro',e2,I2,F2,hr⟩:=qKj (B:=B) (n:=n+5) (P.ow.fr F1 k1 k2 k3) i p hp (by omega)
    have bb:=b11 (R:=R) (f:=f) (x5:=none) e2 (.inr (.inr ⟨_,_,rfl⟩)) I2
    have em:log.map enD++[.tup [.str [99,97,114,114,121],.int p.1,.int p.2.1,.str p.2.2.1]]=(log++[En.carry p.1 p.2.1 p.2.2.1]).map enD:=by rw [List.map_append];rfl
    rw [em] at I1 I2
    have z2:=z.next P (Fr.refl _ _) z.fl I1 F1 I2 F2 (.inr hr) (z.ok.drops hp _ (.inr rfl)) (fun q hq=>z.tx q (List.mem_of_mem_eraseIdx hq))
    refine ⟨g2,ro',_,_,_,?_,z2,List.length_eraseIdx_of_lt ok,by simp,by omega,by omega,fun _ _ h=>by cases h⟩
    simp! only [qAq,dD,t2_0,ne_s1,qAp,ne_d1,qBG,qDU,P.rd.r,qMI,qJ1,t2_1,e1]
    rw [bb]
    rfl
  | lose i =>
    obtain ⟨p,hp⟩:=qDD ok
    obtain ⟨k1,k2,k3,_,_,_⟩:=P.kinds
    obtain ⟨g1,e1,I1,F1⟩:=qIz (B:=B) (n:=n+3) P.rd i p hp (by omega)
    obtain ⟨g2,ro',e2,I2,F2,hr⟩:=qMp (B:=B) (n:=n+5) (P.ow.fr F1 k1 k2 k3) i p hp (by omega)
    have bb:=b11 (R:=R) (f:=f) (x5:=none) e2 (.inr (.inl rfl)) I2
    have em:log.map enD++[.tup [.str [108,111,115,101],.int p.1]]=(log++[En.lose p.1]).map enD:=by rw [List.map_append];rfl
    rw [em] at I1 I2
    have z2:=z.next P (Fr.refl _ _) z.fl I1 F1 I2 F2 (.inr hr) (z.ok.drops hp _ (.inl rfl)) (fun q hq=>z.tx q (List.mem_of_mem_eraseIdx hq))
    refine ⟨g2,ro',_,_,_,?_,z2,List.length_eraseIdx_of_lt ok,by simp,by omega,by omega,fun _ _ h=>by cases h⟩
    simp! only [qAq,dD,t2_0,ne_s2,qAp,ne_d2,qBG,ne_c2,qBd,ne_t2,qCI,ne_p2,qDR,P.rd.r,qOR,qLc,t2_1,e1]
    rw [bb]
    rfl
  | turn i j =>
    obtain ⟨p,hp⟩:=qDD ok.1
    obtain ⟨q,hq⟩:=qDD ok.2
    obtain ⟨k1,k2,k3,_,_,_⟩:=P.kinds
    obtain ⟨g1,e1,I1,F1⟩:=qIv (B:=B) (n:=n+3) P.rd i j p q hp hq (by omega)
    obtain ⟨g2,e2,I2,F2⟩:=qMn (B:=B) (n:=n+5) (P.ow.fr F1 k1 k2 k3) i j p q hp hq (by omega)
    have bb:=b11 (R:=R) (f:=f) (x5:=none) e2 (.inr (.inl rfl)) I2
    have em:log.map enD++[.tup [.str [116,117,114,110],.int p.1,.int q.1]]=(log++[En.turn p.1 q.1]).map enD:=by rw [List.map_append];rfl
    rw [em] at I1 I2
    have z2:=z.next P (Fr.refl _ _) z.fl I1 F1 I2 F2 (.inl rfl) (z.ok.turns hp hq) (fun r hr=>by
      rcases List.mem_or_eq_of_mem_set hr with h | h
      · rcases List.mem_or_eq_of_mem_set h with h | h
        · exact z.tx r h
        · rw [h];exact z.tx q (List.mem_of_getElem? hq)
      · rw [h];exact z.tx p (List.mem_of_getElem? hp))
    refine ⟨g2,ro,_,_,_,?_,z2,by simp [lenD],by simp,by omega,by omega,fun _ _ h=>by cases h⟩
    simp! only [qAq,dD,t3_0,ne_s4,qAp,ne_d4,qBG,ne_c4,qBd,qDT,P.rd.r,qOQ,qLb,t3_1,t3_2,e1]
    rw [bb]
    rfl
  | spoil i c =>
    obtain ⟨okc,p,e,hp,hs,he,hne⟩:=ok
    have hz:=z.tx p (List.mem_of_getElem? hp)
    have hjl:=(List.getElem?_eq_some_iff.mp he).1
    obtain ⟨k1,k2,k3,_,_,_⟩:=P.kinds
    have ob:oth [c] e=true:=by
      unfold oth
      have:([c] == ([e]:Tx))=false:=by simpa using fun z=>hne z.symm
      rw [this]
      simp [okc]
    obtain ⟨g1,⟨e1,I1,L1,f1⟩ | zz⟩:=qHp (B:=B) (n:=n+1) P.rd i p hp hs (by have:=hz.2.2;omega) 0 e he [c] (by simp) ob
    · have F1:Fr [R,A,L] G g1:=Fr.of L1 (fun k h1 h2 _ h4=>f1 k h1 h2 h4)
      obtain ⟨g2,e2,I2,F2⟩:=qKi (B:=B) (n:=n+5) (P.ow.fr F1 k1 k2 k3) i p hp (by have:=hz.2.2;omega) 0 c hjl (by omega)
      have e1:callN fns B (n+6) qAx [.ref R,.int i,.int 0,.str [c]] G=.ok .non g1:=e1
      have e2:callN fns B (n+6) qAw [.ref O,.tup [.str [115,112,111,105,108],.int i,.int 0,.str [c]]] g1=.ok .non g2:=e2
      have bb:=b11 (R:=R) (f:=f) (x5:=none) e2 (.inr (.inl rfl)) I2
      have em:log.map enD++[.tup [.str [115,112,111,105,108],.int p.1,.str (p.2.2.1.take 0++[c]++p.2.2.1.drop (0+1))]]=(log++[En.spoil p.1 (p.2.2.1.take 0++[c]++p.2.2.1.drop (0+1))]).map enD:=by rw [List.map_append];rfl
      rw [em] at I1 I2
      have ht:okT (p.2.2.1.take 0++[c]++p.2.2.1.drop (0+1)):=by
        refine ⟨?_,by simp,?_⟩
        · rw [List.take_zero,List.nil_append,List.all_append,Bool.and_eq_true]
          refine ⟨by simp [okc],?_⟩
          rw [List.all_eq_true]
          intro x hx
          exact List.all_eq_true.mp hz.1 x (List.mem_of_mem_drop hx)
        · have:=hz.2.2
          simp only [List.length_append,List.length_take,List.length_drop,List.length_singleton]
          omega
      have z2:=z.next P (Fr.refl _ _) z.fl I1 F1 I2 F2 (.inl rfl) (z.ok.spoil hp _) (fun r hr=>by
        rcases List.mem_or_eq_of_mem_set hr with h | h
        · exact z.tx r h
        · rw [h];exact ht)
      refine ⟨g2,ro,_,_,_,?_,z2,by simp [lenD],by simp,by omega,by omega,fun _ _ h=>by cases h⟩
      simp! only [qAq,dD,t4_0,ne_s5,qAp,ne_d5,qBG,ne_c5,qBd,ne_t5,qCI,qDS,P.rd.r,qMH,qJ0,t4_1,t4_2,t4_3,e1]
      rw [bb]
      rfl
    · omega
end
section
variable {B n:Nat} {G:AH} {R A L O lo f:Nat} {E:List (Nat × Fy.O)} {ro:Nat} {ws:List Pc} {log:List En} {fs:List Tx}
noncomputable def cB (a b c:Nat) (e:CE):CS:=.ite (.not (.val (.call 29 (.cons (.var a) (.cons (.var b) (.cons e (.cons (.var c) .nil))))))) (.ret (.lit (.bl false))) .skip
theorem bothS {σ:Fy.Env} {G0:AH} {a b c:Nat} {e:CE} {dd:Dd} (ha:σ[a]?=some (some (.ref R))) (hb:σ[b]?=some (some (.ref O))) (hc:σ[c]?=some (some (.ref f))) (he:den (callN fns B (n+7)) e σ G0=.ok (dD dd) G)
    (z:Z G R A L O lo f E ro ws log fs) (hl:log.length<4900) (hfs:fs.length<4900) (ok:okD ws dd) :
    ∃ g ro' ws' log' fs',denS (callN fns B (n+7)) B (cB a b c e) σ G0=.nx σ g∧Z g R A L O lo f E ro' ws' log' fs'∧ws'.length=lenD ws.length dd∧log'.length≤log.length+2∧fs'.length≤fs.length+1∧fs.length≤fs'.length∧(∀ i y,dd=.send i y→fs'.length=fs.length+1):=by
  obtain ⟨g,ro',ws',log',fs',e1,r⟩:=qI1 (B:=B) (n:=n) z hl hfs dd ok
  refine ⟨g,ro',ws',log',fs',?_,r⟩
  have da:∀ H,den (callN fns B (n+7)) (.var a) σ H=.ok (.ref R) H:=fun H=>by simp only [den,ha]
  have db:∀ H,den (callN fns B (n+7)) (.var b) σ H=.ok (.ref O) H:=fun H=>by simp only [den,hb]
  have dc:∀ H,den (callN fns B (n+7)) (.var c) σ H=.ok (.ref f) H:=fun H=>by simp only [den,hc]
  have dl:denL (callN fns B (n+7)) (.cons (.var a) (.cons (.var b) (.cons e (.cons (.var c) .nil)))) σ G0=.ok [.ref R,.ref O,dD dd,.ref f] G:=by
    simp only [denL,M.bind_eq,da,db,dc,he,Fy.R.bind_ok,M.ret_eq]
  have dcall:den (callN fns B (n+7)) (.call 29 (.cons (.var a) (.cons (.var b) (.cons e (.cons (.var c) .nil))))) σ G0=.ok (.bl true) g:=by
    rw [den,M.bind_eq,dl]
    exact e1
  simp only [cB,denS,denT,M.bind_eq,dcall,Fy.R.bind_ok,t_bl,M.ret_eq,Bool.not_true,qFf,if_false,Bool.false_eq_true]
end
theorem qJM {h:AH} {i:Nat} {xs:List D} (e:getL h i=some xs):∃ o,h[i]?=some o∧(o=.lst xs∨o=.rol xs):=by
 unfold getL at e
 cases q:h[i]? with
 | none=>rw [q] at e;cases e
 | some o =>
  rw [q] at e
  cases o with
  | lst ys=>cases e;exact ⟨_,rfl,.inl rfl⟩
  | rol ys=>cases e;exact ⟨_,rfl,.inr rfl⟩
  | _=>cases e
theorem qFr {h:AH} {i:Nat} {o:Fy.O} {xs:List D} (e:h[i]?=some o) (ho:o=.lst xs∨o=.rol xs):getL h i=some xs:=by
 unfold getL
 rcases ho with rfl | rfl <;> rw [e]
structure Lw (ns X:List Int) (ys:List Tx) (o1:Fy.O) (t:Nat):Prop where
 x3:∃ a b c,X=[a,b,c]
 o1:o1=.lst (X.map .int)∨o1=.rol (X.map .int)
 y7:ys.length=7
 oy:∀ y∈ys,okT y
noncomputable def EE (ns:List Int) (ys:List Tx) (o1:Fy.O) (t:Nat):List (Nat × Fy.O):=[(0,.rol (ns.map .int)),(9,o1),(t,.lst (ys.map .str))]
noncomputable def SI (ns:List Int) (ys:List Tx) (o1:Fy.O) (t l0 lw lg lf:Nat) (σ:Fy.Env) (G:AH):Prop:=∃ (ro:Nat) (ws:List Pc) (log:List En) (fs:List Tx) (x6 x7 x8 x9:Option D),
 σ=[some (.ref 0),some (.ref 1),some (.ref 4),some (.ref 7),some (.ref 9),some (.ref t),x6,x7,x8,x9]∧Z G 1 2 3 4 6 7 (EE ns ys o1 t) ro ws log fs∧lw≤ws.length∧log.length≤lg∧fs.length≤lf∧l0≤fs.length
section
variable {B n:Nat} {ns X:List Int} {ys:List Tx} {o1:Fy.O} {t:Nat}
theorem Lw.y (w:Lw ns X ys o1 t) {G:AH} {ro:Nat} {ws:List Pc} {log:List En} {fs:List Tx} (z:Z G 1 2 3 4 6 7 (EE ns ys o1 t) ro ws log fs) (j:Nat) (hj:j<7):∃ y,okT y∧((getL G t).bind fun xs=>(ixN xs.length (j:Int)).bind fun k=>xs[k]?)=some (.str y):=by
 have e:=(z.ex (t,.lst (ys.map .str)) (by unfold EE;simp)).1
 have hl:j<ys.length:=by rw [w.y7];exact hj
 refine ⟨ys[j],w.oy _ (List.getElem_mem hl),?_⟩
 rw [qAA e,Option.bind_some,List.length_map,qAb hl,Option.bind_some,List.getElem?_map,List.getElem?_eq_getElem hl]
 rfl
theorem qJS (w:Lw ns X ys o1 t) {G:AH} {ro:Nat} {ws:List Pc} {log:List En} {fs:List Tx} (z:Z G 1 2 3 4 6 7 (EE ns ys o1 t) ro ws log fs) {σ:Fy.Env} {F:Nat→List D→M D} {eh ek:CE} {i j:Nat} (hi:i<2) (hj:j<7) (h5:σ[5]?=some (some (.ref t)))
    (hh:den F eh σ G=.ok (.int i) G) (hk:den F ek σ G=.ok (.int j) G):∃ y,okT y∧den F (.tup (.cons (.lit (.str [115,101,110,100])) (.cons eh (.cons (.bi .ix (.var 5) ek) .nil)))) σ G=.ok (dD (.send i y)) G:=by
  obtain ⟨y,oky,ix⟩:=w.y z j hj
  refine ⟨y,oky,?_⟩
  have d5:∀ H,den F (.var 5) σ H=.ok (.ref t) H:=fun H=>by simp only [den,h5]
  have dx:den F (.bi .ix (.var 5) ek) σ G=.ok (.str y) G:=by
    rw [den,M.bind_eq,d5,R.bind_ok,M.bind_eq,hk,R.bind_ok,o_ix3,ix]
  have dl:denL F (.cons (.lit (.str [115,101,110,100])) (.cons eh (.cons (.bi .ix (.var 5) ek) .nil))) σ G=.ok [.str [115,101,110,100],.int i,.str y] G:=by
    have d0:den F (.lit (.str [115,101,110,100])) σ G=.ok (.str [115,101,110,100]) G:=by simp only [den,M.ret_eq]
    simp only [denL,M.bind_eq,d0,hh,dx,R.bind_ok,M.ret_eq]
  rw [den,M.bind_eq,dl,R.bind_ok,qF9]
  refine (if_pos ?_).trans rfl
  show 3≤16777216
  omega
theorem turn6 (w:Lw ns X ys o1 t) {l0 lw lg lf:Nat} {σ:Fy.Env} {G:AH} (H:SI ns ys o1 t l0 lw lg lf σ G) (hg:lg<4900) (hf:lf<4900) (k:Nat):∃ σ' G',qAL (TG.nm 6) (denS (callN fns B (n+7)) B qGu) (.int (0+(k:Int))) σ G=.nx σ' G'∧SI ns ys o1 t l0 lw (lg+2) (lf+1) σ' G':=by
 obtain ⟨ro,ws,log,fs,x6,x7,x8,x9,rfl,z,h1,h2,h3,h4⟩:=H
 rw [qAT]
 have ek:D.int (0+(k:Int))=.int k:=by rw [Int.zero_add]
 rw [ek]
 obtain ⟨i,hi,hi2⟩:∃ i:Nat,(k:Int) / 2 % 2=(i:Int)∧i<2:=⟨k / 2 % 2,by omega,by omega⟩
 obtain ⟨j,hj,hj2⟩:∃ j:Nat,(k:Int) % 7=(j:Int)∧j<7:=⟨k % 7,by omega,by omega⟩
 have f2:(0:Int)<2∧(2:Int)<1073741824:=⟨by omega,by omega⟩
 obtain ⟨y,oky,es⟩:=qJS w z (σ:=[some (.ref 0),some (.ref 1),some (.ref 4),some (.ref 7),some (.ref 9),some (.ref t),some (.int k),x7,x8,x9]) (F:=callN fns B (n+7)) (eh:=.bi .mod (.bi .fdiv (.var 6) (.lit (.int 2))) (.lit (.int 2))) (ek:=.bi .mod (.var 6) (.lit (.int 7))) hi2 hj2 rfl
  (by simp! only [if_pos f2,hi]) (by simp! only [hj])
 have bw:=z.pr.rd.bw
 obtain ⟨g,ro',ws',log',fs',e1,z',q1,q2,q3,q4,_⟩:=bothS (B:=B) (n:=n) (σ:=[some (.ref 0),some (.ref 1),some (.ref 4),some (.ref 7),some (.ref 9),some (.ref t),some (.int k),x7,x8,x9]) (a:=1) (b:=2) (c:=3) rfl rfl rfl es z (by omega) (by omega) ⟨hi2,oky⟩
 refine ⟨_,g,e1,ro',ws',log',fs',some (.int k),x7,x8,x9,rfl,z',?_,by omega,by omega,by omega⟩
 rw [q1];show lw≤min 200 (ws.length+1);omega
theorem turn5 {l0 lw lg lf:Nat} {σ:Fy.Env} {G:AH} (H:SI ns ys o1 t l0 (lw+1) lg lf σ G) (hg:lg<4900) (hf:lf<4900) (k:Int):∃ σ' G',qAL (TG.nm 6) (denS (callN fns B (n+7)) B qGv) (.int k) σ G=.nx σ' G'∧SI ns ys o1 t l0 lw (lg+2) (lf+1) σ' G':=by
 obtain ⟨ro,ws,log,fs,x6,x7,x8,x9,rfl,z,h1,h2,h3,h4⟩:=H
 rw [qAT]
 obtain ⟨g,ro',ws',log',fs',e1,z',q1,q2,q3,q4,_⟩:=bothS (B:=B) (n:=n) (σ:=[some (.ref 0),some (.ref 1),some (.ref 4),some (.ref 7),some (.ref 9),some (.ref t),some (.int k),x7,x8,x9]) (a:=1) (b:=2) (c:=3) (e:=.tup (.cons (.lit (.str [99,97,114,114,121])) (.cons (.lit (.int 0)) .nil))) (dd:=.carry 0) rfl rfl rfl (by
  simp! only [if_pos (show 2≤16777216 by omega)];rfl) z (by omega) (by omega) (show 0<ws.length by omega)
 refine ⟨_,g,e1,ro',ws',log',fs',some (.int k),x7,x8,x9,rfl,z',?_,by omega,by omega,by omega⟩
 rw [q1];show lw≤ws.length-1;omega
end
theorem b4:qDC=.seq (cB 1 2 3 (.tup (.cons (.lit (.str [115,101,110,100])) (.cons (.bi .mod (.var 6) (.lit (.int 2))) (.cons (.bi .ix (.var 5) (.bi .mod (.var 6) (.lit (.int 7)))) .nil))))) qFL:=rfl
theorem b2:qGw=.seq (.set (.nm 7) (.call 21 (.cons (.bi .add (.call 20 (.cons (.var 0) (.cons (.bi .add (.lit (.int 1)) (.bi .fdiv (.var 6) (.lit (.int 16)))) .nil))) (.bi .mul (.lit (.int 31)) (.var 6))) (.cons (.lit (.int 2)) .nil)))) (.seq (.set (.nm 8) (.bi .ix (.lst (.cons (.lit (.str [100,111,117,98,108,101])) (.cons (.lit (.str [99,97,114,114,121])) (.cons (.lit (.str [108,111,115,101])) (.cons (.lit (.str [100,111,117,98,108,101])) (.cons (.lit (.str [100,111,117,98,108,101])) .nil)))))) (.bi .mod (.bi .ix (.var 7) (.lit (.int 0))) (.lit (.int 5))))) (cB 1 2 3 (.tup (.cons (.var 8) (.cons (.bi .mod (.bi .ix (.var 7) (.lit (.int 1))) (.un .len (.bi .ix (.var 2) (.lit (.str [114,111,119]))))) .nil))))):=rfl
section
variable {B n:Nat} {ns X:List Int} {ys:List Tx} {o1:Fy.O} {t:Nat}
theorem deed2 {G:AH} {ro:Nat} {ws:List Pc} {log:List En} {fs:List Tx} (z:Z G 1 2 3 4 6 7 (EE ns ys o1 t) ro ws log fs) (hl:log.length<4900) (hf:fs.length<4900) (h0:0<ws.length) (k:Nat) (x7 x8 x9:Option D) :
    ∃ g ro' ws' log' fs' y7 y8,denS (callN fns B (n+7)) B qGw [some (.ref 0),some (.ref 1),some (.ref 4),some (.ref 7),some (.ref 9),some (.ref t),some (.int k),x7,x8,x9] G=.nx [some (.ref 0),some (.ref 1),some (.ref 4),some (.ref 7),some (.ref 9),some (.ref t),some (.int k),y7,y8,x9] g∧Z g 1 2 3 4 6 7 (EE ns ys o1 t) ro' ws' log' fs'∧ws.length-1≤ws'.length∧log'.length≤log.length+2∧fs'.length≤fs.length+1∧fs.length≤fs'.length:=by
  have gs:getL G 0=some (ns.map .int):=qFr (z.ex (0,.rol (ns.map .int)) (by unfold EE;simp)).1 (.inr rfl)
  have bw:=z.pr.rd.bw
  have c1:=qFk B (n+6) G 0 ns (1+k / 16) gs
  have ec:(1:Int)+(k:Int) / 16=((1+k / 16:Nat):Int):=by omega
  generalize ns.getD (1+k / 16) 0=c at c1
  have f16:(0:Int)<16∧(16:Int)<1073741824:=⟨by omega,by omega⟩
  have mo:mulOk (31:Int) (k:Int):=qGN (by omega)
  obtain ⟨g0,X',sx,gX,lX,bX⟩:=qHJ B (n+6) G (c+31*(k:Int)) 2 (by omega)
  have sx:callN fns B (n+7) qB5 [.int (c+31*(k:Int)),.int 2] G=.ok (.ref (G.length+1)) (G++g0):=sx
  obtain ⟨a,b,rfl⟩:∃ a b,X'=[a,b]:=by
    match X',lX with
    | [a,b],_=>exact ⟨a,b,rfl⟩
  obtain ⟨v,hv,hv2⟩:∃ v:Nat,a % 5=(v:Int)∧v<5:=⟨(a % 5).toNat,by omega,by omega⟩
  obtain ⟨j,hj,hj2⟩:∃ j:Nat,b % (ws.length:Int)=(j:Int)∧j<ws.length:=by
    have h1:=Int.emod_nonneg b (show (ws.length:Int)≠0 by omega)
    have h2:=Int.emod_lt_of_pos b (show (0:Int)<ws.length by omega)
    exact ⟨(b % (ws.length:Int)).toNat,by omega,by omega⟩
  obtain ⟨wd,dd,hwd,hdd,okd,hlen⟩:∃ (wd:Tx) (dd:Dd),[D.str [100,111,117,98,108,101],.str [99,97,114,114,121],.str [108,111,115,101],.str [100,111,117,98,108,101],.str [100,111,117,98,108,101]][v]?=some (.str wd)∧dD dd=.tup [.str wd,.int j]∧okD ws dd∧ws.length-1≤lenD ws.length dd:=by
    match v,hv2 with
    | 0,_=>exact ⟨_,.double j,rfl,rfl,hj2,by show _≤min _ _;omega⟩
    | 1,_=>exact ⟨_,.carry j,rfl,rfl,hj2,Nat.le_refl _⟩
    | 2,_=>exact ⟨_,.lose j,rfl,rfl,hj2,Nat.le_refl _⟩
    | 3,_=>exact ⟨_,.double j,rfl,rfl,hj2,by show _≤min _ _;omega⟩
    | 4,_=>exact ⟨_,.double j,rfl,rfl,hj2,by show _≤min _ _;omega⟩
  have ix:((ixN 5 (v:Int)).bind fun i=>[D.str [100,111,117,98,108,101],.str [99,97,114,114,121],.str [108,111,115,101],.str [100,111,117,98,108,101],.str [100,111,117,98,108,101]][i]?)=some (.str wd):=by rw [qAb hv2,Option.bind_some,hwd]
  obtain ⟨G1,hG1⟩:∃ G1,G1=G++g0:=⟨_,rfl⟩
  have z1:=z.app g0
  have gX:getL (G++g0) (G.length+1)=some [.int a,.int b]:=gX
  rw [← hG1] at sx gX z1
  obtain ⟨G2,hG2⟩:∃ G2,G2=G1++[Fy.O.lst [.str [100,111,117,98,108,101],.str [99,97,114,114,121],.str [108,111,115,101],.str [100,111,117,98,108,101],.str [100,111,117,98,108,101]]]:=⟨_,rfl⟩
  have z2:=z1.app [Fy.O.lst [.str [100,111,117,98,108,101],.str [99,97,114,114,121],.str [108,111,115,101],.str [100,111,117,98,108,101],.str [100,111,117,98,108,101]]]
  rw [← hG2] at z2
  have gX2:getL G2 (G.length+1)=some [.int a,.int b]:=by rw [hG2];exact qAG _ gX
  have gl:getL G2 G1.length=some [.str [100,111,117,98,108,101],.str [99,97,114,114,121],.str [108,111,115,101],.str [100,111,117,98,108,101],.str [100,111,117,98,108,101]]:=by rw [hG2,qAM];rfl
  have i0:((ixN 2 0).bind fun i=>[D.int a,.int b][i]?)=some (.int a):=rfl
  have i1:((ixN 2 1).bind fun i=>[D.int a,.int b][i]?)=some (.int b):=rfl
  have lp:(0:Int)<(ws.length:Int):=by omega
  obtain ⟨g,ro',ws',log',fs',e1,z',q1,q2,q3,q4,q5⟩:=bothS (B:=B) (n:=n) (G0:=G2) (σ:=[some (.ref 0),some (.ref 1),some (.ref 4),some (.ref 7),some (.ref 9),some (.ref t),some (.int k),some (.ref (G.length+1)),some (.str wd),x9]) (a:=1) (b:=2) (c:=3) (e:=.tup (.cons (.var 8) (.cons (.bi .mod (.bi .ix (.var 7) (.lit (.int 1))) (.un .len (.bi .ix (.var 2) (.lit (.str [114,111,119]))))) .nil))) (dd:=dd) rfl rfl rfl (by
    rw [hdd]
    simp! only [gX2,Option.bind_some,i1,z2.pr.ow.xr,qAA z2.pr.ow.row,List.length_map,if_pos lp,hj,if_pos (show 2≤16777216 by omega)]) z2 hl hf okd
  refine ⟨g,ro',ws',log',fs',some (.ref (G.length+1)),some (.str wd),?_,z',by omega,q2,q3,q4⟩
  rw [b2]
  simp! only [if_pos f16,ec,c1,if_pos mo,sx,if_pos (show 5≤16777216 by omega)]
  rw [← hG2]
  simp! only [gX2,gl,Option.bind_some,i0,hv,ix]
  exact e1
theorem turn4 (w:Lw ns X ys o1 t) {σ:Fy.Env} {G:AH} (k:Nat) (hk:k<210) (H:SI ns ys o1 t k (min k 200-k / 16) (4*k) (2*k) σ G):∃ σ' G',qAL (TG.nm 6) (denS (callN fns B (n+7)) B qDC) (.int (0+(k:Int))) σ G=.nx σ' G'∧SI ns ys o1 t (k+1) (min (k+1) 200-(k+1) / 16) (4*(k+1)) (2*(k+1)) σ' G':=by
 obtain ⟨ro,ws,log,fs,x6,x7,x8,x9,rfl,z,h1,h2,h3,h4⟩:=H
 rw [qAT]
 have ek:D.int (0+(k:Int))=.int k:=by rw [Int.zero_add]
 rw [ek]
 obtain ⟨i,hi,hi2⟩:∃ i:Nat,(k:Int) % 2=(i:Int)∧i<2:=⟨k % 2,by omega,by omega⟩
 obtain ⟨j,hj,hj2⟩:∃ j:Nat,(k:Int) % 7=(j:Int)∧j<7:=⟨k % 7,by omega,by omega⟩
 obtain ⟨y,oky,es⟩:=qJS w z (σ:=[some (.ref 0),some (.ref 1),some (.ref 4),some (.ref 7),some (.ref 9),some (.ref t),some (.int k),x7,x8,x9]) (F:=callN fns B (n+7)) (eh:=.bi .mod (.var 6) (.lit (.int 2))) (ek:=.bi .mod (.var 6) (.lit (.int 7))) hi2 hj2 rfl
  (by simp! only [hi]) (by simp! only [hj])
 obtain ⟨g,ro',ws',log',fs',e1,z',q1,q2,q3,q4,q5⟩:=bothS (B:=B) (n:=n) (σ:=[some (.ref 0),some (.ref 1),some (.ref 4),some (.ref 7),some (.ref 9),some (.ref t),some (.int k),x7,x8,x9]) (a:=1) (b:=2) (c:=3) rfl rfl rfl es z (by omega) (by omega) ⟨hi2,oky⟩
 have q1:ws'.length=min 200 (ws.length+1):=q1
 have q5:=q5 _ _ rfl
 have e16:(((k:Int) % 16) == 15)=decide (k % 16=15):=by
  rw [show (k:Int) % 16=((k % 16:Nat):Int) by omega];exact qC7 _ 15
 by_cases c:k % 16=15
 ·have d0:decide ((0:Int)<(ws'.length:Int))=true:=decide_eq_true (by omega)
  obtain ⟨g2,ro2,ws2,log2,fs2,y7,y8,e2,z2,p1,p2,p3,p4⟩:=deed2 (B:=B) (n:=n) z' (by omega) (by omega) (by omega) k x7 x8 x9
  refine ⟨_,g2,?_,ro2,ws2,log2,fs2,some (.int k),y7,y8,x9,rfl,z2,by omega,by omega,by omega,by omega⟩
  show denS (callN fns B (n+7)) B qDC [some (.ref 0),some (.ref 1),some (.ref 4),some (.ref 7),some (.ref 9),some (.ref t),some (.int k),x7,x8,x9] G=_
  rw [b4,denS,e1,qA6]
  simp! only [qFL,e16,c,z'.pr.ow.xr,qAA z'.pr.ow.row,List.length_map,d0]
  exact e2
 ·refine ⟨_,g,?_,ro',ws',log',fs',some (.int k),x7,x8,x9,rfl,z',by omega,by omega,by omega,by omega⟩
  show denS (callN fns B (n+7)) B qDC [some (.ref 0),some (.ref 1),some (.ref 4),some (.ref 7),some (.ref 9),some (.ref t),some (.int k),x7,x8,x9] G=_
  rw [b4,denS,e1,qA6]
  simp! only [qFL,e16,c]
theorem qNc (w:Lw ns X ys o1 t) {l0 lw lg lf:Nat} {σ:Fy.Env} {G:AH} (hw:5≤lw) (hw2:lw≤200) (H:SI ns ys o1 t l0 lw lg lf σ G) (hg:lg<4800) (hf:lf<4800) (k:Nat):∃ σ' G',qAL (TG.nm 6) (denS (callN fns B (n+7)) B qCz) (.int (0+(k:Int))) σ G=.nx σ' G'∧SI ns ys o1 t l0 lw (lg+4) (lf+2) σ' G':=by
 obtain ⟨ro,ws,log,fs,x6,x7,x8,x9,rfl,z,h1,h2,h3,h4⟩:=H
 rw [qAT]
 have ek:D.int (0+(k:Int))=.int k:=by rw [Int.zero_add]
 rw [ek]
 obtain ⟨j,hj,hj2⟩:∃ j:Nat,(k:Int) % 5=(j:Int)∧j<5:=⟨k % 5,by omega,by omega⟩
 obtain ⟨y,oky,es⟩:=qJS w z (σ:=[some (.ref 0),some (.ref 1),some (.ref 4),some (.ref 7),some (.ref 9),some (.ref t),some (.int k),x7,x8,x9]) (F:=callN fns B (n+7)) (eh:=.lit (.int 0)) (ek:=.lit (.int 0)) (i:=0) (j:=0) (by omega) (by omega) rfl (by simp! only [and_self];rfl) (by simp! only [and_self];rfl)
 have dC:dD (.carry j)=.tup [.str [99,97,114,114,121],.int j]:=rfl
 obtain ⟨G1,hG1⟩:∃ G1,G1=G++[Fy.O.lst [dD (.carry j),dD (.send 0 y)]]:=⟨_,rfl⟩
 have z1:=z.app [Fy.O.lst [dD (.carry j),dD (.send 0 y)]]
 rw [← hG1] at z1
 have gl1:G1[G.length]?=some (.lst [dD (.carry j),dD (.send 0 y)]):=by rw [hG1,qAI];rfl
 have hlt:G.length<G1.length:=(List.getElem?_eq_some_iff.mp gl1).1
 have z1':Z G1 1 2 3 4 6 7 ((G.length,.lst [dD (.carry j),dD (.send 0 y)])::EE ns ys o1 t) ro ws log fs:=by
  refine ⟨z1.pr,z1.ok,z1.tx,z1.fl,z1.nf,fun e he=>?_⟩
  rcases List.mem_cons.mp he with h | h
  ·subst h
   refine ⟨gl1,fun hm=>?_,?_⟩
   ·have l:∀ {i:Nat} {o:Fy.O},G[i]?=some o→i<G.length:=fun e=>(List.getElem?_eq_some_iff.mp e).1
    have a1:=l z.pr.rd.r
    have a2:=l z.pr.rd.a
    have a3:=l z.pr.rd.l
    have a4:=l z.pr.ow.od
    have a5:=l z.pr.ow.row
    have a6:=l z.pr.ow.log
    simp only [List.mem_cons,List.not_mem_nil,or_false] at hm
    omega
   ·have:=(List.getElem?_eq_some_iff.mp z.fl).1
    show G.length≠7
    omega
  ·exact z1.ex e h
 obtain ⟨g,ro',ws',log',fs',e1,z',q1,q2,q3,q4,q5⟩:=bothS (B:=B) (n:=n) (σ:=[some (.ref 0),some (.ref 1),some (.ref 4),some (.ref 7),some (.ref 9),some (.ref t),some (.int k),x7,x8,some (dD (.carry j))]) (G0:=G1) (a:=1) (b:=2) (c:=3) (e:=.var 9) (dd:=.carry j) rfl rfl rfl (by simp! only [and_self]) z1' (by omega) (by omega) (show j<ws.length by omega)
 have q1:ws'.length=ws.length-1:=q1
 obtain ⟨g2,ro2,ws2,log2,fs2,e2,z2,p1,p2,p3,p4,_⟩:=bothS (B:=B) (n:=n) (σ:=[some (.ref 0),some (.ref 1),some (.ref 4),some (.ref 7),some (.ref 9),some (.ref t),some (.int k),x7,x8,some (dD (.send 0 y))]) (G0:=g) (a:=1) (b:=2) (c:=3) (e:=.var 9) (dd:=.send 0 y) rfl rfl rfl (by simp! only [and_self]) z' (by omega) (by omega) ⟨by omega,oky⟩
 have p1:ws2.length=min 200 (ws'.length+1):=p1
 have zE:Z g2 1 2 3 4 6 7 (EE ns ys o1 t) ro2 ws2 log2 fs2:=⟨z2.pr,z2.ok,z2.tx,z2.fl,z2.nf,fun e he=>z2.ex e (List.mem_cons_of_mem _ he)⟩
 have gg:getL g G.length=some [dD (.carry j),dD (.send 0 y)]:=qAA (z'.ex (G.length,.lst [dD (.carry j),dD (.send 0 y)]) (List.mem_cons_self ..)).1
 have gg2:getL g2 G.length=some [dD (.carry j),dD (.send 0 y)]:=qAA (z2.ex (G.length,.lst [dD (.carry j),dD (.send 0 y)]) (List.mem_cons_self ..)).1
 refine ⟨_,g2,?_,ro2,ws2,log2,fs2,some (.int k),x7,x8,some (dD (.send 0 y)),rfl,zE,by omega,by omega,by omega,by omega⟩
 have lv:liveN G1 G.length=3:=by unfold liveN;rw [qAA gl1];rfl
 have cb:qGs=cB 1 2 3 (.var 9):=rfl
 have eC:den (callN fns B (n+7)) (.tup (.cons (.lit (.str [99,97,114,114,121])) (.cons (.bi .mod (.var 6) (.lit (.int 5))) .nil))) [some (.ref 0),some (.ref 1),some (.ref 4),some (.ref 7),some (.ref 9),some (.ref t),some (.int k),x7,x8,x9] G=.ok (dD (.carry j)) G:=by
  simp! only [hj,if_pos (show 2≤16777216 by omega),dC]
 have dl:denI (callN fns B (n+7)) (.of (.lst (.cons (.tup (.cons (.lit (.str [99,97,114,114,121])) (.cons (.bi .mod (.var 6) (.lit (.int 5))) .nil))) (.cons (.tup (.cons (.lit (.str [115,101,110,100])) (.cons (.lit (.int 0)) (.cons (.bi .ix (.var 5) (.lit (.int 0))) .nil)))) .nil)))) [some (.ref 0),some (.ref 1),some (.ref 4),some (.ref 7),some (.ref 9),some (.ref t),some (.int k),x7,x8,x9] G=.ok (.live G.length) G1:=by
  rw [denI,M.bind_eq,den,M.bind_eq]
  simp only [denL,M.bind_eq,eC,es,R.bind_ok,M.ret_eq]
  have nl:newL [dD (.carry j),dD (.send 0 y)] G=.ok (.ref G.length) G1:=by
   rw [newL,qF9,hG1]
   refine (if_pos ?_).trans rfl
   show 2≤16777216
   omega
  rw [nl,R.bind_ok,qLI,qAA gl1]
 show denS (callN fns B (n+7)) B qCz [some (.ref 0),some (.ref 1),some (.ref 4),some (.ref 7),some (.ref 9),some (.ref t),some (.int k),x7,x8,x9] G=_
 rw [show qCz=.fori (.nm 9) (.of (.lst (.cons (.tup (.cons (.lit (.str [99,97,114,114,121])) (.cons (.bi .mod (.var 6) (.lit (.int 5))) .nil))) (.cons (.tup (.cons (.lit (.str [115,101,110,100])) (.cons (.lit (.int 0)) (.cons (.bi .ix (.var 5) (.lit (.int 0))) .nil)))) .nil)))) qGs from rfl,denS,dl,qJe,qFf]
 show qAH _ G.length (liveN G1 G.length) 0 _ G1=_
 rw [lv,cb]
 unfold qAH
 rw [qAA gl1]
 show (qAL (TG.nm 9) (denS (callN fns B (n+7)) B (cB 1 2 3 (.var 9))) (dD (.carry j)) _ G1).turn _=_
 rw [qAT]
 show (denS (callN fns B (n+7)) B (cB 1 2 3 (.var 9)) [some (.ref 0),some (.ref 1),some (.ref 4),some (.ref 7),some (.ref 9),some (.ref t),some (.int k),x7,x8,some (dD (.carry j))] G1).turn _=_
 rw [e1,qEl]
 unfold qAH
 rw [gg]
 show (qAL (TG.nm 9) (denS (callN fns B (n+7)) B (cB 1 2 3 (.var 9))) (dD (.send 0 y)) _ g).turn _=_
 rw [qAT]
 show (denS (callN fns B (n+7)) B (cB 1 2 3 (.var 9)) [some (.ref 0),some (.ref 1),some (.ref 4),some (.ref 7),some (.ref 9),some (.ref t),some (.int k),x7,x8,some (dD (.send 0 y))] g).turn _=_
 rw [e2,qEl]
 unfold qAH
 rw [gg2]
 rfl
end
section
variable {B n:Nat} {G:AH} {R A L O lo f:Nat} {E:List (Nat × Fy.O)} {ro:Nat} {ws:List Pc} {log:List En} {fs:List Tx}
theorem Z.keep (z:Z G R A L O lo f E ro ws log fs) (o:Fy.O):Z (G++[o]) R A L O lo f ((G.length,o)::E) ro ws log fs:=by
 have z1:=z.app [o]
 refine ⟨z1.pr,z1.ok,z1.tx,z1.fl,z1.nf,fun e he=>?_⟩
 rcases List.mem_cons.mp he with h | h
 ·subst h
  have l:∀ {i:Nat} {o:Fy.O},G[i]?=some o→i<G.length:=fun e=>(List.getElem?_eq_some_iff.mp e).1
  have a1:=l z.pr.rd.r
  have a2:=l z.pr.rd.a
  have a3:=l z.pr.rd.l
  have a4:=l z.pr.ow.od
  have a5:=l z.pr.ow.row
  have a6:=l z.pr.ow.log
  have a7:=l z.fl
  refine ⟨by rw [qAI];rfl,fun hm=>?_,by show G.length≠f;omega⟩
  simp only [List.mem_cons,List.not_mem_nil,or_false] at hm
  omega
 ·exact z1.ex e h
theorem Z.less (z:Z G R A L O lo f E ro ws log fs) {E':List (Nat × Fy.O)} (h:∀ e∈E',e∈E):Z G R A L O lo f E' ro ws log fs:=⟨z.pr,z.ok,z.tx,z.fl,z.nf,fun e he=>z.ex e (h e he)⟩
theorem deeds {σ:Fy.Env} {q v a b c:Nat} (hσa:∀ d,(σ.set v (some d))[a]?=some (some (.ref R))) (hσb:∀ d,(σ.set v (some d))[b]?=some (some (.ref O))) (hσc:∀ d,(σ.set v (some d))[c]?=some (some (.ref f))) (hσv:∀ d,(σ.set v (some d))[v]?=some (some d)) (ds:List Dd) (hq:∀ {G ro ws log fs},Z G R A L O lo f E ro ws log fs→getL G q=some (ds.map dD)) (N0:Nat) (hN:N0≤200) (h2:2≤N0)
    (okA:∀ (j:Nat) (dd:Dd) (ws:List Pc),ds[j]?=some dd→N0≤ws.length+(if j=4 then 1 else 0)→ws.length≤200→okD ws dd) (hlen:∀ (j:Nat) (dd:Dd) (k:Nat),ds[j]?=some dd→N0≤k+(if j=4 then 1 else 0)→k≤200→N0≤lenD k dd+(if j+1=4 then 1 else 0)) :
    ∀ (m j:Nat) (G:AH) (ro:Nat) (ws:List Pc) (log:List En) (fs:List Tx) (x:Option D),m+j=ds.length+1→j≤ds.length→Z G R A L O lo f E ro ws log fs→N0≤ws.length+(if j=4 then 1 else 0)→log.length+2*(ds.length-j)<4900→fs.length+(ds.length-j)<4900 →
      ∃ x' g ro' ws' log' fs',qAH (qAL (TG.nm v) (denS (callN fns B (n+7)) B (cB a b c (.var v)))) q m j (σ.set v x) G=.nx (σ.set v x') g∧Z g R A L O lo f E ro' ws' log' fs'∧(N0≤ws'.length+(if ds.length=4 then 1 else 0))∧log'.length≤log.length+2*(ds.length-j)∧fs'.length≤fs.length+(ds.length-j)∧fs.length≤fs'.length:=by
  intro m
  induction m with
  | zero=>intro j G ro ws log fs x h1 h2;omega
  | succ m ih =>
    intro j G ro ws log fs x h1 h2 z hw hl hf
    unfold qAH
    rw [hq z]
    by_cases hj:j<ds.length
    · have e:(ds.map dD)[j]?=some (dD ds[j]):=by rw [List.getElem?_map,List.getElem?_eq_getElem hj];rfl
      have ej:ds[j]?=some ds[j]:=List.getElem?_eq_getElem hj
      have bw:=z.pr.rd.bw
      obtain ⟨g,ro',ws',log',fs',e1,z',q1,q2,q3,q4,_⟩:=bothS (B:=B) (n:=n) (σ:=σ.set v (some (dD ds[j]))) (G0:=G) (a:=a) (b:=b) (c:=c) (e:=.var v) (dd:=ds[j]) (hσa _) (hσb _) (hσc _) (by simp only [den,hσv]) z (by omega) (by omega) (okA j _ ws ej hw bw)
      obtain ⟨x',g2,ro2,ws2,log2,fs2,e2,z2,p1,p2,p3,p4⟩:=ih (j+1) g ro' ws' log' fs' (some (dD ds[j])) (by omega) (by omega) z' (by rw [q1];exact hlen j _ _ ej hw bw) (by omega) (by omega)
      refine ⟨x',g2,ro2,ws2,log2,fs2,?_,z2,p1,by omega,by omega,by omega⟩
      simp only [e]
      rw [qAT,List.set_set,e1,qEl]
      exact e2
    · have e:(ds.map dD)[j]?=none:=by rw [List.getElem?_map,List.getElem?_eq_none (by omega)];rfl
      simp only [e]
      have:j=ds.length:=by omega
      rw [this] at hw
      exact ⟨x,G,ro,ws,log,fs,rfl,z,hw,by omega,by omega,Nat.le_refl _⟩
end
section
variable {B n:Nat} {G:AH} {R A L O lo f:Nat} {E:List (Nat × Fy.O)} {ro:Nat} {ws:List Pc} {log:List En} {fs:List Tx}
theorem qG9 (z:Z G R A L O lo f E ro ws log fs) {x y:D} {g:AH} (h:callN fns B (n+7) qBq [.ref R,x,y] G=.exc qAc (G++g)):callN fns B (n+8) qAz [.ref R,x,y] G=.ok (.bl true) (G++g):=by
 rw [qFD]
 have c1:([22077439339750245]:List Nat).contains qAc=true:=by decide
 simp! only [qBO,qCF,z.pr.rd.r,qLA,qIH,h,c1,qCE]
theorem four (z:Z G R A L O lo f E ro ws log fs):∃ g1 g2 g3 g4:AH,callN fns B (n+8) qAz [.ref R,.int 2,.str [97]] G=.ok (.bl true) (G++g1)∧callN fns B (n+8) qAz [.ref R,.int 0,.str []] (G++g1)=.ok (.bl true) (G++g1++g2)∧callN fns B (n+8) qAz [.ref R,.int 1,.str (List.replicate 401 97)] (G++g1++g2)=.ok (.bl true) (G++g1++g2++g3)∧callN fns B (n+8) qAz [.ref R,.bl true,.str [97]] (G++g1++g2++g3)=.ok (.bl true) (G++g1++g2++g3++g4):=by
 have e1:=qG9 (B:=B) (n:=n) (g:=[]) z (x:=.int 2) (y:=.str [97]) (by rw [List.append_nil];exact qDr (n:=n+3) _ _ z.pr.rd (by show (2:Int)<0∨_;right;decide))
 have z1:=z.app []
 obtain ⟨g2,s2⟩:=qDq (B:=B) (n:=n+3) (R:=R) (G:=G++[]) 0 (by omega) (.str []) ⟨by decide,by decide⟩
 have e2:=qG9 (B:=B) (n:=n) z1 (x:=.int 0) s2
 have z2:=z1.app g2
 obtain ⟨g3,s3⟩:=qDq (B:=B) (n:=n+3) (R:=R) (G:=G++[]++g2) 1 (by omega) (.str (List.replicate 401 97)) ⟨by simp,by unfold txOk;simp⟩
 have e3:=qG9 (B:=B) (n:=n) z2 (x:=.int 1) s3
 have z3:=z2.app g3
 have e4:=qG9 (B:=B) (n:=n) (g:=[]) z3 (x:=.bl true) (y:=.str [97]) (by rw [List.append_nil (G++[]++g2++g3)];exact qDr (n:=n+3) (.bl true) (.str [97]) z3.pr.rd trivial)
 exact ⟨[],g2,g3,[],e1,e2,e3,e4⟩
theorem qIP (z : Z G R A L O lo f E ro ws log fs) (hl : log.length < 4800) (hf : fs.length < 4800) (p : Nat) (hp : p < ws.length) (x3 x4 x5 x6 x8 x9 : Option D) :
    ∃ y6 g ro' ws' log' fs', denS (callN fns B (n + 7)) B qBE [some (.ref R), some (.ref O), some (.ref f), x3, x4, x5, x6, some (.int p), x8, x9] G = .nx [some (.ref R), some (.ref O), some (.ref f), x3, x4, x5, y6, some (.int p), x8, x9] g ∧ Z g R A L O lo f E ro' ws' log' fs' ∧ ws'.length = ws.length ∧ log'.length ≤ log.length + 2 ∧ fs'.length ≤ fs.length + 1 ∧ fs.length ≤ fs'.length := by
  obtain ⟨q, hq⟩ := qDD hp
  have oq := z.tx q (List.mem_of_getElem? hq)
  have ra := qCS z.pr.ow hq
  obtain ⟨e, he⟩ : ∃ e, q.2.2.1[0]? = some e := ⟨_, List.getElem?_eq_getElem (by have := oq.2.1; omega)⟩
  have tx := tx_at he
  obtain ⟨G1, hG1⟩ : ∃ G1, G1 = G ++ [Fy.O.lst [.str [97], .str [98]]] := ⟨_, rfl⟩
  have z1 := z.app [Fy.O.lst [.str [97], .str [98]]]
  rw [← hG1] at z1
  have gl : getL G1 G.length = some [.str [97], .str [98]] := by rw [hG1, qAM]; rfl
  have ra1 := qCS z1.pr.ow hq
  obtain ⟨c, hc, hc2, hc3⟩ : ∃ c : Nat, ((ixN 2 (if ([e] == ([97] : Tx)) = true then 1 else 0)).bind fun j => [D.str [97], .str [98]][j]?) = some (.str [c]) ∧ okC c = true ∧ e ≠ c := by
    cases q : ([e] == ([97] : Tx)) with
    | true => exact ⟨98, rfl, rfl, by have : e = 97 := by simpa using q
                                      omega⟩
    | false => exact ⟨97, rfl, rfl, by simpa using q⟩
  have ql : q.2.2.1.length ≤ 16777216 := by have := oq.2.2; omega
  cases hs : q.2.2.2 with
  | true =>
    have sd := qG6 (B := B) (n := n + 6) z1.pr.ow p q hq (by have := oq.2.2; omega) 0 c [78, 111, 68, 101, 101, 100] (.inl ⟨rfl, .inl hs⟩)
    refine ⟨some (.tup [.str [115, 112, 111, 105, 108], .int p, .int 0, .str [c]]), G1, ro, ws, log, fs, ?_, z1, rfl, by omega, by omega, Nat.le_refl _⟩
    have tx0 : ((ixN q.2.2.1.length 0).bind fun k => q.2.2.1[k]?) = some e := tx
    simp! only [qBE, if_pos (show 2 ≤ 16777216 by omega)]
    rw [← hG1]
    simp! only [z1.pr.ow.xr, ra1, pcx2, if_pos ql, tx0, gl, Option.bind_some, hc, if_pos (show 4 ≤ 16777216 by omega), sd, show (([78, 111, 68, 101, 101, 100] : Tx) == []) = false from rfl]
  | false =>
    have sd := qG6 (B := B) (n := n + 6) z1.pr.ow p q hq (by have := oq.2.2; omega) 0 c [] (.inr ⟨rfl, hs, 0, e, rfl, he, hc3⟩)
    obtain ⟨g, ro', ws', log', fs', e1, z', q1, q2, q3, q4, _⟩ := qI1 (B := B) (n := n) z1 (by omega) (by omega) (.spoil p c) ⟨hc2, q, e, hq, hs, he, hc3⟩
    have e1 : callN fns B (n + 7) qC8 [.ref R, .ref O, .tup [.str [115, 112, 111, 105, 108], .int p, .int 0, .str [c]], .ref f] G1 = .ok (.bl true) g := e1
    refine ⟨some (.tup [.str [115, 112, 111, 105, 108], .int p, .int 0, .str [c]]), g, ro', ws', log', fs', ?_, z', q1, q2, q3, q4⟩
    have tx0 : ((ixN q.2.2.1.length 0).bind fun k => q.2.2.1[k]?) = some e := tx
    simp! only [qBE, if_pos (show 2 ≤ 16777216 by omega)]
    rw [← hG1]
    simp! only [z1.pr.ow.xr, ra1, pcx2, if_pos ql, tx0, gl, Option.bind_some, hc, if_pos (show 4 ≤ 16777216 by omega), sd, e1]
end
section
variable {B n:Nat} {G:AH} {R A L O lo f:Nat} {E:List (Nat × Fy.O)} {ro:Nat} {ws:List Pc} {log:List En} {fs:List Tx}
noncomputable def dsE (last:Nat) (y0 y1:Tx):List Dd:=[.double last,.double 0,.send 1 y0,.carry (last / 2),.send 0 y1,.turn (last / 3) last,.turn 0 (last / 2)]
theorem qOX (t:Nat) (ys:List Tx) (ht:(t,Fy.O.lst (ys.map .str))∈E) (y7:ys.length=7) (oy:∀ y∈ys,okT y) (z:Z G R A L O lo f E ro ws log fs) (last:Nat) (hw:ws.length=last+1) (h3:2≤ws.length) (hl:log.length<4000) (hf:fs.length<4000) :
    ∃ g ro' ws' log' fs',callN fns B (n+9) qHv [.ref R,.ref O,.ref f,.ref t,.int last] G=.ok (.bl true) g∧Z g R A L O lo f E ro' ws' log' fs'∧log'.length≤log.length+40∧fs'.length≤fs.length+40∧fs.length≤fs'.length:=by
  rw [qH2]
  have bw:=z.pr.rd.bw
  have gt:∀ {G ro ws log fs} (z:Z G R A L O lo f E ro ws log fs) (j:Nat) (hj:j<7),((getL G t).bind fun xs=>(ixN xs.length (j:Int)).bind fun k=>xs[k]?)=some (.str (ys[j]'(by omega))):=fun z j hj=>by
    rw [qAA (z.ex _ ht).1,Option.bind_some,List.length_map,qAb (by omega),Option.bind_some,List.getElem?_map,List.getElem?_eq_getElem (by omega)]
    rfl
  obtain ⟨y0,hy0⟩:∃ y0,y0=ys[0]'(by omega):=⟨_,rfl⟩
  obtain ⟨y1,hy1⟩:∃ y1,y1=ys[1]'(by omega):=⟨_,rfl⟩
  obtain ⟨y2,hy2⟩:∃ y2,y2=ys[2]'(by omega):=⟨_,rfl⟩
  have o0:okT y0:=by rw [hy0];exact oy _ (List.getElem_mem _)
  have o1:okT y1:=by rw [hy1];exact oy _ (List.getElem_mem _)
  have o2:okT y2:=by rw [hy2];exact oy _ (List.getElem_mem _)
  have t0:=gt z 0 (by omega)
  have t1:=gt z 1 (by omega)
  rw [← hy0] at t0
  rw [← hy1] at t1
  have t0:((getL G t).bind fun xs=>(ixN xs.length 0).bind fun k=>xs[k]?)=some (.str y0):=t0
  have t1:((getL G t).bind fun xs=>(ixN xs.length 1).bind fun k=>xs[k]?)=some (.str y1):=t1
  have f2:(0:Int)<2∧(2:Int)<1073741824:=⟨by omega,by omega⟩
  have f3:(0:Int)<3∧(3:Int)<1073741824:=⟨by omega,by omega⟩
  have e2:(last:Int) / 2=((last / 2:Nat):Int):=by omega
  have e3:(last:Int) / 3=((last / 3:Nat):Int):=by omega
  obtain ⟨l5,hl5⟩:∃ l5,l5=[D.tup [.str [100,111,117,98,108,101],.int last],.tup [.str [100,111,117,98,108,101],.int 0],.tup [.str [115,101,110,100],.int 1,.str y0],.tup [.str [99,97,114,114,121],.int ((last / 2:Nat):Int)],.tup [.str [115,101,110,100],.int 0,.str y1]]:=⟨_,rfl⟩
  obtain ⟨l2,hl2⟩:∃ l2,l2=[D.tup [.str [116,117,114,110],.int ((last / 3:Nat):Int),.int last],.tup [.str [116,117,114,110],.int 0,.int ((last / 2:Nat):Int)]]:=⟨_,rfl⟩
  have l7:l5++l2=(dsE last y0 y1).map dD:=by rw [hl5,hl2];rfl
  obtain ⟨G1,hG1⟩:∃ G1,G1=G++[Fy.O.lst l5]:=⟨_,rfl⟩
  obtain ⟨G2,hG2⟩:∃ G2,G2=G1++[Fy.O.lst l2]:=⟨_,rfl⟩
  obtain ⟨G3,hG3⟩:∃ G3,G3=G2++[Fy.O.lst ((dsE last y0 y1).map dD)]:=⟨_,rfl⟩
  have z1:=z.app [Fy.O.lst l5]
  rw [← hG1] at z1
  have z2:=z1.app [Fy.O.lst l2]
  rw [← hG2] at z2
  have z3:=z2.keep (.lst ((dsE last y0 y1).map dD))
  rw [← hG3] at z3
  have g52:G2[G.length]?=some (.lst l5):=by rw [hG2,hG1];exact qAQ _ (by rw [qAI];rfl)
  have g22:G2[G1.length]?=some (.lst l2):=by rw [hG2,qAI];rfl
  have g3:G3[G2.length]?=some (.lst ((dsE last y0 y1).map dD)):=by rw [hG3,qAI];rfl
  have lv:liveN G3 G2.length=8:=by unfold liveN;rw [qAA g3];rfl
  have dn:(dsE last y0 y1).length=7:=rfl
  obtain ⟨x6,g4,ro4,ws4,log4,fs4,L4,z4,w4,l4,f4,f4'⟩:=deeds (B:=B) (n:=n+1) (σ:=[some (.ref R),some (.ref O),some (.ref f),some (.ref t),some (.int last),some (.ref G.length),none,none,none,none]) (q:=G2.length) (v:=6) (a:=0) (b:=1) (c:=2) (fun _=>rfl) (fun _=>rfl) (fun _=>rfl) (fun _=>rfl) (dsE last y0 y1)
    (fun z=>qAA (z.ex (G2.length,.lst ((dsE last y0 y1).map dD)) (List.mem_cons_self ..)).1) ws.length bw h3
    (fun j dd ws' hj hw' hb'=>by
      match j,hj with
      | 0,hj=>cases hj;show last<ws'.length;simp at hw';omega
      | 1,hj=>cases hj;show 0<ws'.length;simp at hw';omega
      | 2,hj=>cases hj;exact ⟨by omega,o0⟩
      | 3,hj=>cases hj;show last / 2<ws'.length;simp at hw';omega
      | 4,hj=>cases hj;exact ⟨by omega,o1⟩
      | 5,hj=>cases hj;simp at hw';exact ⟨by omega,by omega⟩
      | 6,hj=>cases hj;simp at hw';exact ⟨by omega,by omega⟩
      | j+7,hj=>cases hj)
    (fun j dd k hj hw' hb'=>by
      match j,hj with
      | 0,hj=>cases hj;simp only [lenD] at *;simp at *;omega
      | 1,hj=>cases hj;simp only [lenD] at *;simp at *;omega
      | 2,hj=>cases hj;simp only [lenD] at *;simp at *;omega
      | 3,hj=>cases hj;simp only [lenD] at *;simp at *;omega
      | 4,hj=>cases hj;simp only [lenD] at *;simp at *;omega
      | 5,hj=>cases hj;simp only [lenD] at *;simp at *;omega
      | 6,hj=>cases hj;simp only [lenD] at *;simp at *;omega
      | j+7,hj=>cases hj) 8 0 G3 ro ws log fs none rfl (Nat.zero_le _) z3 (by simp) (by rw [dn];omega) (by rw [dn];omega)
  rw [dn] at l4 f4 w4
  have w4:ws.length≤ws4.length:=by simpa using w4
  have z4:=z4.less (E':=E) (fun e he=>List.mem_cons_of_mem _ he)
  obtain ⟨G5,hG5⟩:∃ G5,G5=g4++[Fy.O.lst [.int 0,.int ((last / 3:Nat):Int),.int last]]:=⟨_,rfl⟩
  have z5:=z4.keep (.lst [.int 0,.int ((last / 3:Nat):Int),.int last])
  rw [← hG5] at z5
  have g5:∀ {G ro ws log fs},Z G R A L O lo f ((g4.length,.lst [.int 0,.int ((last / 3:Nat):Int),.int last])::E) ro ws log fs→getL G g4.length=some [.int 0,.int ((last / 3:Nat):Int),.int last]:=fun z=>qAA (z.ex (g4.length,.lst [.int 0,.int ((last / 3:Nat):Int),.int last]) (List.mem_cons_self ..)).1
  obtain ⟨u1,h1,r1,w1,k1,s1,p1,zz1,q1,q2,q3,q3'⟩:=qIP (B:=B) (n:=n+1) z5 (by omega) (by omega) 0 (by omega) (some (.ref t)) (some (.int last)) (some (.ref G.length)) x6 none none
  obtain ⟨u2,h2,r2,w2,k2,s2,p2,zz2,q4,q5,q6,q6'⟩:=qIP (B:=B) (n:=n+1) zz1 (by omega) (by omega) (last / 3) (by omega) (some (.ref t)) (some (.int last)) (some (.ref G.length)) u1 none none
  obtain ⟨u3,h3',r3,w3,k3,s3,p3,zz3,q7,q8,q9,q9'⟩:=qIP (B:=B) (n:=n+1) zz2 (by omega) (by omega) last (by omega) (some (.ref t)) (some (.int last)) (some (.ref G.length)) u2 none none
  have zz3':=zz3.less (E':=E) (fun e he=>List.mem_cons_of_mem _ he)
  have lv5:liveN G5 g4.length=4:=by unfold liveN;rw [g5 z5];rfl
  obtain ⟨l4',hl4'⟩:∃ l4',l4'=[D.tup [.int 2,.str [97]],.tup [.int 0,.str []],.tup [.int 1,.str (List.replicate 401 97)],.tup [.bl true,.str [97]]]:=⟨_,rfl⟩
  obtain ⟨G6,hG6⟩:∃ G6,G6=h3'++[Fy.O.lst l4']:=⟨_,rfl⟩
  have z6:=zz3'.app [Fy.O.lst l4']
  rw [← hG6] at z6
  obtain ⟨v1,v2,v3,v4,c1,c2,c3,c4⟩:=four (B:=B) (n:=n) z6
  have g6:∀ g,getL (G6++g) h3'.length=some l4':=fun g=>qAG g (by rw [hG6,qAM];rfl)
  have g60:getL G6 h3'.length=some l4':=by rw [hG6,qAM];rfl
  have lv6:liveN G6 h3'.length=5:=by unfold liveN;rw [g60,hl4'];rfl
  have z7:=(((z6.app v1).app v2).app v3).app v4
  obtain ⟨G8,st,F8⟩:=qE0 (B:=B) (n:=n+6) z7.pr z7.wk
  have z8:=z7.fr F8
  have t2:=gt z8 2 (by omega)
  rw [← hy2] at t2
  have t2:((getL G8 t).bind fun xs=>(ixN xs.length 2).bind fun k=>xs[k]?)=some (.str y2):=t2
  obtain ⟨g9,ro9,ws9,log9,fs9,e9,z9,m1,m2,m3,m4,_⟩:=qI1 (B:=B) (n:=n+1) z8 (by omega) (by omega) (.send 1 y2) ⟨by omega,o2⟩
  have e9:callN fns B (n+8) qC8 [.ref R,.ref O,.tup [.str [115,101,110,100],.int 1,.str y2],.ref f] G8=.ok (.bl true) g9:=e9
  refine ⟨g9,ro9,ws9,log9,fs9,?_,z9,by omega,by omega,by omega⟩
  have rp:(List.replicate 401 ([97]:Tx)).flatten=List.replicate 401 97:=by decide
  have mt:(0:Int)≤401∧(401:Int)≤1000000∧([97]:Tx)≠[]∧([97]:Tx).length*(401:Int).toNat≤16777216:=⟨by decide,by decide,by decide,by decide⟩
  have mt2:([97]:Tx)≠[]∧1*401≤16777216:=⟨by decide,by decide⟩
  have cb:qDL=cB 0 1 2 (.var 6):=rfl
  have la:l5.length=5:=by rw [hl5];rfl
  have lb:l2.length=2:=by rw [hl2];rfl
  have s7:(dsE last y0 y1).length=7:=rfl
  simp! only [qCQ,t0,t1,if_pos f2,e2,if_pos (show 2≤16777216 by omega),if_pos (show 3≤16777216 by omega),if_pos (show 5≤16777216 by omega)]
  rw [← hl5,← hG1]
  simp! only [if_pos f3,if_pos f2,e2,e3,if_pos (show 2≤16777216 by omega),if_pos (show 3≤16777216 by omega)]
  rw [← hl2,← hG2]
  simp! only [g52,g22,l7,List.length_map,s7,if_pos (show 7≤16777216 by omega)]
  rw [← hG3]
  simp! only [qAA g3,lv,cb]
  simp only [List.set_cons_succ,List.set_cons_zero] at L4
  rw [L4]
  simp! only [qDH,if_pos f3,e3,if_pos (show 3≤16777216 by omega)]
  rw [← hG5]
  have e01:[D.int 0,.int ((last / 3:Nat):Int),.int last][0+1]?=some (.int ((last / 3:Nat):Int)):=rfl
  have p1:denS (callN fns B (n+8)) B qBE [some (.ref R),some (.ref O),some (.ref f),some (.ref t),some (.int last),some (.ref G.length),x6,some (.int 0),none,none] G5=.nx [some (.ref R),some (.ref O),some (.ref f),some (.ref t),some (.int last),some (.ref G.length),u1,some (.int 0),none,none] h1:=p1
  simp! only [g5 z5,lv5,qAH,p1,g5 zz1,p2,g5 zz2,p3,g5 zz3,List.getElem?_nil,qDI,if_pos (show 2≤16777216 by omega),if_pos mt,if_pos mt2,rp,show (401:Int).toNat=401 from rfl,if_pos (show 4≤16777216 by omega)]
  rw [← hl4',← hG6]
  have j0:l4'[0]?=some (.tup [.int 2,.str [97]]):=by rw [hl4'];rfl
  have j1:l4'[1]?=some (.tup [.int 0,.str []]):=by rw [hl4'];rfl
  have j2:l4'[2]?=some (.tup [.int 1,.str (List.replicate 401 97)]):=by rw [hl4'];rfl
  have j3:l4'[3]?=some (.tup [.bl true,.str [97]]):=by rw [hl4'];rfl
  have j4:l4'[4]?=none:=by rw [hl4'];rfl
  have g61:=g6 v1
  have g62:getL (G6++v1++v2) h3'.length=some l4':=qAG _ g61
  have g63:getL (G6++v1++v2++v3) h3'.length=some l4':=qAG _ g62
  have g64:getL (G6++v1++v2++v3++v4) h3'.length=some l4':=qAG _ g63
  generalize List.replicate 401 97=RR at *
  simp! only [g60,lv6,qAH,j0,qDK,c1,g61,j1,c2,g62,j2,c3,g63,j3,c4,g64,j4,qDJ,st,t2,if_pos (show 3≤16777216 by omega),e9]
end
section
variable {B n:Nat} {G:AH} {R A L O lo f:Nat} {E:List (Nat × Fy.O)} {ro:Nat} {ws:List Pc} {log:List En} {fs:List Tx}
theorem qMU (ok:Ok log ws fs) (hlog:log.length≤5000) (hfs:fs.length≤5000) {q y:Nat} (hq:getL G q=some (log.map enD)) (hf:G[f]?=some (.lst (fs.map .str))) (hy:getL G y=some (ws.map fun p=>D.int p.1)) (k:Nat) (hk:k≤fs.length) (x0 x1 x5 x6:Option D) :
    ∃ g y6,qAL (TG.nm 5) (denS (callN fns B (n+1)) B qAm) (.int k) [x0,x1,some (.ref f),some (.ref y),some (.ref q),x5,x6] G=.nx [x0,x1,some (.ref f),some (.ref y),some (.ref q),some (.int k),y6] (G++g):=by
  rw [qAT]
  have e4:=qOW (B:=B) (n:=n) (h:=G) hq k
  obtain ⟨g2,e3⟩:=qOV (B:=B) (n:=n) (h:=G) hq hlog ok.ok k
  have hs:=ok.sent k
  rw [if_pos (by omega),Int.toNat_natCast] at hs
  have hgn:=ok.gone k
  obtain ⟨G1,hG1⟩:∃ G1,G1=G++g2:=⟨_,rfl⟩
  have hf1:G1[f]?=some (.lst (fs.map .str)):=by rw [hG1];exact qAQ _ hf
  rw [← hG1] at e3
  obtain ⟨G2,hG2⟩:∃ G2,G2=G1++[Fy.O.lst [D.non]]:=⟨_,rfl⟩
  have hf2:G2[f]?=some (.lst (fs.map .str)):=by rw [hG2];exact qAQ _ hf1
  have hn2:G2[G1.length]?=some (.lst [D.non]):=by rw [hG2,qAI];rfl
  obtain ⟨G3,hG3⟩:∃ G3,G3=G2++[Fy.O.lst (fs.map .str++[D.non])]:=⟨_,rfl⟩
  have gl3:getL G3 G2.length=some (fs.map .str++[D.non]):=by rw [hG3,qAM];rfl
  have hf3:getL G3 f=some (fs.map .str):=by rw [hG3];exact qAG _ (qAA hf2)
  have hy3:getL G3 y=some (ws.map fun p=>D.int p.1):=by rw [hG3,hG2,hG1];exact qAG _ (qAG _ (qAG _ hy))
  have ln:(fs.map D.str++[D.non]).length=fs.length+1:=by simp
  have ix:((ixN (fs.map D.str++[D.non]).length (k:Int)).bind fun j=>(fs.map D.str++[D.non])[j]?)=some (ansD (fs[k]?)):=by
    rw [ln,qAb (by omega),Option.bind_some]
    by_cases c:k<fs.length
    · rw [List.getElem?_append_left (by rw [List.length_map];exact c),List.getElem?_map,List.getElem?_eq_getElem c];rfl
    · have:k=fs.length:=by omega
      subst this
      rw [List.getElem?_append_right (by rw [List.length_map];exact Nat.le_refl _),List.length_map,Nat.sub_self,List.getElem?_eq_none (Nat.le_refl _)];rfl
  rw [hs] at e3
  have ea:∀ H,eqTop H (ansD fs[k]?) (ansD fs[k]?)=some true:=fun H=>by
    cases fs[k]? with
    | none=>rfl
    | some u=>show some (u == u)=some true;rw [BEq.rfl]
  have hb:(Ty.bool == Ty.bool || Ty.bool == Ty.int)=true:=rfl
  have ni:qAr (ws.map fun p=>D.int p.1)=some (ws.map fun p=>(p.1:Int)):=by
    have:∀ l:List Pc,qAr (l.map fun p=>D.int p.1)=some (l.map fun p=>(p.1:Int)):=fun l=>by
      induction l with
      | nil=>rfl
      | cons p r ih=>simp only [List.map_cons,qAr,ih,Option.map_some]
    exact this ws
  have hg:log.any (goneE k)=(decide (k<fs.length)&&!((ws.map fun p=>(p.1:Int)).contains (k:Int))):=by
    rw [Bool.eq_iff_iff,hgn,Bool.and_eq_true,decide_eq_true_eq,Bool.not_eq_true',List.contains_eq_mem,decide_eq_false_iff_not]
    constructor
    · rintro ⟨_,h2,h3⟩
      exact ⟨by omega,fun w=>by
        obtain ⟨p,hp,e⟩:=List.mem_map.mp w
        exact h3 p hp e⟩
    · rintro ⟨h2,h3⟩
      exact ⟨by omega,by omega,fun p hp e=>h3 (List.mem_map.mpr ⟨p,hp,e⟩)⟩
  rw [hg] at e4
  have dk:decide ((k:Int)<(fs.length:Int))=decide (k<fs.length):=qHu _ _
  refine ⟨g2++([Fy.O.lst [D.non]]++[Fy.O.lst (fs.map .str++[D.non])]),some (.bl (decide (k<fs.length)&&!((ws.map fun p=>(p.1:Int)).contains (k:Int)))),?_⟩
  have eG:G++(g2++([Fy.O.lst [D.non]]++[Fy.O.lst (fs.map .str++[D.non])]))=G3:=by rw [hG3,hG2,hG1];simp only [List.append_assoc]
  rw [eG]
  generalize hans:ansD fs[k]?=an at *
  simp! only [qAm,e4,e3,if_pos (show 1≤16777216 by omega)]
  rw [← hG2]
  simp! only [hf2,hn2,ln,if_pos (show fs.length+1≤16777216 by omega),if_pos (show fs.length≤16777215 by omega)]
  rw [← hG3]
  rw [ln] at ix
  simp! only [gl3,Option.bind_some,ln,ix,ea,hb,qBn,hf3,List.length_map,dk]
  by_cases c:k<fs.length
  · cases q2:(ws.map fun p=>(p.1:Int)).contains (k:Int) <;> simp! only [c,hy3,Option.bind_some,ni,q2,Bool.true_and]
  · simp! only [c,Bool.false_and]
theorem qGS (z:Z G R A L O lo f E ro ws log fs) (hlog:log.length≤5000) (hfs:fs.length≤5000) (h100:100≤fs.length):∃ G',callN fns B (n+2) qD0 [.ref R,.ref O,.ref f] G=.ok (.bl true) G':=by
 rw [qD5]
 have P:=z.pr
 have hbw:=P.rd.bw
 have gro:=qAA P.ow.row
 have mr:qAN (compF (den (callN fns B (n+1)) qAn) [some (.ref R),some (.ref O),some (.ref f),none,none,none,none]) ro (liveN G ro) 0 G=.ok (ws.map fun p=>D.int p.1) G:=by
  have t:=qDu (compF (den (callN fns B (n+1)) qAn) [some (.ref R),some (.ref O),some (.ref f),none,none,none,none]) (fun d:D=>match d with | .tup [.int a,_,_,_]=>D.int a | _=>D.non) G ro (ws.map pcD) gro (fun x hx=>by
   obtain ⟨p,hp,rfl⟩:=List.mem_map.mp hx
   show compF _ _ _ _=.ok (some (.int p.1)) _
   unfold compF
   simp! only [List.cons_append,List.nil_append,qAn,pcx0]) (liveN G ro) 0 (by unfold liveN;rw [gro];simp) (Nat.zero_le _)
  have em:(ws.map pcD).map (fun d:D=>match d with | .tup [.int a,_,_,_]=>D.int a | _=>D.non)=ws.map fun p=>D.int p.1:=by
   rw [List.map_map];rfl
  rw [List.drop_zero,em] at t
  exact t
 have hlv:liveN G ro<16777216:=by unfold liveN;rw [gro];simp;omega
 obtain ⟨G1,hG1⟩:∃ G1,G1=G++[Fy.O.lst (ws.map fun p=>D.int p.1)]:=⟨_,rfl⟩
 have z1:=z.app [Fy.O.lst (ws.map fun p=>D.int p.1)]
 rw [← hG1] at z1
 have gy1:getL G1 G.length=some (ws.map fun p=>D.int p.1):=by rw [hG1,qAM];rfl
 have f2:=m_log (B:=B) (n:=n) z1.pr.rd
 obtain ⟨G2,hG2⟩:∃ G2,G2=G1++[Fy.O.lst (log.map enD)]:=⟨_,rfl⟩
 have z2:=z1.app [Fy.O.lst (log.map enD)]
 rw [← hG2] at f2 z2
 have gq2:getL G2 G1.length=some (log.map enD):=by rw [hG2,qAM];rfl
 have gy2:getL G2 G.length=some (ws.map fun p=>D.int p.1):=by rw [hG2];exact qAG _ gy1
 obtain ⟨lo',hlo,hlo2⟩:∃ lo':Nat,(if (fs.length:Int)-8 > 0 then (fs.length:Int)-8 else 0)=(lo':Int)∧lo'≤fs.length:=by
  split
  ·exact ⟨fs.length-8,by omega,by omega⟩
  ·exact ⟨0,rfl,by omega⟩
 have sm:qAE (lo':Int)∧qAE (fs.length:Int):=by unfold qAE;omega
 obtain ⟨G3,hG3⟩:∃ G3,G3=G2++[Fy.O.lst (qAK lo' ((fs.length:Int)-lo').toNat)]:=⟨_,rfl⟩
 obtain ⟨G4,hG4⟩:∃ G4,G4=G3++[Fy.O.lst [.int 0,.int 100,.int fs.length]]:=⟨_,rfl⟩
 obtain ⟨ks,hks,hks2⟩:∃ ks:List Nat,qAK lo' ((fs.length:Int)-lo').toNat++[.int 0,.int 100,.int fs.length]=ks.map (fun k:Nat=>D.int k)∧(∀ k∈ks,k≤fs.length)∧ks.length≤fs.length+3:=by
  refine ⟨(List.range ((fs.length:Int)-lo').toNat).map (fun k=>lo'+k)++[0,100,fs.length],?_,fun k hk=>?_,?_⟩
  ·unfold qAK
   rw [List.map_append,List.map_map]
   rfl
  ·rcases List.mem_append.mp hk with h | h
   ·obtain ⟨j,hj,rfl⟩:=List.mem_map.mp h
    have:=List.mem_range.mp hj
    omega
   ·simp only [List.mem_cons,List.not_mem_nil,or_false] at h
    omega
  ·simp
 obtain ⟨G5,hG5⟩:∃ G5,G5=G4++[Fy.O.lst (ks.map fun k:Nat=>D.int k)]:=⟨_,rfl⟩
 have z5:=((z2.app [Fy.O.lst (qAK lo' ((fs.length:Int)-lo').toNat)]).app [Fy.O.lst [.int 0,.int 100,.int fs.length]]).app [Fy.O.lst (ks.map fun k:Nat=>D.int k)]
 have gq5:getL G5 G1.length=some (log.map enD):=by rw [hG5,hG4,hG3];exact qAG _ (qAG _ (qAG _ gq2))
 have gy5:getL G5 G.length=some (ws.map fun p=>D.int p.1):=by rw [hG5,hG4,hG3];exact qAG _ (qAG _ (qAG _ gy2))
 rw [← hG3,← hG4,← hG5] at z5
 have gk5:getL G5 G4.length=some (ks.map fun k:Nat=>D.int k):=by rw [hG5,qAM];rfl
 have r4:G4[G2.length]?=some (.lst (qAK lo' ((fs.length:Int)-lo').toNat)):=by rw [hG4,hG3];exact qAQ _ (by rw [qAI];rfl)
 have s4:G4[G3.length]?=some (.lst [.int 0,.int 100,.int fs.length]):=by rw [hG4,qAI];rfl
 have g23:getL G2 f=some (fs.map .str):=qAA z2.fl
 have gf3:getL G3 f=some (fs.map .str):=by rw [hG3];exact qAG _ g23
 obtain ⟨σ',G',L,g,x5,x6,rfl,rfl⟩:=qHy (fun _ σ H=>∃ (g:AH) (x5 x6:Option D),σ=[some (.ref R),some (.ref O),some (.ref f),some (.ref G.length),some (.ref G1.length),x5,x6]∧H=G5++g)
  (qAL (TG.nm 5) (denS (callN fns B (n+1)) B qAm)) G4.length (ks.map fun k:Nat=>D.int k) [some (.ref R),some (.ref O),some (.ref f),some (.ref G.length),some (.ref G1.length),none,none] G5 ⟨[],none,none,rfl,(List.append_nil _).symm⟩ (fun k σ h ⟨g,x5,x6,e1,e2⟩=>by rw [e2];exact qAG _ gk5)
  (fun j x σ h hj ⟨g,x5,x6,e1,e2⟩=>by
   subst e1 e2
   rw [List.getElem?_map] at hj
   obtain ⟨k,hk,rfl⟩:=Option.map_eq_some_iff.mp hj
   obtain ⟨g2,y6,t⟩:=qMU (B:=B) (n:=n) (G:=G5++g) z.ok hlog hfs (qAG _ gq5) (qAQ _ z5.fl) (qAG _ gy5) k (hks2.1 k (List.mem_of_getElem? hk)) (some (.ref R)) (some (.ref O)) x5 x6
   exact ⟨_,_,t,g++g2,some (.int k),y6,rfl,by rw [List.append_assoc]⟩)
 refine ⟨G5++g,?_⟩
 have rl:(qAK lo' ((fs.length:Int)-lo').toNat).length=((fs.length:Int)-lo').toNat:=qAe _ _
 simp! only [qA1,P.ow.xr,gro,if_pos hlv,mr,List.length_map,if_pos (show ws.length≤16777216 by omega)]
 rw [← hG1]
 simp! only [z1.pr.rd.r,n_log,qIJ,f2,g23,List.length_map,hlo,if_pos sm,rl,if_pos (show ((fs.length:Int)-lo').toNat≤16777216 by omega)]
 rw [← hG3]
 simp! only [gf3,List.length_map,if_pos (show 3≤16777216 by omega)]
 rw [← hG4]
 have lk:(ks.map fun k:Nat=>D.int k).length≤16777216:=by rw [List.length_map];omega
 simp! only [r4,s4,hks,if_pos lk]
 rw [← hG5]
 simp! only [gk5,L,qBm]
end
theorem qDo (f:D→M (Option D)) (P:AH→Prop) (hP:∀ h g,P h→P (h++g)):∀ (xs:List D) (h:AH),P h→(∀ x∈xs,∀ h,P h→∃ (y:Tx) (g:AH),f x h=.ok (some (.str y)) (h++g)∧okT y)→∃ (tx:List Tx) (g:AH),qA4 f xs h=.ok (tx.map .str) (h++g)∧tx.length=xs.length∧∀ y∈tx,okT y
 | [],h,_,_=>⟨[],[],by rw [List.append_nil];rfl,rfl,by simp⟩
 | x::xs,h,hh,H=>by
  obtain ⟨y,g,e1,e2⟩:=H x (List.mem_cons_self ..) h hh
  obtain ⟨tx,g2,e3,e4,e5⟩:=qDo f P hP xs (h++g) (hP h g hh) fun z hz=>H z (List.mem_cons_of_mem _ hz)
  refine ⟨y::tx,g++g2,?_,by simp [e4],fun z hz=>by
   rcases List.mem_cons.mp hz with q | q
   ·rw [q];exact e2
   ·exact e5 z q⟩
  show ((f x).bind fun y=>(qA4 f xs).bind fun ys=>M.ret (match y with | some y=>y::ys | none=>ys)) h=_
  simp only [M.bind_eq,e1,R.bind_ok,e3,M.ret_eq,List.append_assoc]
  rfl
theorem law_true (_B n:Nat) (ns:List Int) (hz:ns.length≤63):∃ h',callN fns 1000 (n+10) i_law [.ref 0] [.rol (ns.map .int)]=.ok (.bl true) h':=by
 rw [c_law]
 have k1:=qKU 1000 (n+8) [.rol (ns.map .int)]
 simp only [List.length_cons,List.length_nil,List.cons_append,List.nil_append,Nat.reduceAdd,Nat.zero_add] at k1
 have b1:callN fns 1000 (n+9) qGb [] [.rol (ns.map .int),.ins qAX (rd 2 3 0),.lst [],.lst []]=.ok (.ref 4) [.rol (ns.map .int),.ins qAX (rd 2 3 0),.lst [],.lst [],.dct (ow 5 6 0),.lst [],.lst []]:=by
  rw [qGk]
  simp! only [qBw,if_pos (show 0≤16777216 by omega),dispD]
  rfl
 obtain ⟨H8,hH8⟩:∃ H8:AH,H8=[.rol (ns.map .int),.ins qAX (rd 2 3 0),.lst [],.lst [],.dct (ow 5 6 0),.lst [],.lst [],.lst []]:=⟨_,rfl⟩
 have l8:H8.length=8:=by rw [hH8];rfl
 have g0:getL H8 0=some (ns.map .int):=by rw [hH8];rfl
 have c0:=qFk 1000 (n+8) H8 0 ns 0 g0
 rw [show D.int ((0:Nat):Int)=D.int 0 from rfl] at c0
 generalize ns.getD 0 0=cell at c0
 obtain ⟨g1,X,sx,gX,lX,bX⟩:=qHJ 1000 (n+8) H8 cell 3 (by omega)
 rw [l8] at sx gX
 have sx:callN fns 1000 (n+9) qB5 [.int cell,.int 3] H8=.ok (.ref 9) (H8++g1):=sx
 have gX:getL (H8++g1) 9=some (X.map .int):=gX
 obtain ⟨a,b,c,rfl⟩:∃ a b c,X=[a,b,c]:=by
  match X,lX with
  | [a,b,c],_=>exact ⟨a,b,c,rfl⟩
 have gX:getL (H8++g1) 9=some [.int a,.int b,.int c]:=gX
 have i0:((ixN 3 0).bind fun j=>[D.int a,.int b,.int c][j]?)=some (.int a):=rfl
 have i1:((ixN 3 1).bind fun j=>[D.int a,.int b,.int c][j]?)=some (.int b):=rfl
 have i2:((ixN 3 2).bind fun j=>[D.int a,.int b,.int c][j]?)=some (.int c):=rfl
 have bb:=bX b (by simp)
 obtain ⟨ys,g2,mr,yl,oy⟩:=qDo (compF (den (callN fns 1000 (n+9)) qGx) [some (.ref 0),some (.ref 1),some (.ref 4),some (.ref 7),some (.ref 9),none,none,none,none,none]) (fun h=>getL h 9=some [.int a,.int b,.int c]) (fun h g e=>qAG g e) (qAK 0 7) (H8++g1) gX (fun x hx h hh=>by
  unfold qAK at hx
  obtain ⟨j,hj,rfl⟩:=List.mem_map.mp hx
  have hj:=List.mem_range.mp hj
  obtain ⟨k,hk,hk2⟩:∃ k:Nat,1+(c+(0+(j:Int))) % 5=(k:Int)∧(1≤k∧k≤400):=⟨(1+(c+(0+(j:Int))) % 5).toNat,by omega,by omega,by omega⟩
  obtain ⟨y,g,sg,oky,_⟩:=qGT 1000 (n+8) h (3*(b+(0+(j:Int)))+1) k hk2
  have mo:mulOk (3:Int) (b+(0+(j:Int))):=qGN (by omega)
  refine ⟨y,g,?_,oky⟩
  unfold compF
  simp! only [List.cons_append,List.nil_append,qGx,hh,Option.bind_some,i1,i2,if_pos mo,hk,sg])
 rw [qAe] at yl
 obtain ⟨Hy,hHy⟩:∃ Hy,Hy=H8++g1++g2:=⟨_,rfl⟩
 obtain ⟨t,ht⟩:∃ t,t=Hy.length:=⟨_,rfl⟩
 obtain ⟨G0,hG0⟩:∃ G0,G0=Hy++[O.lst (ys.map .str)]:=⟨_,rfl⟩
 obtain ⟨o1,ho1,ho2⟩:=qJM gX
 have up:∀ {i:Nat} {o:O},H8[i]?=some o→G0[i]?=some o:=fun e=>by rw [hG0,hHy];exact qAQ _ (qAQ _ (qAQ _ e))
 have h9:G0[9]?=some o1:=by rw [hG0,hHy];exact qAQ _ (qAQ _ ho1)
 have t9:9<t:=by rw [ht,hHy,List.length_append];have:=(List.getElem?_eq_some_iff.mp ho1).1;omega
 have gt0:G0[t]?=some (.lst (ys.map .str)):=by rw [hG0,ht,qAI];rfl
 have w:Lw ns [a,b,c] ys o1 t:=⟨⟨a,b,c,rfl⟩,ho2,yl,oy⟩
 have z0:Z G0 1 2 3 4 6 7 (EE ns ys o1 t) 5 [] [] []:=by
  refine ⟨⟨⟨up (by rw [hH8];rfl),up (by rw [hH8];rfl),up (by rw [hH8];rfl),by decide,by simp,by simp⟩,⟨up (by rw [hH8];rfl),up (by rw [hH8];rfl),up (by rw [hH8];rfl),by decide,by simp,by simp⟩,by decide,by decide,by decide,by decide⟩,Ok.begun,fun p hp=>by simp at hp,up (by rw [hH8];rfl),by decide,fun e he=>?_⟩
  unfold EE at he
  simp only [List.mem_cons,List.not_mem_nil,or_false] at he
  rcases he with rfl | rfl | rfl
  ·exact ⟨up (by rw [hH8];rfl),(by decide:(0:Nat)∉[1,2,3,4,5,6]),(by decide:(0:Nat)≠7)⟩
  ·exact ⟨h9,(by decide:(9:Nat)∉[1,2,3,4,5,6]),(by decide:(9:Nat)≠7)⟩
  ·refine ⟨gt0,fun hm=>?_,by show t≠7;omega⟩
   simp only [List.mem_cons,List.not_mem_nil,or_false] at hm
   omega
 obtain ⟨m,hm,hm1,hm2⟩:∃ m:Nat,197+a % 8=(m:Int)∧197≤m∧m≤204:=⟨(197+a % 8).toNat,by omega,by omega,by omega⟩
 have sm:qAE (m:Int):=by unfold qAE;omega
 obtain ⟨σ1,G1,L1,S1⟩:=qBh (fun k σ G=>SI ns ys o1 t k (min k 200-k / 16) (4*k) (2*k) σ G) (qAL (TG.nm 6) (denS (callN fns 1000 (n+9)) 1000 qDC)) (qAK 0 m) 0 [some (.ref 0),some (.ref 1),some (.ref 4),some (.ref 7),some (.ref 9),some (.ref t),none,none,none,none] G0 ⟨5,[],[],[],none,none,none,none,rfl,z0,by simp,by simp,by simp,by simp⟩ (fun j x σ G hj H=>by
  obtain ⟨hjm,rfl⟩:=qB1 hj
  rw [Nat.zero_add] at *
  exact turn4 (n:=n+2) w j (by omega) H)
 rw [qAe,Nat.zero_add] at S1
 obtain ⟨ro1,ws1,log1,fs1,x6,x7,x8,x9,rfl,z1,q1,q2,q3,q4⟩:=S1
 obtain ⟨G2,st1,F2⟩:=qE0 (B:=1000) (n:=n+7) z1.pr z1.wk
 have z2:=z1.fr F2
 have S2:SI ns ys o1 t 197 185 816 408 [some (.ref 0),some (.ref 1),some (.ref 4),some (.ref 7),some (.ref 9),some (.ref t),x6,x7,x8,x9] G2:=⟨ro1,ws1,log1,fs1,x6,x7,x8,x9,rfl,z2,by omega,by omega,by omega,by omega⟩
 have gX2:∀ {G ro ws log fs},Z G 1 2 3 4 6 7 (EE ns ys o1 t) ro ws log fs→getL G 9=some [.int a,.int b,.int c]:=fun z=>qFr (z.ex (9,o1) (by unfold EE;simp)).1 ho2
 have mid:∃ σ3 G3,denS (callN fns 1000 (n+9)) 1000 (.ite (.val (.bi .eq (.bi .mod (.bi .ix (.var 4) (.lit (.int 1))) (.lit (.int 4))) (.lit (.int 0)))) qGt .skip) [some (.ref 0),some (.ref 1),some (.ref 4),some (.ref 7),some (.ref 9),some (.ref t),x6,x7,x8,x9] G2=.nx σ3 G3∧SI ns ys o1 t 197 58 1210 605 σ3 G3:=by
  cases qb:(b % 4 == 0) with
  | false =>
   refine ⟨_,G2,?_,ro1,ws1,log1,fs1,x6,x7,x8,x9,rfl,z2,by omega,by omega,by omega,by omega⟩
   simp! only [gX2 z2,Option.bind_some,i1,qb]
  | true =>
   obtain ⟨k,hk,hk2⟩:∃ k:Nat,64+b / 4 % 64=(k:Int)∧k≤127:=⟨(64+b / 4 % 64).toNat,by omega,by omega⟩
   have smk:qAE (k:Int):=by unfold qAE;omega
   have sm70:qAE (70:Int):=by unfold qAE;omega
   have f4:(0:Int)<4∧(4:Int)<1073741824:=⟨by omega,by omega⟩
   obtain ⟨σa,Ga,La,Sa⟩:=qBh (fun j σ G=>SI ns ys o1 t 197 (185-j) (816+2*j) (408+j) σ G) (qAL (TG.nm 6) (denS (callN fns 1000 (n+9)) 1000 qGv)) (qAK 0 k) 0 _ G2 S2 (fun j x σ G hj H=>by
    obtain ⟨hjm,rfl⟩:=qB1 hj
    rw [Nat.zero_add] at *
    have:=turn5 (B:=1000) (n:=n+2) (lw:=185-(j+1)) (lg:=816+2*j) (lf:=408+j) (l0:=197) (σ:=σ) (G:=G) (by rw [show 185-(j+1)+1=185-j by omega];exact H) (by omega) (by omega) (0+(j:Int))
    rw [show 816+2*j+2=816+2*(j+1) by omega] at this
    exact this)
   rw [qAe,Nat.zero_add] at Sa
   obtain ⟨σb,Gb,Lb,Sb⟩:=qBh (fun j σ G=>SI ns ys o1 t 197 (185-k) (816+2*k+2*j) (408+k+j) σ G) (qAL (TG.nm 6) (denS (callN fns 1000 (n+9)) 1000 qGu)) (qAK 0 70) 0 σa Ga Sa (fun j x σ G hj H=>by
    obtain ⟨hjm,rfl⟩:=qB1 hj
    rw [Nat.zero_add] at *
    have:=turn6 (B:=1000) (n:=n+2) w H (by omega) (by omega) j
    rw [show 816+2*k+2*j+2=816+2*k+2*(j+1) by omega] at this
    exact this)
   rw [qAe,Nat.zero_add] at Sb
   obtain ⟨rb,wb,lb,fb,y6,y7,y8,y9,rfl,zb,u1,u2,u3,u4⟩:=Sb
   refine ⟨_,Gb,?_,rb,wb,lb,fb,y6,y7,y8,y9,rfl,zb,by omega,by omega,by omega,by omega⟩
   simp! only [gX2 z2,Option.bind_some,i1,qb,qGt,if_pos f4,hk,if_pos smk,Int.toNat_natCast,La,qJo,if_pos sm70,show (70:Int).toNat=70 from rfl,Lb]
 obtain ⟨σ3,G3,L3,S3⟩:=mid
 obtain ⟨r3,w3,l3,f3,y6,y7,y8,y9,rfl,z3,v1,v2,v3,v4⟩:=S3
 obtain ⟨G4,hG4⟩:∃ G4,G4=G3++[O.lst [.int 0,.int 430]]:=⟨_,rfl⟩
 have z4:=z3.app [O.lst [.int 0,.int 430]]
 rw [← hG4] at z4
 have gl4:getL G4 G3.length=some [.int 0,.int 430]:=by rw [hG4,qAM];rfl
 obtain ⟨k4,hk4,hk42⟩:∃ k4:Nat,((ixN 2 (if (c % 32 == 0)=true then 1 else 0)).bind fun j=>[D.int 0,.int 430][j]?)=some (.int k4)∧k4≤430:=by
  cases (c % 32 == 0)
  ·exact ⟨0,rfl,by omega⟩
  ·exact ⟨430,rfl,by omega⟩
 have sm4:qAE (k4:Int):=by unfold qAE;omega
 have S4:SI ns ys o1 t 197 58 (1210+4*0) (605+2*0) [some (.ref 0),some (.ref 1),some (.ref 4),some (.ref 7),some (.ref 9),some (.ref t),y6,y7,y8,y9] G4:=⟨r3,w3,l3,f3,y6,y7,y8,y9,rfl,z4,v1,v2,v3,v4⟩
 obtain ⟨σ5,G5,L5,S5⟩:=qBh (fun j σ G=>SI ns ys o1 t 197 58 (1210+4*j) (605+2*j) σ G) (qAL (TG.nm 6) (denS (callN fns 1000 (n+9)) 1000 qCz)) (qAK 0 k4) 0 _ G4 S4 (fun j x σ G hj H=>by
  obtain ⟨hjm,rfl⟩:=qB1 hj
  rw [Nat.zero_add] at *
  have:=qNc (B:=1000) (n:=n+2) w (by omega) (by omega) H (by omega) (by omega) j
  rw [show 1210+4*j+4=1210+4*(j+1) by omega,show 605+2*j+2=605+2*(j+1) by omega] at this
  exact this)
 rw [qAe,Nat.zero_add] at S5
 obtain ⟨r5,w5,l5,f5,s6,s7,s8,s9,rfl,z5,p1,p2,p3,p4⟩:=S5
 obtain ⟨last,hlast⟩:∃ last:Nat,w5.length=last+1:=⟨w5.length-1,by omega⟩
 have el:(w5.length:Int)-1=(last:Int):=by omega
 obtain ⟨G6,r6,w6,l6,f6,e6,z6,m1,m2,m3⟩:=qOX (B:=1000) (n:=n) t ys (by unfold EE;simp) yl oy z5 last hlast (by omega) (by omega) (by omega)
 obtain ⟨G7,st7,F7⟩:=qE0 (B:=1000) (n:=n+7) z6.pr z6.wk
 have z7:=z6.fr F7
 have fl7:=qE3 (B:=1000) (n:=n+8) z7.pr.rd
 have z8:=z7.app [O.lst (flD w6)]
 obtain ⟨G9,e9⟩:=qGS (B:=1000) (n:=n+7) z8 (by omega) (by omega) (by omega)
 have gl8:getL (G7++[O.lst (flD w6)]) G7.length=some (flD w6):=by rw [qAM];rfl
 have fll:(flD w6).length=w6.length:=by unfold flD;simp
 have bw6:=z7.pr.rd.bw
 have d200:decide ((w6.length:Int)≤200)=true:=decide_eq_true (by omega)
 refine ⟨G9,?_⟩
 have sm7:qAE (7:Int):=by unfold qAE;omega
 have yl2:(ys.map D.str).length≤16777216:=by rw [List.length_map];omega
 simp! only [b_law,k1,b1,if_pos (show 0≤16777216 by omega)]
 rw [← hH8]
 simp! only [c0,sx,if_pos sm7,show (7:Int).toNat=7 from rfl,qAe,if_pos (show 7<16777216 by omega),mr,if_pos yl2]
 rw [← hHy,← ht,← hG0]
 simp! only [gX2 z0,Option.bind_some,i0,hm,if_pos sm,Int.toNat_natCast,L1,qHS,st1,qHT]
 simp only [denS] at L3
 simp! only [and_self] at L3
 rw [L3]
 simp! only [qHU,if_pos (show 2≤16777216 by omega)]
 rw [← hG4]
 simp! only [gX2 z4,gl4,Option.bind_some,i2,hk4,if_pos sm4,Int.toNat_natCast,L5,qHV,z5.pr.ow.xr,qAA z5.pr.ow.row,List.length_map,el,e6,qHW,st7,z7.pr.rd.r,qEy,qDi,fl7,gl8,fll,d200,e9]
noncomputable def top (i:Nat):Stmt:=PySem.Challenge.pw_ferry_k46_two_hundred_in_flight.main.body.getD i (.Pass ⟨0,0,0,0⟩)
noncomputable def qBk (i j:Nat):Stmt:=match top i with
 | .ClassDef _ _ _ b _ _ _ _ _ _ _=>b.getD j (.Pass ⟨0,0,0,0⟩)
 | s=>s
noncomputable def G:List (Str × GK):=[(("law":Str),GK.fn 33),(("FIRST_SIGN":Str),GK.con (.int 32)),(("HOST":Str),GK.con (.int 1)),(("IS_SPOILT":Str),GK.con (.int 3)),(("LAST_HOST":Str),GK.con (.int 1)),(("LAST_SIGN":Str),GK.con (.int 126)),(("LEFT_OUT_SIGN":Str),GK.con (.int 37)),(("MOST_IN_FLIGHT":Str),GK.con (.int 200)),(("MOST_TEXT":Str),GK.con (.int 400)),(("NUMBER":Str),GK.con (.int 0)),(("NoDeed":Str),GK.exc 86239795832164),(("NoPiece":Str),GK.exc 22077439339750245),(("Road":Str),GK.cls 1383031140 5),(("TEXT":Str),GK.con (.int 2)),(("_law_begun":Str),GK.fn 24),(("_law_both":Str),GK.fn 29),(("_law_cell_at":Str),GK.fn 20),(("_law_done":Str),GK.fn 27),(("_law_ends":Str),GK.fn 32),(("_law_log_right":Str),GK.fn 30),(("_law_put":Str),GK.fn 25),(("_law_refuses":Str),GK.fn 31),(("_law_signs":Str),GK.fn 23),(("_law_sound":Str),GK.fn 26),(("_law_stands":Str),GK.fn 28),(("_law_stream":Str),GK.fn 21),(("_law_whole":Str),GK.fn 22),(("all":Str),GK.blt),(("bool":Str),GK.blt),(("int":Str),GK.blt),(("is_gone":Str),GK.fn 19),(("is_number":Str),GK.fn 2),(("is_other_sign":Str),GK.fn 4),(("is_road_text":Str),GK.fn 3),(("is_sign":Str),GK.fn 0),(("is_signs":Str),GK.fn 1),(("isinstance":Str),GK.blt),(("len":Str),GK.blt),(("list":Str),GK.blt),(("max":Str),GK.blt),(("ord":Str),GK.blt),(("range":Str),GK.blt),(("sent_text":Str),GK.fn 18),(("str":Str),GK.blt)]
noncomputable def xs:List (Nat × List Nat):=[(22077439339750245,[22077439339750245])]
noncomputable def xl:List Nat:=[332437021739526678278002,22077439339750245,86239795832164]
theorem qCm:nmOf 332437021739526678278002=("FerryError":Str):=by kernel_rfl
theorem qCN:nmOf 22077439339750245=("NoPiece":Str):=by kernel_rfl
theorem qDm:nmOf 86239795832164=("NoDeed":Str):=by kernel_rfl
noncomputable def Mt:List (Str × Nat × List (Nat × Nat)):=[("__init__",6872327479327219551,[(1383031140,5)]),("flying",112616079453799,[(1383031140,6)]),("log",7106407,[(1383031140,7)]),("text_of",32762665321328486,[(1383031140,8)]),("send",1936027236,[(1383031140,9)]),("is_full",29681726132677740,[(1383031140,10)]),("put_on",123649765896046,[(1383031140,11)]),("piece_at",8100116882379465076,[(1383031140,12)]),("carry",426836652665,[(1383031140,13)]),("lose",1819243365,[(1383031140,14)]),("double",110429873532005,[(1383031140,15)]),("turn",1953854062,[(1383031140,16)]),("spoil",495807588716,[(1383031140,17)])]
noncomputable def At:List (Str × Nat × List Nat):=[("on_way",122519838744953,[1383031140]),("done",1685024357,[1383031140]),("new_number",521332035982369564550514,[1383031140])]
theorem qAf:nmOf 1383031140=("Road":Str):=by kernel_rfl
theorem qHj:nmOf 122519838744953=("on_way":Str):=by kernel_rfl
theorem qKK:nmOf 1685024357=("done":Str):=by kernel_rfl
theorem qEL:nmOf 521332035982369564550514=("new_number":Str):=by kernel_rfl
theorem qFi:nmOf 6872327479327219551=("__init__":Str):=by kernel_rfl
theorem qHk:nmOf 112616079453799=("flying":Str):=by kernel_rfl
theorem qMF:nmOf 7106407=("log":Str):=by kernel_rfl
theorem qGK:nmOf 32762665321328486=("text_of":Str):=by kernel_rfl
theorem qKI:nmOf 1936027236=("send":Str):=by kernel_rfl
theorem qGL:nmOf 29681726132677740=("is_full":Str):=by kernel_rfl
theorem qHi:nmOf 123649765896046=("put_on":Str):=by kernel_rfl
theorem qFh:nmOf 8100116882379465076=("piece_at":Str):=by kernel_rfl
theorem qIn:nmOf 426836652665=("carry":Str):=by kernel_rfl
theorem qKJ:nmOf 1819243365=("lose":Str):=by kernel_rfl
theorem qHl:nmOf 110429873532005=("double":Str):=by kernel_rfl
theorem qKH:nmOf 1953854062=("turn":Str):=by kernel_rfl
theorem qIm:nmOf 495807588716=("spoil":Str):=by kernel_rfl
noncomputable def d_is_sign:Df:=⟨"is_sign","is_sign",top 8,["sign","place"],["sign"]⟩
theorem qHg:DfOk G xs Mt At d_is_sign ⟨1,2,qC0⟩:=⟨⟨rfl,rfl,rfl,by decide +kernel,rfl,by decide +kernel,by decide +kernel⟩,by kernel_rfl,rfl,rfl⟩
noncomputable def d_is_signs:Df:=⟨"is_signs","is_signs",top 9,["thing"],["thing"]⟩
theorem qGH:DfOk G xs Mt At d_is_signs ⟨1,1,qBo⟩:=⟨⟨rfl,rfl,rfl,by decide +kernel,rfl,by decide +kernel,by decide +kernel⟩,by kernel_rfl,rfl,rfl⟩
noncomputable def d_is_number:Df:=⟨"is_number","is_number",top 10,["thing","least","most"],["thing","least","most"]⟩
theorem qFa:DfOk G xs Mt At d_is_number ⟨3,3,qAW⟩:=⟨⟨rfl,rfl,rfl,by decide +kernel,rfl,by decide +kernel,by decide +kernel⟩,by kernel_rfl,rfl,rfl⟩
noncomputable def d_is_road_text:Df:=⟨"is_road_text","is_road_text",top 19,["thing"],["thing"]⟩
theorem qDj:DfOk G xs Mt At d_is_road_text ⟨1,1,qAR⟩:=⟨⟨rfl,rfl,rfl,by decide +kernel,rfl,by decide +kernel,by decide +kernel⟩,by kernel_rfl,rfl,rfl⟩
noncomputable def d_is_other_sign:Df:=⟨"is_other_sign","is_other_sign",top 20,["thing","sign"],["thing","sign"]⟩
theorem qDY:DfOk G xs Mt At d_is_other_sign ⟨2,2,qAU⟩:=⟨⟨rfl,rfl,rfl,by decide +kernel,rfl,by decide +kernel,by decide +kernel⟩,by kernel_rfl,rfl,rfl⟩
noncomputable def d_Road_init:Df:=⟨"__init__","Road.__init__",qBk 21 0,["self"],["self"]⟩
theorem qFe:DfOk G xs Mt At d_Road_init ⟨1,1,qBz⟩:=⟨⟨rfl,rfl,rfl,by decide +kernel,rfl,by decide +kernel,by decide +kernel⟩,by kernel_rfl,rfl,rfl⟩
noncomputable def d_Road_flying:Df:=⟨"flying","Road.flying",qBk 21 1,["self"],["self"]⟩
theorem qEJ:DfOk G xs Mt At d_Road_flying ⟨1,1,qBR⟩:=⟨⟨rfl,rfl,rfl,by decide +kernel,rfl,by decide +kernel,by decide +kernel⟩,by kernel_rfl,rfl,rfl⟩
noncomputable def d_Road_log:Df:=⟨"log","Road.log",qBk 21 2,["self"],["self"]⟩
theorem qGI:DfOk G xs Mt At d_Road_log ⟨1,1,qCR⟩:=⟨⟨rfl,rfl,rfl,by decide +kernel,rfl,by decide +kernel,by decide +kernel⟩,by kernel_rfl,rfl,rfl⟩
noncomputable def d_Road_text_of:Df:=⟨"text_of","Road.text_of",qBk 21 3,["self","number","piece"],["self","number"]⟩
theorem qDk:DfOk G xs Mt At d_Road_text_of ⟨2,3,qA9⟩:=⟨⟨rfl,rfl,rfl,by decide +kernel,rfl,by decide +kernel,by decide +kernel⟩,by kernel_rfl,rfl,rfl⟩
noncomputable def d_Road_send:Df:=⟨"send","Road.send",qBk 21 4,["self","host","text","number"],["self","host","text"]⟩
theorem qFc:DfOk G xs Mt At d_Road_send ⟨3,4,qAv⟩:=⟨⟨rfl,rfl,rfl,by decide +kernel,rfl,by decide +kernel,by decide +kernel⟩,by kernel_rfl,rfl,rfl⟩
noncomputable def d_Road_is_full:Df:=⟨"is_full","Road.is_full",qBk 21 5,["self"],["self"]⟩
theorem qDl:DfOk G xs Mt At d_Road_is_full ⟨1,1,qBB⟩:=⟨⟨rfl,rfl,rfl,by decide +kernel,rfl,by decide +kernel,by decide +kernel⟩,by kernel_rfl,rfl,rfl⟩
noncomputable def d_Road_put_on:Df:=⟨"put_on","Road.put_on",qBk 21 6,["self","host","text","is_spoilt","number"],["self","host","text","is_spoilt"]⟩
theorem qEI:DfOk G xs Mt At d_Road_put_on ⟨4,5,qA2⟩:=⟨⟨rfl,rfl,rfl,by decide +kernel,rfl,by decide +kernel,by decide +kernel⟩,by kernel_rfl,rfl,rfl⟩
noncomputable def d_Road_piece_at:Df:=⟨"piece_at","Road.piece_at",qBk 21 7,["self","place"],["self","place"]⟩
theorem qDZ:DfOk G xs Mt At d_Road_piece_at ⟨2,2,qAh⟩:=⟨⟨rfl,rfl,rfl,by decide +kernel,rfl,by decide +kernel,by decide +kernel⟩,by kernel_rfl,rfl,rfl⟩
noncomputable def d_Road_carry:Df:=⟨"carry","Road.carry",qBk 21 8,["self","place","piece"],["self","place"]⟩
theorem qEv:DfOk G xs Mt At d_Road_carry ⟨2,3,qBH⟩:=⟨⟨rfl,rfl,rfl,by decide +kernel,rfl,by decide +kernel,by decide +kernel⟩,by kernel_rfl,rfl,rfl⟩
noncomputable def d_Road_lose:Df:=⟨"lose","Road.lose",qBk 21 9,["self","place","piece"],["self","place"]⟩
theorem qFd:DfOk G xs Mt At d_Road_lose ⟨2,3,qBX⟩:=⟨⟨rfl,rfl,rfl,by decide +kernel,rfl,by decide +kernel,by decide +kernel⟩,by kernel_rfl,rfl,rfl⟩
noncomputable def d_Road_double:Df:=⟨"double","Road.double",qBk 21 10,["self","place","piece","number"],["self","place"]⟩
theorem qEK:DfOk G xs Mt At d_Road_double ⟨2,4,qA3⟩:=⟨⟨rfl,rfl,rfl,by decide +kernel,rfl,by decide +kernel,by decide +kernel⟩,by kernel_rfl,rfl,rfl⟩
noncomputable def d_Road_turn:Df:=⟨"turn","Road.turn",qBk 21 11,["self","place","other","piece","other_piece"],["self","place","other"]⟩
theorem qFb:DfOk G xs Mt At d_Road_turn ⟨3,5,qA5⟩:=⟨⟨rfl,rfl,rfl,by decide +kernel,rfl,by decide +kernel,by decide +kernel⟩,by kernel_rfl,rfl,rfl⟩
noncomputable def d_Road_spoil:Df:=⟨"spoil","Road.spoil",qBk 21 12,["self","place","at","sign","piece","text","spoilt"],["self","place","at","sign"]⟩
theorem qEu:DfOk G xs Mt At d_Road_spoil ⟨4,7,qAP⟩:=⟨⟨rfl,rfl,rfl,by decide +kernel,rfl,by decide +kernel,by decide +kernel⟩,by kernel_rfl,rfl,rfl⟩
noncomputable def d_sent_text:Df:=⟨"sent_text","sent_text",top 23,["log","number","texts","entry","kind"],["log","number"]⟩
theorem qFV:DfOk G xs Mt At d_sent_text ⟨2,5,qCh⟩:=⟨⟨rfl,rfl,rfl,by decide +kernel,rfl,by decide +kernel,by decide +kernel⟩,by kernel_rfl,rfl,rfl⟩
noncomputable def d_is_gone:Df:=⟨"is_gone","is_gone",top 24,["log","number","entry"],["log","number"]⟩
theorem qHh:DfOk G xs Mt At d_is_gone ⟨2,3,qC1⟩:=⟨⟨rfl,rfl,rfl,by decide +kernel,rfl,by decide +kernel,by decide +kernel⟩,by kernel_rfl,rfl,rfl⟩
noncomputable def d_law_cell_at:Df:=⟨"_law_cell_at","_law_cell_at",top 26,["_law_script","_law_k"],["_law_script","_law_k"]⟩
theorem qEH:DfOk G xs Mt At d_law_cell_at ⟨2,2,qBP⟩:=⟨⟨rfl,rfl,rfl,by decide +kernel,rfl,by decide +kernel,by decide +kernel⟩,by kernel_rfl,rfl,rfl⟩
noncomputable def d_law_stream:Df:=⟨"_law_stream","_law_stream",top 27,["_law_cell","_law_many","_law_found","_law_number","_law_k"],["_law_cell","_law_many"]⟩
theorem qEs:DfOk G xs Mt At d_law_stream ⟨2,5,qBa⟩:=⟨⟨rfl,rfl,rfl,by decide +kernel,rfl,by decide +kernel,by decide +kernel⟩,by kernel_rfl,rfl,rfl⟩
noncomputable def d_law_whole:Df:=⟨"_law_whole","_law_whole",top 28,["_law_found"],["_law_found"]⟩
theorem qFW:DfOk G xs Mt At d_law_whole ⟨1,1,qCi⟩:=⟨⟨rfl,rfl,rfl,by decide +kernel,rfl,by decide +kernel,by decide +kernel⟩,by kernel_rfl,rfl,rfl⟩
noncomputable def d_law_signs:Df:=⟨"_law_signs","_law_signs",top 29,["_law_x","_law_many","_law_some"],["_law_x","_law_many"]⟩
theorem qFY:DfOk G xs Mt At d_law_signs ⟨2,3,qBW⟩:=⟨⟨rfl,rfl,rfl,by decide +kernel,rfl,by decide +kernel,by decide +kernel⟩,by kernel_rfl,rfl,rfl⟩
noncomputable def d_law_begun:Df:=⟨"_law_begun","_law_begun",top 30,[],[]⟩
theorem qFZ:DfOk G xs Mt At d_law_begun ⟨0,0,qBw⟩:=⟨⟨rfl,rfl,rfl,by decide +kernel,rfl,by decide +kernel,by decide +kernel⟩,by kernel_rfl,rfl,rfl⟩
noncomputable def d_law_put:Df:=⟨"_law_put","_law_put",top 31,["_law_own","_law_word","_law_host","_law_text","_law_spoilt","_law_number"],["_law_own","_law_word","_law_host","_law_text","_law_spoilt"]⟩
theorem qHf:DfOk G xs Mt At d_law_put ⟨5,6,qBl⟩:=⟨⟨rfl,rfl,rfl,by decide +kernel,rfl,by decide +kernel,by decide +kernel⟩,by kernel_rfl,rfl,rfl⟩
noncomputable def d_law_sound:Df:=⟨"_law_sound","_law_sound",top 32,["_law_own","_law_deed","_law_count","_law_place","_law_piece"],["_law_own","_law_deed"]⟩
theorem qFX:DfOk G xs Mt At d_law_sound ⟨2,5,qAg⟩:=⟨⟨rfl,rfl,rfl,by decide +kernel,rfl,by decide +kernel,by decide +kernel⟩,by kernel_rfl,rfl,rfl⟩
noncomputable def d_law_done:Df:=⟨"_law_done","_law_done",top 33,["_law_own","_law_deed","_law_piece","_law_text"],["_law_own","_law_deed"]⟩
theorem qGF:DfOk G xs Mt At d_law_done ⟨2,4,qAo⟩:=⟨⟨rfl,rfl,rfl,by decide +kernel,rfl,by decide +kernel,by decide +kernel⟩,by kernel_rfl,rfl,rfl⟩
noncomputable def d_law_stands:Df:=⟨"_law_stands","_law_stands",top 34,["_law_road","_law_own","_law_found","_law_told","_law_piece"],["_law_road","_law_own"]⟩
theorem qEt:DfOk G xs Mt At d_law_stands ⟨2,5,qBb⟩:=⟨⟨rfl,rfl,rfl,by decide +kernel,rfl,by decide +kernel,by decide +kernel⟩,by kernel_rfl,rfl,rfl⟩
noncomputable def d_law_both:Df:=⟨"_law_both","_law_both",top 35,["_law_road","_law_own","_law_deed","_law_firsts","_law_found","_law_due"],["_law_road","_law_own","_law_deed","_law_firsts"]⟩
theorem qGG:DfOk G xs Mt At d_law_both ⟨4,6,qAq⟩:=⟨⟨rfl,rfl,rfl,by decide +kernel,rfl,by decide +kernel,by decide +kernel⟩,by kernel_rfl,rfl,rfl⟩
noncomputable def d_law_log_right:Df:=⟨"_law_log_right","_law_log_right",top 36,["_law_road","_law_own","_law_firsts","_law_flying","_law_told","_law_number","_law_gone"],["_law_road","_law_own","_law_firsts"]⟩
theorem qDX:DfOk G xs Mt At d_law_log_right ⟨3,7,qA1⟩:=⟨⟨rfl,rfl,rfl,by decide +kernel,rfl,by decide +kernel,by decide +kernel⟩,by kernel_rfl,rfl,rfl⟩
noncomputable def d_law_refuses:Df:=⟨"_law_refuses","_law_refuses",top 37,["_law_road","_law_host","_law_text"],["_law_road","_law_host","_law_text"]⟩
theorem qEG:DfOk G xs Mt At d_law_refuses ⟨3,3,qBO⟩:=⟨⟨rfl,rfl,rfl,by decide +kernel,rfl,by decide +kernel,by decide +kernel⟩,by kernel_rfl,rfl,rfl⟩
noncomputable def d_law_ends:Df:=⟨"_law_ends","_law_ends",top 38,["_law_road","_law_own","_law_firsts","_law_texts","_law_last","_law_rows","_law_deed","_law_place","_law_host","_law_text"],["_law_road","_law_own","_law_firsts","_law_texts","_law_last"]⟩
theorem qGE:DfOk G xs Mt At d_law_ends ⟨5,10,qCQ⟩:=⟨⟨rfl,rfl,rfl,by decide +kernel,rfl,by decide +kernel,by decide +kernel⟩,by kernel_rfl,rfl,rfl⟩
noncomputable def d_law:Df:=⟨"law","law",top 39,["_law_script","_law_road","_law_own","_law_firsts","_law_first","_law_texts","_law_k","_law_xs","_law_word","_law_deed"],["_law_script"]⟩
theorem qOC:DfOk G xs Mt At d_law ⟨1,10,b_law⟩:=⟨⟨rfl,rfl,rfl,by decide +kernel,rfl,by decide +kernel,by decide +kernel⟩,by kernel_rfl,rfl,rfl⟩
noncomputable def ds:List Df:=[d_is_sign,d_is_signs,d_is_number,d_is_road_text,d_is_other_sign,d_Road_init,d_Road_flying,d_Road_log,d_Road_text_of,d_Road_send,d_Road_is_full,d_Road_put_on,d_Road_piece_at,d_Road_carry,d_Road_lose,d_Road_double,d_Road_turn,d_Road_spoil,d_sent_text,d_is_gone,d_law_cell_at,d_law_stream,d_law_whole,d_law_signs,d_law_begun,d_law_put,d_law_sound,d_law_done,d_law_stands,d_law_both,d_law_log_right,d_law_refuses,d_law_ends,d_law]
theorem qH6:qAJ d_is_sign:=fun _ _ _ _ _ _=>ar1 fun _=>rfl
theorem qGq:qAJ d_is_signs:=fun _ _ _ _ _ _=>ar1 fun _=>rfl
theorem qF4:qAJ d_is_number:=fun _ _ _ _ _ _=>ar3 fun _ _ _=>rfl
theorem qD9:qAJ d_is_road_text:=fun _ _ _ _ _ _=>ar1 fun _=>rfl
theorem qDb:qAJ d_is_other_sign:=fun _ _ _ _ _ _=>ar2 fun _ _=>rfl
theorem qDG:qAJ d_Road_init:=fun _ _ _ _ _ _=>ar1 fun _=>rfl
theorem qET:qAJ d_Road_flying:=fun _ _ _ _ _ _=>ar1 fun _=>rfl
theorem qGr:qAJ d_Road_log:=fun _ _ _ _ _ _=>ar1 fun _=>rfl
theorem qEA:qAJ d_Road_text_of:=fun _ _ _ _ _ _=>ar2 fun _ _=>rfl
theorem qF6:qAJ d_Road_send:=fun _ _ _ _ _ _=>ar3 fun _ _ _=>rfl
theorem qEB:qAJ d_Road_is_full:=fun _ _ _ _ _ _=>ar1 fun _=>rfl
theorem qES:qAJ d_Road_put_on:=fun _ _ _ _ _ _=>ar4 fun _ _ _ _=>rfl
theorem qDc:qAJ d_Road_piece_at:=fun _ _ _ _ _ _=>ar2 fun _ _=>rfl
theorem qFK:qAJ d_Road_carry:=fun _ _ _ _ _ _=>ar2 fun _ _=>rfl
theorem qF7:qAJ d_Road_lose:=fun _ _ _ _ _ _=>ar2 fun _ _=>rfl
theorem qEU:qAJ d_Road_double:=fun _ _ _ _ _ _=>ar2 fun _ _=>rfl
theorem qF5:qAJ d_Road_turn:=fun _ _ _ _ _ _=>ar3 fun _ _ _=>rfl
theorem qFJ:qAJ d_Road_spoil:=fun _ _ _ _ _ _=>ar4 fun _ _ _ _=>rfl
theorem qFz:qAJ d_sent_text:=fun _ _ _ _ _ _=>ar2 fun _ _=>rfl
theorem qH7:qAJ d_is_gone:=fun _ _ _ _ _ _=>ar2 fun _ _=>rfl
theorem qER:qAJ d_law_cell_at:=fun _ _ _ _ _ _=>ar2 fun _ _=>rfl
theorem qFH:qAJ d_law_stream:=fun _ _ _ _ _ _=>ar2 fun _ _=>rfl
theorem qF0:qAJ d_law_whole:=fun _ _ _ _ _ _=>ar1 fun _=>rfl
theorem qF2:qAJ d_law_signs:=fun _ _ _ _ _ _=>ar2 fun _ _=>rfl
theorem qF3:qAJ d_law_begun:=fun _ _ _ _ _ _=>ar0 rfl
theorem qH5:qAJ d_law_put:=fun _ _ _ _ _ _=>ar5 fun _ _ _ _ _=>rfl
theorem qF1:qAJ d_law_sound:=fun _ _ _ _ _ _=>ar2 fun _ _=>rfl
theorem qGo:qAJ d_law_done:=fun _ _ _ _ _ _=>ar2 fun _ _=>rfl
theorem qFI:qAJ d_law_stands:=fun _ _ _ _ _ _=>ar2 fun _ _=>rfl
theorem qGp:qAJ d_law_both:=fun _ _ _ _ _ _=>ar4 fun _ _ _ _=>rfl
theorem qDa:qAJ d_law_log_right:=fun _ _ _ _ _ _=>ar3 fun _ _ _=>rfl
theorem qEQ:qAJ d_law_refuses:=fun _ _ _ _ _ _=>ar3 fun _ _ _=>rfl
theorem qGn:qAJ d_law_ends:=fun _ _ _ _ _ _=>ar5 fun _ _ _ _ _=>rfl
theorem qPJ:qAJ d_law:=fun _ _ _ _ _ _=>ar1 fun _=>rfl
set_option maxHeartbeats 0 in
theorem top_mk {K:PySem.W.Frag} {h:Heap} {mg:Str→Option Value} (X:K.In h) (Gm:h.Ns mainGlobals mg)
    {Q0:Addr} {f0:Addr} {od0 an0:Option Addr} {sl0:Array (Option Value)} {oc0 kV0 dc0 pm0 cd0 ct0:Value} {f1:Addr} {od1 an1:Option Addr} {sl1:Array (Option Value)} {oc1 kV1 dc1 pm1 cd1 ct1:Value} {f2:Addr} {od2 an2:Option Addr} {sl2:Array (Option Value)} {oc2 kV2 dc2 pm2 cd2 ct2:Value} {f3:Addr} {od3 an3:Option Addr} {sl3:Array (Option Value)} {oc3 kV3 dc3 pm3 cd3 ct3:Value} {f4:Addr} {od4 an4:Option Addr} {sl4:Array (Option Value)} {oc4 kV4 dc4 pm4 cd4 ct4:Value} {f5:Addr} {od5 an5:Option Addr} {sl5:Array (Option Value)} {oc5 kV5 dc5 pm5 cd5 ct5:Value} {f6:Addr} {od6 an6:Option Addr} {sl6:Array (Option Value)} {oc6 kV6 dc6 pm6 cd6 ct6:Value} {f7:Addr} {od7 an7:Option Addr} {sl7:Array (Option Value)} {oc7 kV7 dc7 pm7 cd7 ct7:Value} {f8:Addr} {od8 an8:Option Addr} {sl8:Array (Option Value)} {oc8 kV8 dc8 pm8 cd8 ct8:Value} {f9:Addr} {od9 an9:Option Addr} {sl9:Array (Option Value)} {oc9 kV9 dc9 pm9 cd9 ct9:Value} {f10:Addr} {od10 an10:Option Addr} {sl10:Array (Option Value)} {oc10 kV10 dc10 pm10 cd10 ct10:Value} {f11:Addr} {od11 an11:Option Addr} {sl11:Array (Option Value)} {oc11 kV11 dc11 pm11 cd11 ct11:Value} {f12:Addr} {od12 an12:Option Addr} {sl12:Array (Option Value)} {oc12 kV12 dc12 pm12 cd12 ct12:Value} {f13:Addr} {od13 an13:Option Addr} {sl13:Array (Option Value)} {oc13 kV13 dc13 pm13 cd13 ct13:Value} {f14:Addr} {od14 an14:Option Addr} {sl14:Array (Option Value)} {oc14 kV14 dc14 pm14 cd14 ct14:Value} {f15:Addr} {od15 an15:Option Addr} {sl15:Array (Option Value)} {oc15 kV15 dc15 pm15 cd15 ct15:Value} {f16:Addr} {od16 an16:Option Addr} {sl16:Array (Option Value)} {oc16 kV16 dc16 pm16 cd16 ct16:Value} {f17:Addr} {od17 an17:Option Addr} {sl17:Array (Option Value)} {oc17 kV17 dc17 pm17 cd17 ct17:Value} {f18:Addr} {od18 an18:Option Addr} {sl18:Array (Option Value)} {oc18 kV18 dc18 pm18 cd18 ct18:Value} {f19:Addr} {od19 an19:Option Addr} {sl19:Array (Option Value)} {oc19 kV19 dc19 pm19 cd19 ct19:Value} {f20:Addr} {od20 an20:Option Addr} {sl20:Array (Option Value)} {oc20 kV20 dc20 pm20 cd20 ct20:Value} {f21:Addr} {od21 an21:Option Addr} {sl21:Array (Option Value)} {oc21 kV21 dc21 pm21 cd21 ct21:Value} {f22:Addr} {od22 an22:Option Addr} {sl22:Array (Option Value)} {oc22 kV22 dc22 pm22 cd22 ct22:Value} {f23:Addr} {od23 an23:Option Addr} {sl23:Array (Option Value)} {oc23 kV23 dc23 pm23 cd23 ct23:Value} {f24:Addr} {od24 an24:Option Addr} {sl24:Array (Option Value)} {oc24 kV24 dc24 pm24 cd24 ct24:Value} {f25:Addr} {od25 an25:Option Addr} {sl25:Array (Option Value)} {oc25 kV25 dc25 pm25 cd25 ct25:Value} {f26:Addr} {od26 an26:Option Addr} {sl26:Array (Option Value)} {oc26 kV26 dc26 pm26 cd26 ct26:Value} {f27:Addr} {od27 an27:Option Addr} {sl27:Array (Option Value)} {oc27 kV27 dc27 pm27 cd27 ct27:Value} {f28:Addr} {od28 an28:Option Addr} {sl28:Array (Option Value)} {oc28 kV28 dc28 pm28 cd28 ct28:Value} {f29:Addr} {od29 an29:Option Addr} {sl29:Array (Option Value)} {oc29 kV29 dc29 pm29 cd29 ct29:Value} {f30:Addr} {od30 an30:Option Addr} {sl30:Array (Option Value)} {oc30 kV30 dc30 pm30 cd30 ct30:Value} {f31:Addr} {od31 an31:Option Addr} {sl31:Array (Option Value)} {oc31 kV31 dc31 pm31 cd31 ct31:Value} {f32:Addr} {od32 an32:Option Addr} {sl32:Array (Option Value)} {oc32 kV32 dc32 pm32 cd32 ct32:Value} {f33:Addr} {od33 an33:Option Addr} {sl33:Array (Option Value)} {oc33 kV33 dc33 pm33 cd33 ct33:Value} {C0:Addr} {C1:Addr} {C2:Addr} {t_FIRST_SIGN:Tok} {t_HOST:Tok} {t_IS_SPOILT:Tok} {t_LAST_HOST:Tok} {t_LAST_SIGN:Tok} {t_LEFT_OUT_SIGN:Tok} {t_MOST_IN_FLIGHT:Tok} {t_MOST_TEXT:Tok} {t_NUMBER:Tok} {t_TEXT:Tok}
    (qa0:PySem.W.nsIn K mainGlobals "Road"=some (some (.ref Q0))) (qpg0:PySem.W.plainGet K Q0 Str.empty=true) (qhd0:PySem.W.hasDictIn K Q0=true) (qpo0:PySem.W.plainOver K Q0=true) (qsa0:PySem.W.findIn K (.ref Q0) "__setattr__"=some (some (.builtin "object.__setattr__"))) (qmk0:PySem.W.makesIn K Q0=true) (qkp0:PySem.W.keepIn K (.ref Q0)=true)
    (qn0_on_way:PySem.W.findIn K (.ref Q0) "on_way"=some none)
    (qn0_done:PySem.W.findIn K (.ref Q0) "done"=some none)
    (qn0_new_number:PySem.W.findIn K (.ref Q0) "new_number"=some none)
    (a0:PySem.W.nsIn K mainGlobals "is_sign"=some (some (.ref f0)))
    (l0:K.lookup f0=some ⟨oc0,od0,.func (PySem.W.fnOf "is_sign" "is_sign" (L2.defArgs d_is_sign.st) (L2.defBody d_is_sign.st) (L2.defScope d_is_sign.st) .none kV0 dc0 pm0 an0 cd0 ct0),sl0⟩) (c0:PySem.W.codeIn K cd0 "is_sign"=true) (k0:PySem.W.keepIn K (.ref f0)=true)
    (a1:PySem.W.nsIn K mainGlobals "is_signs"=some (some (.ref f1)))
    (l1:K.lookup f1=some ⟨oc1,od1,.func (PySem.W.fnOf "is_signs" "is_signs" (L2.defArgs d_is_signs.st) (L2.defBody d_is_signs.st) (L2.defScope d_is_signs.st) .none kV1 dc1 pm1 an1 cd1 ct1),sl1⟩) (c1:PySem.W.codeIn K cd1 "is_signs"=true) (k1:PySem.W.keepIn K (.ref f1)=true)
    (a2:PySem.W.nsIn K mainGlobals "is_number"=some (some (.ref f2)))
    (l2:K.lookup f2=some ⟨oc2,od2,.func (PySem.W.fnOf "is_number" "is_number" (L2.defArgs d_is_number.st) (L2.defBody d_is_number.st) (L2.defScope d_is_number.st) .none kV2 dc2 pm2 an2 cd2 ct2),sl2⟩) (c2:PySem.W.codeIn K cd2 "is_number"=true) (k2:PySem.W.keepIn K (.ref f2)=true)
    (a3:PySem.W.nsIn K mainGlobals "is_road_text"=some (some (.ref f3)))
    (l3:K.lookup f3=some ⟨oc3,od3,.func (PySem.W.fnOf "is_road_text" "is_road_text" (L2.defArgs d_is_road_text.st) (L2.defBody d_is_road_text.st) (L2.defScope d_is_road_text.st) .none kV3 dc3 pm3 an3 cd3 ct3),sl3⟩) (c3:PySem.W.codeIn K cd3 "is_road_text"=true) (k3:PySem.W.keepIn K (.ref f3)=true)
    (a4:PySem.W.nsIn K mainGlobals "is_other_sign"=some (some (.ref f4)))
    (l4:K.lookup f4=some ⟨oc4,od4,.func (PySem.W.fnOf "is_other_sign" "is_other_sign" (L2.defArgs d_is_other_sign.st) (L2.defBody d_is_other_sign.st) (L2.defScope d_is_other_sign.st) .none kV4 dc4 pm4 an4 cd4 ct4),sl4⟩) (c4:PySem.W.codeIn K cd4 "is_other_sign"=true) (k4:PySem.W.keepIn K (.ref f4)=true)
    (a5:PySem.W.findIn K (.ref Q0) "__init__"=some (some (.ref f5))) (m5:PySem.W.isFn K (.ref f5)=true)
    (l5:K.lookup f5=some ⟨oc5,od5,.func (PySem.W.fnOf "__init__" "Road.__init__" (L2.defArgs d_Road_init.st) (L2.defBody d_Road_init.st) (L2.defScope d_Road_init.st) .none kV5 dc5 pm5 an5 cd5 ct5),sl5⟩) (c5:PySem.W.codeIn K cd5 "Road.__init__"=true) (k5:PySem.W.keepIn K (.ref f5)=true)
    (a6:PySem.W.findIn K (.ref Q0) "flying"=some (some (.ref f6))) (m6:PySem.W.isFn K (.ref f6)=true)
    (l6:K.lookup f6=some ⟨oc6,od6,.func (PySem.W.fnOf "flying" "Road.flying" (L2.defArgs d_Road_flying.st) (L2.defBody d_Road_flying.st) (L2.defScope d_Road_flying.st) .none kV6 dc6 pm6 an6 cd6 ct6),sl6⟩) (c6:PySem.W.codeIn K cd6 "Road.flying"=true) (k6:PySem.W.keepIn K (.ref f6)=true)
    (a7:PySem.W.findIn K (.ref Q0) "log"=some (some (.ref f7))) (m7:PySem.W.isFn K (.ref f7)=true)
    (l7:K.lookup f7=some ⟨oc7,od7,.func (PySem.W.fnOf "log" "Road.log" (L2.defArgs d_Road_log.st) (L2.defBody d_Road_log.st) (L2.defScope d_Road_log.st) .none kV7 dc7 pm7 an7 cd7 ct7),sl7⟩) (c7:PySem.W.codeIn K cd7 "Road.log"=true) (k7:PySem.W.keepIn K (.ref f7)=true)
    (a8:PySem.W.findIn K (.ref Q0) "text_of"=some (some (.ref f8))) (m8:PySem.W.isFn K (.ref f8)=true)
    (l8:K.lookup f8=some ⟨oc8,od8,.func (PySem.W.fnOf "text_of" "Road.text_of" (L2.defArgs d_Road_text_of.st) (L2.defBody d_Road_text_of.st) (L2.defScope d_Road_text_of.st) .none kV8 dc8 pm8 an8 cd8 ct8),sl8⟩) (c8:PySem.W.codeIn K cd8 "Road.text_of"=true) (k8:PySem.W.keepIn K (.ref f8)=true)
    (a9:PySem.W.findIn K (.ref Q0) "send"=some (some (.ref f9))) (m9:PySem.W.isFn K (.ref f9)=true)
    (l9:K.lookup f9=some ⟨oc9,od9,.func (PySem.W.fnOf "send" "Road.send" (L2.defArgs d_Road_send.st) (L2.defBody d_Road_send.st) (L2.defScope d_Road_send.st) .none kV9 dc9 pm9 an9 cd9 ct9),sl9⟩) (c9:PySem.W.codeIn K cd9 "Road.send"=true) (k9:PySem.W.keepIn K (.ref f9)=true)
    (a10:PySem.W.findIn K (.ref Q0) "is_full"=some (some (.ref f10))) (m10:PySem.W.isFn K (.ref f10)=true)
    (l10:K.lookup f10=some ⟨oc10,od10,.func (PySem.W.fnOf "is_full" "Road.is_full" (L2.defArgs d_Road_is_full.st) (L2.defBody d_Road_is_full.st) (L2.defScope d_Road_is_full.st) .none kV10 dc10 pm10 an10 cd10 ct10),sl10⟩) (c10:PySem.W.codeIn K cd10 "Road.is_full"=true) (k10:PySem.W.keepIn K (.ref f10)=true)
    (a11:PySem.W.findIn K (.ref Q0) "put_on"=some (some (.ref f11))) (m11:PySem.W.isFn K (.ref f11)=true)
    (l11:K.lookup f11=some ⟨oc11,od11,.func (PySem.W.fnOf "put_on" "Road.put_on" (L2.defArgs d_Road_put_on.st) (L2.defBody d_Road_put_on.st) (L2.defScope d_Road_put_on.st) .none kV11 dc11 pm11 an11 cd11 ct11),sl11⟩) (c11:PySem.W.codeIn K cd11 "Road.put_on"=true) (k11:PySem.W.keepIn K (.ref f11)=true)
    (a12:PySem.W.findIn K (.ref Q0) "piece_at"=some (some (.ref f12))) (m12:PySem.W.isFn K (.ref f12)=true)
    (l12:K.lookup f12=some ⟨oc12,od12,.func (PySem.W.fnOf "piece_at" "Road.piece_at" (L2.defArgs d_Road_piece_at.st) (L2.defBody d_Road_piece_at.st) (L2.defScope d_Road_piece_at.st) .none kV12 dc12 pm12 an12 cd12 ct12),sl12⟩) (c12:PySem.W.codeIn K cd12 "Road.piece_at"=true) (k12:PySem.W.keepIn K (.ref f12)=true)
    (a13:PySem.W.findIn K (.ref Q0) "carry"=some (some (.ref f13))) (m13:PySem.W.isFn K (.ref f13)=true)
    (l13:K.lookup f13=some ⟨oc13,od13,.func (PySem.W.fnOf "carry" "Road.carry" (L2.defArgs d_Road_carry.st) (L2.defBody d_Road_carry.st) (L2.defScope d_Road_carry.st) .none kV13 dc13 pm13 an13 cd13 ct13),sl13⟩) (c13:PySem.W.codeIn K cd13 "Road.carry"=true) (k13:PySem.W.keepIn K (.ref f13)=true)
    (a14:PySem.W.findIn K (.ref Q0) "lose"=some (some (.ref f14))) (m14:PySem.W.isFn K (.ref f14)=true)
    (l14:K.lookup f14=some ⟨oc14,od14,.func (PySem.W.fnOf "lose" "Road.lose" (L2.defArgs d_Road_lose.st) (L2.defBody d_Road_lose.st) (L2.defScope d_Road_lose.st) .none kV14 dc14 pm14 an14 cd14 ct14),sl14⟩) (c14:PySem.W.codeIn K cd14 "Road.lose"=true) (k14:PySem.W.keepIn K (.ref f14)=true)
    (a15:PySem.W.findIn K (.ref Q0) "double"=some (some (.ref f15))) (m15:PySem.W.isFn K (.ref f15)=true)
    (l15:K.lookup f15=some ⟨oc15,od15,.func (PySem.W.fnOf "double" "Road.double" (L2.defArgs d_Road_double.st) (L2.defBody d_Road_double.st) (L2.defScope d_Road_double.st) .none kV15 dc15 pm15 an15 cd15 ct15),sl15⟩) (c15:PySem.W.codeIn K cd15 "Road.double"=true) (k15:PySem.W.keepIn K (.ref f15)=true)
    (a16:PySem.W.findIn K (.ref Q0) "turn"=some (some (.ref f16))) (m16:PySem.W.isFn K (.ref f16)=true)
    (l16:K.lookup f16=some ⟨oc16,od16,.func (PySem.W.fnOf "turn" "Road.turn" (L2.defArgs d_Road_turn.st) (L2.defBody d_Road_turn.st) (L2.defScope d_Road_turn.st) .none kV16 dc16 pm16 an16 cd16 ct16),sl16⟩) (c16:PySem.W.codeIn K cd16 "Road.turn"=true) (k16:PySem.W.keepIn K (.ref f16)=true)
    (a17:PySem.W.findIn K (.ref Q0) "spoil"=some (some (.ref f17))) (m17:PySem.W.isFn K (.ref f17)=true)
    (l17:K.lookup f17=some ⟨oc17,od17,.func (PySem.W.fnOf "spoil" "Road.spoil" (L2.defArgs d_Road_spoil.st) (L2.defBody d_Road_spoil.st) (L2.defScope d_Road_spoil.st) .none kV17 dc17 pm17 an17 cd17 ct17),sl17⟩) (c17:PySem.W.codeIn K cd17 "Road.spoil"=true) (k17:PySem.W.keepIn K (.ref f17)=true)
    (a18:PySem.W.nsIn K mainGlobals "sent_text"=some (some (.ref f18)))
    (l18:K.lookup f18=some ⟨oc18,od18,.func (PySem.W.fnOf "sent_text" "sent_text" (L2.defArgs d_sent_text.st) (L2.defBody d_sent_text.st) (L2.defScope d_sent_text.st) .none kV18 dc18 pm18 an18 cd18 ct18),sl18⟩) (c18:PySem.W.codeIn K cd18 "sent_text"=true) (k18:PySem.W.keepIn K (.ref f18)=true)
    (a19:PySem.W.nsIn K mainGlobals "is_gone"=some (some (.ref f19)))
    (l19:K.lookup f19=some ⟨oc19,od19,.func (PySem.W.fnOf "is_gone" "is_gone" (L2.defArgs d_is_gone.st) (L2.defBody d_is_gone.st) (L2.defScope d_is_gone.st) .none kV19 dc19 pm19 an19 cd19 ct19),sl19⟩) (c19:PySem.W.codeIn K cd19 "is_gone"=true) (k19:PySem.W.keepIn K (.ref f19)=true)
    (a20:PySem.W.nsIn K mainGlobals "_law_cell_at"=some (some (.ref f20)))
    (l20:K.lookup f20=some ⟨oc20,od20,.func (PySem.W.fnOf "_law_cell_at" "_law_cell_at" (L2.defArgs d_law_cell_at.st) (L2.defBody d_law_cell_at.st) (L2.defScope d_law_cell_at.st) .none kV20 dc20 pm20 an20 cd20 ct20),sl20⟩) (c20:PySem.W.codeIn K cd20 "_law_cell_at"=true) (k20:PySem.W.keepIn K (.ref f20)=true)
    (a21:PySem.W.nsIn K mainGlobals "_law_stream"=some (some (.ref f21)))
    (l21:K.lookup f21=some ⟨oc21,od21,.func (PySem.W.fnOf "_law_stream" "_law_stream" (L2.defArgs d_law_stream.st) (L2.defBody d_law_stream.st) (L2.defScope d_law_stream.st) .none kV21 dc21 pm21 an21 cd21 ct21),sl21⟩) (c21:PySem.W.codeIn K cd21 "_law_stream"=true) (k21:PySem.W.keepIn K (.ref f21)=true)
    (a22:PySem.W.nsIn K mainGlobals "_law_whole"=some (some (.ref f22)))
    (l22:K.lookup f22=some ⟨oc22,od22,.func (PySem.W.fnOf "_law_whole" "_law_whole" (L2.defArgs d_law_whole.st) (L2.defBody d_law_whole.st) (L2.defScope d_law_whole.st) .none kV22 dc22 pm22 an22 cd22 ct22),sl22⟩) (c22:PySem.W.codeIn K cd22 "_law_whole"=true) (k22:PySem.W.keepIn K (.ref f22)=true)
    (a23:PySem.W.nsIn K mainGlobals "_law_signs"=some (some (.ref f23)))
    (l23:K.lookup f23=some ⟨oc23,od23,.func (PySem.W.fnOf "_law_signs" "_law_signs" (L2.defArgs d_law_signs.st) (L2.defBody d_law_signs.st) (L2.defScope d_law_signs.st) .none kV23 dc23 pm23 an23 cd23 ct23),sl23⟩) (c23:PySem.W.codeIn K cd23 "_law_signs"=true) (k23:PySem.W.keepIn K (.ref f23)=true)
    (a24:PySem.W.nsIn K mainGlobals "_law_begun"=some (some (.ref f24)))
    (l24:K.lookup f24=some ⟨oc24,od24,.func (PySem.W.fnOf "_law_begun" "_law_begun" (L2.defArgs d_law_begun.st) (L2.defBody d_law_begun.st) (L2.defScope d_law_begun.st) .none kV24 dc24 pm24 an24 cd24 ct24),sl24⟩) (c24:PySem.W.codeIn K cd24 "_law_begun"=true) (k24:PySem.W.keepIn K (.ref f24)=true)
    (a25:PySem.W.nsIn K mainGlobals "_law_put"=some (some (.ref f25)))
    (l25:K.lookup f25=some ⟨oc25,od25,.func (PySem.W.fnOf "_law_put" "_law_put" (L2.defArgs d_law_put.st) (L2.defBody d_law_put.st) (L2.defScope d_law_put.st) .none kV25 dc25 pm25 an25 cd25 ct25),sl25⟩) (c25:PySem.W.codeIn K cd25 "_law_put"=true) (k25:PySem.W.keepIn K (.ref f25)=true)
    (a26:PySem.W.nsIn K mainGlobals "_law_sound"=some (some (.ref f26)))
    (l26:K.lookup f26=some ⟨oc26,od26,.func (PySem.W.fnOf "_law_sound" "_law_sound" (L2.defArgs d_law_sound.st) (L2.defBody d_law_sound.st) (L2.defScope d_law_sound.st) .none kV26 dc26 pm26 an26 cd26 ct26),sl26⟩) (c26:PySem.W.codeIn K cd26 "_law_sound"=true) (k26:PySem.W.keepIn K (.ref f26)=true)
    (a27:PySem.W.nsIn K mainGlobals "_law_done"=some (some (.ref f27)))
    (l27:K.lookup f27=some ⟨oc27,od27,.func (PySem.W.fnOf "_law_done" "_law_done" (L2.defArgs d_law_done.st) (L2.defBody d_law_done.st) (L2.defScope d_law_done.st) .none kV27 dc27 pm27 an27 cd27 ct27),sl27⟩) (c27:PySem.W.codeIn K cd27 "_law_done"=true) (k27:PySem.W.keepIn K (.ref f27)=true)
    (a28:PySem.W.nsIn K mainGlobals "_law_stands"=some (some (.ref f28)))
    (l28:K.lookup f28=some ⟨oc28,od28,.func (PySem.W.fnOf "_law_stands" "_law_stands" (L2.defArgs d_law_stands.st) (L2.defBody d_law_stands.st) (L2.defScope d_law_stands.st) .none kV28 dc28 pm28 an28 cd28 ct28),sl28⟩) (c28:PySem.W.codeIn K cd28 "_law_stands"=true) (k28:PySem.W.keepIn K (.ref f28)=true)
    (a29:PySem.W.nsIn K mainGlobals "_law_both"=some (some (.ref f29)))
    (l29:K.lookup f29=some ⟨oc29,od29,.func (PySem.W.fnOf "_law_both" "_law_both" (L2.defArgs d_law_both.st) (L2.defBody d_law_both.st) (L2.defScope d_law_both.st) .none kV29 dc29 pm29 an29 cd29 ct29),sl29⟩) (c29:PySem.W.codeIn K cd29 "_law_both"=true) (k29:PySem.W.keepIn K (.ref f29)=true)
    (a30:PySem.W.nsIn K mainGlobals "_law_log_right"=some (some (.ref f30)))
    (l30:K.lookup f30=some ⟨oc30,od30,.func (PySem.W.fnOf "_law_log_right" "_law_log_right" (L2.defArgs d_law_log_right.st) (L2.defBody d_law_log_right.st) (L2.defScope d_law_log_right.st) .none kV30 dc30 pm30 an30 cd30 ct30),sl30⟩) (c30:PySem.W.codeIn K cd30 "_law_log_right"=true) (k30:PySem.W.keepIn K (.ref f30)=true)
    (a31:PySem.W.nsIn K mainGlobals "_law_refuses"=some (some (.ref f31)))
    (l31:K.lookup f31=some ⟨oc31,od31,.func (PySem.W.fnOf "_law_refuses" "_law_refuses" (L2.defArgs d_law_refuses.st) (L2.defBody d_law_refuses.st) (L2.defScope d_law_refuses.st) .none kV31 dc31 pm31 an31 cd31 ct31),sl31⟩) (c31:PySem.W.codeIn K cd31 "_law_refuses"=true) (k31:PySem.W.keepIn K (.ref f31)=true)
    (a32:PySem.W.nsIn K mainGlobals "_law_ends"=some (some (.ref f32)))
    (l32:K.lookup f32=some ⟨oc32,od32,.func (PySem.W.fnOf "_law_ends" "_law_ends" (L2.defArgs d_law_ends.st) (L2.defBody d_law_ends.st) (L2.defScope d_law_ends.st) .none kV32 dc32 pm32 an32 cd32 ct32),sl32⟩) (c32:PySem.W.codeIn K cd32 "_law_ends"=true) (k32:PySem.W.keepIn K (.ref f32)=true)
    (a33:PySem.W.nsIn K mainGlobals "law"=some (some (.ref f33)))
    (l33:K.lookup f33=some ⟨oc33,od33,.func (PySem.W.fnOf "law" "law" (L2.defArgs d_law.st) (L2.defBody d_law.st) (L2.defScope d_law.st) .none kV33 dc33 pm33 an33 cd33 ct33),sl33⟩) (c33:PySem.W.codeIn K cd33 "law"=true) (k33:PySem.W.keepIn K (.ref f33)=true)
    (xa0:PySem.W.nsIn K mainGlobals "FerryError"=some (some (.ref C0))) (xi0:PySem.W.excIn K C0 [.type "ValueError",.type "Exception",.type "BaseException",.type "object"] "ValueError.__new__"=true)
    (xa1:PySem.W.nsIn K mainGlobals "NoPiece"=some (some (.ref C1))) (xi1:PySem.W.excIn K C1 [.type "ValueError",.type "Exception",.type "BaseException",.type "object"] "ValueError.__new__"=true)
    (xa2:PySem.W.nsIn K mainGlobals "NoDeed"=some (some (.ref C2))) (xi2:PySem.W.excIn K C2 [.type "ValueError",.type "Exception",.type "BaseException",.type "object"] "ValueError.__new__"=true)
    (xc1:PySem.W.isClsIn K C1=true) (xt1:PySem.W.typeIn K (.ref C1)=some (.type "type")) (xb1:PySem.W.subIn K (.ref C1) (.type "BaseException")=some true)
    (xm1_0:PySem.W.subIn K (.ref C0) (.ref C1)=some false)
    (xm1_1:PySem.W.subIn K (.ref C1) (.ref C1)=some true)
    (xm1_2:PySem.W.subIn K (.ref C2) (.ref C1)=some false)
    (gga0:PySem.W.findIn K (.ref C0) "__getattribute__"=some (some (.builtin "BaseException.__getattribute__"))) (ggt0:PySem.W.findIn K (.ref C0) "__getattr__"=some none) (gcl0:PySem.W.findIn K (.ref C0) "__class__"=some (some (.builtin "object.__class__"))) (gob0:PySem.W.subIn K (.ref C0) (.type "object")=some true) (gbe0:PySem.W.subIn K (.ref C0) (.type "BaseException")=some true) (gis0:PySem.W.isClsIn K C0=true)
    (gga1:PySem.W.findIn K (.ref C1) "__getattribute__"=some (some (.builtin "BaseException.__getattribute__"))) (ggt1:PySem.W.findIn K (.ref C1) "__getattr__"=some none) (gcl1:PySem.W.findIn K (.ref C1) "__class__"=some (some (.builtin "object.__class__"))) (gob1:PySem.W.subIn K (.ref C1) (.type "object")=some true) (gbe1:PySem.W.subIn K (.ref C1) (.type "BaseException")=some true) (gis1:PySem.W.isClsIn K C1=true)
    (gga2:PySem.W.findIn K (.ref C2) "__getattribute__"=some (some (.builtin "BaseException.__getattribute__"))) (ggt2:PySem.W.findIn K (.ref C2) "__getattr__"=some none) (gcl2:PySem.W.findIn K (.ref C2) "__class__"=some (some (.builtin "object.__class__"))) (gob2:PySem.W.subIn K (.ref C2) (.type "object")=some true) (gbe2:PySem.W.subIn K (.ref C2) (.type "BaseException")=some true) (gis2:PySem.W.isClsIn K C2=true)
    (z_FIRST_SIGN:PySem.W.nsIn K mainGlobals "FIRST_SIGN"=some (some (.int 32 t_FIRST_SIGN)))
    (z_HOST:PySem.W.nsIn K mainGlobals "HOST"=some (some (.int 1 t_HOST)))
    (z_IS_SPOILT:PySem.W.nsIn K mainGlobals "IS_SPOILT"=some (some (.int 3 t_IS_SPOILT)))
    (z_LAST_HOST:PySem.W.nsIn K mainGlobals "LAST_HOST"=some (some (.int 1 t_LAST_HOST)))
    (z_LAST_SIGN:PySem.W.nsIn K mainGlobals "LAST_SIGN"=some (some (.int 126 t_LAST_SIGN)))
    (z_LEFT_OUT_SIGN:PySem.W.nsIn K mainGlobals "LEFT_OUT_SIGN"=some (some (.int 37 t_LEFT_OUT_SIGN)))
    (z_MOST_IN_FLIGHT:PySem.W.nsIn K mainGlobals "MOST_IN_FLIGHT"=some (some (.int 200 t_MOST_IN_FLIGHT)))
    (z_MOST_TEXT:PySem.W.nsIn K mainGlobals "MOST_TEXT"=some (some (.int 400 t_MOST_TEXT)))
    (z_NUMBER:PySem.W.nsIn K mainGlobals "NUMBER"=some (some (.int 0 t_NUMBER)))
    (z_TEXT:PySem.W.nsIn K mainGlobals "TEXT"=some (some (.int 2 t_TEXT)))
    (z_all:PySem.W.nsIn K mainGlobals "all"=some none)
    (z_bool:PySem.W.nsIn K mainGlobals "bool"=some none)
    (z_int:PySem.W.nsIn K mainGlobals "int"=some none)
    (z_isinstance:PySem.W.nsIn K mainGlobals "isinstance"=some none)
    (z_len:PySem.W.nsIn K mainGlobals "len"=some none)
    (z_list:PySem.W.nsIn K mainGlobals "list"=some none)
    (z_max:PySem.W.nsIn K mainGlobals "max"=some none)
    (z_ord:PySem.W.nsIn K mainGlobals "ord"=some none)
    (z_range:PySem.W.nsIn K mainGlobals "range"=some none)
    (z_str:PySem.W.nsIn K mainGlobals "str"=some none) :
    Top K mg G xs xl Mt At ds fns:=by
  refine ⟨?ok,rfl,?gl,?mt,?att,?xm,?xk,?xl1,?xv,?xg⟩
  case ok =>
    intro i d f hd hf
    have all:AllZ (fun (d:Df) (f:Fn)=>DfOk G xs Mt At d f) ds fns:=⟨qHg,qGH,qFa,qDj,qDY,qFe,qEJ,qGI,qDk,qFc,qDl,qEI,qDZ,qEv,qFd,qEK,qFb,qEu,qFV,qHh,qEH,qEs,qFW,qFY,qFZ,qHf,qFX,qGF,qEt,qGG,qDX,qEG,qGE,qOC,trivial⟩
    exact all.of hd hf
  case gl =>
    intro x g hg
    have all:AllP (fun p:Str × GK=>GlP K mg xl ds p.1 p.2) G:=⟨gl_fn X Gm (d:=d_law) rfl a33 (df_mk qPJ l33 c33 k33),
      qCU X Gm z_FIRST_SIGN,
      qCU X Gm z_HOST,
      qCU X Gm z_IS_SPOILT,
      qCU X Gm z_LAST_HOST,
      qCU X Gm z_LAST_SIGN,
      qCU X Gm z_LEFT_OUT_SIGN,
      qCU X Gm z_MOST_IN_FLIGHT,
      qCU X Gm z_MOST_TEXT,
      qCU X Gm z_NUMBER,
      qLL X Gm rfl qDm xa2 xi2,
      qLL X Gm rfl qCN xa1 xi1,
      qOt X Gm (d:=d_Road_init) rfl qAf qa0 ⟨qpg0,qhd0,qpo0,qsa0⟩ ⟨qmk0,a5,m5,qkp0⟩ (df_mk qDG l5 c5 k5),
      qCU X Gm z_TEXT,
      gl_fn X Gm (d:=d_law_begun) rfl a24 (df_mk qF3 l24 c24 k24),
      gl_fn X Gm (d:=d_law_both) rfl a29 (df_mk qGp l29 c29 k29),
      gl_fn X Gm (d:=d_law_cell_at) rfl a20 (df_mk qER l20 c20 k20),
      gl_fn X Gm (d:=d_law_done) rfl a27 (df_mk qGo l27 c27 k27),
      gl_fn X Gm (d:=d_law_ends) rfl a32 (df_mk qGn l32 c32 k32),
      gl_fn X Gm (d:=d_law_log_right) rfl a30 (df_mk qDa l30 c30 k30),
      gl_fn X Gm (d:=d_law_put) rfl a25 (df_mk qH5 l25 c25 k25),
      gl_fn X Gm (d:=d_law_refuses) rfl a31 (df_mk qEQ l31 c31 k31),
      gl_fn X Gm (d:=d_law_signs) rfl a23 (df_mk qF2 l23 c23 k23),
      gl_fn X Gm (d:=d_law_sound) rfl a26 (df_mk qF1 l26 c26 k26),
      gl_fn X Gm (d:=d_law_stands) rfl a28 (df_mk qFI l28 c28 k28),
      gl_fn X Gm (d:=d_law_stream) rfl a21 (df_mk qFH l21 c21 k21),
      gl_fn X Gm (d:=d_law_whole) rfl a22 (df_mk qF0 l22 c22 k22),
      qCV X Gm z_all,
      qCV X Gm z_bool,
      qCV X Gm z_int,
      gl_fn X Gm (d:=d_is_gone) rfl a19 (df_mk qH7 l19 c19 k19),
      gl_fn X Gm (d:=d_is_number) rfl a2 (df_mk qF4 l2 c2 k2),
      gl_fn X Gm (d:=d_is_other_sign) rfl a4 (df_mk qDb l4 c4 k4),
      gl_fn X Gm (d:=d_is_road_text) rfl a3 (df_mk qD9 l3 c3 k3),
      gl_fn X Gm (d:=d_is_sign) rfl a0 (df_mk qH6 l0 c0 k0),
      gl_fn X Gm (d:=d_is_signs) rfl a1 (df_mk qGq l1 c1 k1),
      qCV X Gm z_isinstance,
      qCV X Gm z_len,
      qCV X Gm z_list,
      qCV X Gm z_max,
      qCV X Gm z_ord,
      qCV X Gm z_range,
      gl_fn X Gm (d:=d_sent_text) rfl a18 (df_mk qFz l18 c18 k18),
      qCV X Gm z_str,trivial⟩
    exact all.of hg
  case mt =>
    intro m mk tb hm
    have all:AllP (fun p:Str × Nat × List (Nat × Nat)=>MtP K ds p.1 p.2.1 p.2.2) Mt:=⟨qBg qFi (by decide) qAf qa0 ⟨qpg0,qhd0,qpo0,qsa0⟩ (d:=d_Road_init) ⟨a5,m5,k5⟩ rfl (df_mk qDG l5 c5 k5),
      qBg qHk (by decide) qAf qa0 ⟨qpg0,qhd0,qpo0,qsa0⟩ (d:=d_Road_flying) ⟨a6,m6,k6⟩ rfl (df_mk qET l6 c6 k6),
      qBg qMF (by decide) qAf qa0 ⟨qpg0,qhd0,qpo0,qsa0⟩ (d:=d_Road_log) ⟨a7,m7,k7⟩ rfl (df_mk qGr l7 c7 k7),
      qBg qGK (by decide) qAf qa0 ⟨qpg0,qhd0,qpo0,qsa0⟩ (d:=d_Road_text_of) ⟨a8,m8,k8⟩ rfl (df_mk qEA l8 c8 k8),
      qBg qKI (by decide) qAf qa0 ⟨qpg0,qhd0,qpo0,qsa0⟩ (d:=d_Road_send) ⟨a9,m9,k9⟩ rfl (df_mk qF6 l9 c9 k9),
      qBg qGL (by decide) qAf qa0 ⟨qpg0,qhd0,qpo0,qsa0⟩ (d:=d_Road_is_full) ⟨a10,m10,k10⟩ rfl (df_mk qEB l10 c10 k10),
      qBg qHi (by decide) qAf qa0 ⟨qpg0,qhd0,qpo0,qsa0⟩ (d:=d_Road_put_on) ⟨a11,m11,k11⟩ rfl (df_mk qES l11 c11 k11),
      qBg qFh (by decide) qAf qa0 ⟨qpg0,qhd0,qpo0,qsa0⟩ (d:=d_Road_piece_at) ⟨a12,m12,k12⟩ rfl (df_mk qDc l12 c12 k12),
      qBg qIn (by decide) qAf qa0 ⟨qpg0,qhd0,qpo0,qsa0⟩ (d:=d_Road_carry) ⟨a13,m13,k13⟩ rfl (df_mk qFK l13 c13 k13),
      qBg qKJ (by decide) qAf qa0 ⟨qpg0,qhd0,qpo0,qsa0⟩ (d:=d_Road_lose) ⟨a14,m14,k14⟩ rfl (df_mk qF7 l14 c14 k14),
      qBg qHl (by decide) qAf qa0 ⟨qpg0,qhd0,qpo0,qsa0⟩ (d:=d_Road_double) ⟨a15,m15,k15⟩ rfl (df_mk qEU l15 c15 k15),
      qBg qKH (by decide) qAf qa0 ⟨qpg0,qhd0,qpo0,qsa0⟩ (d:=d_Road_turn) ⟨a16,m16,k16⟩ rfl (df_mk qF5 l16 c16 k16),
      qBg qIm (by decide) qAf qa0 ⟨qpg0,qhd0,qpo0,qsa0⟩ (d:=d_Road_spoil) ⟨a17,m17,k17⟩ rfl (df_mk qFJ l17 c17 k17),trivial⟩
    exact all.of hm
  case att =>
    intro f kk cs hf
    have all:AllP (fun p:Str × Nat × List Nat=>AtP K p.1 p.2.1 p.2.2) At:=⟨qJp qHj (by decide) qAf qa0 qn0_on_way,
      qJp qKK (by decide) qAf qa0 qn0_done,
      qJp qEL (by decide) qAf qa0 qn0_new_number,trivial⟩
    exact all.of hf
  case xm =>
    intro i cs C j D hi hC hD
    obtain ⟨hi0,hC⟩:=qB9 hC
    obtain ⟨hj,hD⟩:=qB9 hD
    unfold xs at hi
    simp only [List.mem_cons,List.not_mem_nil,or_false,Prod.mk.injEq] at hi
    rcases hi with ⟨rfl,rfl⟩
    · cases qCt hC qCN xa1
      unfold xl at hj
      simp only [List.mem_cons,List.not_mem_nil,or_false] at hj
      rcases hj with rfl | rfl | rfl
      · cases qCt hD qCm xa0;exact qJO xc1 xt1 xb1 xm1_0
      · cases qCt hD qCN xa1;exact qJO xc1 xt1 xb1 xm1_1
      · cases qCt hD qDm xa2;exact qJO xc1 xt1 xb1 xm1_2
  case xk =>
    intro i cs hi hx
    unfold xs at hi
    simp only [List.mem_cons,List.not_mem_nil,or_false,Prod.mk.injEq] at hi
    rcases hi with ⟨rfl,rfl⟩
    all_goals (first | rfl | (exfalso;unfold xl at hx;simp at hx))
  case xl1 =>
    intro cs hi
    unfold xs at hi
    simp only [List.mem_cons,List.not_mem_nil,or_false,Prod.mk.injEq] at hi
    first | (simpa [xl] using hi) | (exfalso;simp at hi)
  case xv =>
    intro cs j D hi hD
    unfold xs at hi
    simp only [List.mem_cons,List.not_mem_nil,or_false,Prod.mk.injEq] at hi
    exfalso
    simp at hi
  case xg =>
    intro j D hD
    obtain ⟨hj,hD⟩:=qB9 hD
    unfold xl at hj
    simp only [List.mem_cons,List.not_mem_nil,or_false] at hj
    rcases hj with rfl | rfl | rfl
    · cases qCt hD qCm xa0;exact ⟨gga0,ggt0,gcl0,gob0,gbe0,gis0⟩
    · cases qCt hD qCN xa1;exact ⟨gga1,ggt1,gcl1,gob1,gbe1,gis1⟩
    · cases qCt hD qDm xa2;exact ⟨gga2,ggt2,gcl2,gob2,gbe2,gis2⟩
theorem w_hi:ds[33]?=some d_law:=by kernel_rfl
theorem w_hq:d_law.qual=d_law.name:=by kernel_rfl
theorem w_hps:d_law.ps=(["_law_script"]:List Str):=by kernel_rfl
theorem w_hG:(("law":Str),GK.fn 33)∈G:=List.mem_cons_self ..
end Lk46
noncomputable def PySem.W.Fast.tw3506033141456086299:Unit:=()
noncomputable def PySem.W.Fast.tw595405347088330029:Unit:=()
noncomputable def PySem.W.Fast.tw13826172195198930897:Unit:=()
noncomputable def PySem.W.Fast.tw10005974289346946914:Unit:=()
noncomputable def PySem.W.Fast.tw1749081297345676456:Unit:=()
noncomputable def PySem.W.Fast.tw2037803131917990481:Unit:=()
noncomputable def PySem.W.Fast.tw14372480906394893188:Unit:=()
noncomputable def PySem.W.Fast.tw9159948572060286697:Unit:=()
noncomputable def PySem.W.Fast.tw8190774757857154028:Unit:=()
noncomputable def PySem.W.Fast.tw7186618024662731195:Unit:=()
noncomputable def PySem.W.Fast.tw7217380016750781819:Unit:=()
noncomputable def PySem.W.Fast.tw16942664657559760472:Unit:=()
noncomputable def PySem.W.Fast.tw13725125219857015103:Unit:=()
noncomputable def PySem.W.Fast.tw15615170529659314407:Unit:=()
noncomputable def PySem.W.Fast.tw5306284245188287887:Unit:=()
noncomputable def PySem.W.Fast.tw3047708390990313569:Unit:=()
noncomputable def PySem.W.Fast.tw14247502094348320635:Unit:=()
noncomputable def PySem.W.Fast.tw9503392753287588768:Unit:=()
noncomputable def PySem.W.Fast.tw4865068240645015109:Unit:=()
noncomputable def PySem.W.Fast.tw14825411061744774356:Unit:=()
noncomputable def PySem.W.Fast.tw3513035866725430316:Unit:=()
noncomputable def PySem.W.Fast.tw2828311448587354155:Unit:=()
noncomputable def PySem.W.Fast.tw6424019661110488737:Unit:=()
noncomputable def PySem.W.Fast.tw5485920826597254481:Unit:=()
noncomputable def PySem.W.Fast.tw7465268491062008583:Unit:=()
noncomputable def PySem.W.Fast.tw3236992491927212078:Unit:=()
noncomputable def PySem.W.Fast.tw1739725803097522400:Unit:=()
noncomputable def PySem.W.Fast.tw789205048935684236:Unit:=()
noncomputable def PySem.W.Fast.tw3123581869470572139:Unit:=()
noncomputable def PySem.W.Fast.tw17847781167842971809:Unit:=()
noncomputable def PySem.W.Fast.tw5701771152693669668:Unit:=()
noncomputable def PySem.W.Fast.tw8224748294673503519:Unit:=()
noncomputable def PySem.W.Fast.tw132854825661754753:Unit:=()
noncomputable def PySem.W.Fast.tw17543262266156310975:Unit:=()
noncomputable def PySem.W.Fast.tw6035382557792282718:Unit:=()
open PySem PySem.W PyProof.Rows
set_option maxRecDepth 100000 in
set_option maxHeartbeats 0 in
theorem PySem.Challenge.cw_ferry_k46_two_hundred_in_flight_holds : PySem.Challenge.rw_ferry_k46_two_hundred_in_flight.Holds := by
 w_on;o_law;k_head;(case hw=>w_witness2)
 k_fill
 refine Fy.walk (l:=PySem.Challenge.rw_ferry_k46_two_hundred_in_flight) (G:=Lk46.G) (xs:=Lk46.xs) (xl:=Lk46.xl) (Mt:=Lk46.Mt) (At:=Lk46.At) (ds:=Lk46.ds) (fns:=Lk46.fns) (B:=1000) (i:=33) (d:=Lk46.d_law) (x:="_law_script") rfl rfl Lk46.w_hi Lk46.w_hG Lk46.w_hq Lk46.w_hps (fun w h Y=>PySem.W.kIn_of Y) ?T (fun ns hl=>Lk46.law_true 1000 30 ns hl) ?B
 case B =>
  intro fd f K F s u
  obtain ⟨oc,od,kV,doc,pm,an,cdv,ct,osl,rfl,lk,hcd⟩:=F.ex
  exact .of_eq rfl
 case T =>
  intro w mg h KX G
  refine' Lk46.top_mk KX G ?qa0 ?qpg0 ?qhd0 ?qpo0 ?qsa0 ?qmk0 ?qkp0 ?qn0_on_way ?qn0_done ?qn0_new_number ?a0 ?l0 ?c0 ?k0 ?a1 ?l1 ?c1 ?k1 ?a2 ?l2 ?c2 ?k2 ?a3 ?l3 ?c3 ?k3 ?a4 ?l4 ?c4 ?k4 ?a5 ?m5 ?l5 ?c5 ?k5 ?a6 ?m6 ?l6 ?c6 ?k6 ?a7 ?m7 ?l7 ?c7 ?k7 ?a8 ?m8 ?l8 ?c8 ?k8 ?a9 ?m9 ?l9 ?c9 ?k9 ?a10 ?m10 ?l10 ?c10 ?k10 ?a11 ?m11 ?l11 ?c11 ?k11 ?a12 ?m12 ?l12 ?c12 ?k12 ?a13 ?m13 ?l13 ?c13 ?k13 ?a14 ?m14 ?l14 ?c14 ?k14 ?a15 ?m15 ?l15 ?c15 ?k15 ?a16 ?m16 ?l16 ?c16 ?k16 ?a17 ?m17 ?l17 ?c17 ?k17 ?a18 ?l18 ?c18 ?k18 ?a19 ?l19 ?c19 ?k19 ?a20 ?l20 ?c20 ?k20 ?a21 ?l21 ?c21 ?k21 ?a22 ?l22 ?c22 ?k22 ?a23 ?l23 ?c23 ?k23 ?a24 ?l24 ?c24 ?k24 ?a25 ?l25 ?c25 ?k25 ?a26 ?l26 ?c26 ?k26 ?a27 ?l27 ?c27 ?k27 ?a28 ?l28 ?c28 ?k28 ?a29 ?l29 ?c29 ?k29 ?a30 ?l30 ?c30 ?k30 ?a31 ?l31 ?c31 ?k31 ?a32 ?l32 ?c32 ?k32 ?a33 ?l33 ?c33 ?k33 ?xa0 ?xi0 ?xa1 ?xi1 ?xa2 ?xi2 ?xc1 ?xt1 ?xb1 ?xm1_0 ?xm1_1 ?xm1_2 ?gga0 ?ggt0 ?gcl0 ?gob0 ?gbe0 ?gis0 ?gga1 ?ggt1 ?gcl1 ?gob1 ?gbe1 ?gis1 ?gga2 ?ggt2 ?gcl2 ?gob2 ?gbe2 ?gis2 ?z_FIRST_SIGN ?z_HOST ?z_IS_SPOILT ?z_LAST_HOST ?z_LAST_SIGN ?z_LEFT_OUT_SIGN ?z_MOST_IN_FLIGHT ?z_MOST_TEXT ?z_NUMBER ?z_TEXT ?z_all ?z_bool ?z_int ?z_isinstance ?z_len ?z_list ?z_max ?z_ord ?z_range ?z_str
  (case qa0=>k_is)
  (case qpg0=>k_is)
  (case qhd0=>k_is)
  (case qpo0=>k_is)
  (case qsa0=>k_is)
  (case qmk0=>k_is)
  (case qkp0=>k_is)
  (case qn0_on_way=>k_is)
  (case qn0_done=>k_is)
  (case qn0_new_number=>k_is)
  (case a0=>k_is)
  (case l0=>k_is)
  (case c0=>k_is)
  (case k0=>k_is)
  (case a1=>k_is)
  (case l1=>k_is)
  (case c1=>k_is)
  (case k1=>k_is)
  (case a2=>k_is)
  (case l2=>k_is)
  (case c2=>k_is)
  (case k2=>k_is)
  (case a3=>k_is)
  (case l3=>k_is)
  (case c3=>k_is)
  (case k3=>k_is)
  (case a4=>k_is)
  (case l4=>k_is)
  (case c4=>k_is)
  (case k4=>k_is)
  (case a5=>k_is)
  (case m5=>k_is)
  (case l5=>k_is)
  (case c5=>k_is)
  (case k5=>k_is)
  (case a6=>k_is)
  (case m6=>k_is)
  (case l6=>k_is)
  (case c6=>k_is)
  (case k6=>k_is)
  (case a7=>k_is)
  (case m7=>k_is)
  (case l7=>k_is)
  (case c7=>k_is)
  (case k7=>k_is)
  (case a8=>k_is)
  (case m8=>k_is)
  (case l8=>k_is)
  (case c8=>k_is)
  (case k8=>k_is)
  (case a9=>k_is)
  (case m9=>k_is)
  (case l9=>k_is)
  (case c9=>k_is)
  (case k9=>k_is)
  (case a10=>k_is)
  (case m10=>k_is)
  (case l10=>k_is)
  (case c10=>k_is)
  (case k10=>k_is)
  (case a11=>k_is)
  (case m11=>k_is)
  (case l11=>k_is)
  (case c11=>k_is)
  (case k11=>k_is)
  (case a12=>k_is)
  (case m12=>k_is)
  (case l12=>k_is)
  (case c12=>k_is)
  (case k12=>k_is)
  (case a13=>k_is)
  (case m13=>k_is)
  (case l13=>k_is)
  (case c13=>k_is)
  (case k13=>k_is)
  (case a14=>k_is)
  (case m14=>k_is)
  (case l14=>k_is)
  (case c14=>k_is)
  (case k14=>k_is)
  (case a15=>k_is)
  (case m15=>k_is)
  (case l15=>k_is)
  (case c15=>k_is)
  (case k15=>k_is)
  (case a16=>k_is)
  (case m16=>k_is)
  (case l16=>k_is)
  (case c16=>k_is)
  (case k16=>k_is)
  (case a17=>k_is)
  (case m17=>k_is)
  (case l17=>k_is)
  (case c17=>k_is)
  (case k17=>k_is)
  (case a18=>k_is)
  (case l18=>k_is)
  (case c18=>k_is)
  (case k18=>k_is)
  (case a19=>k_is)
  (case l19=>k_is)
  (case c19=>k_is)
  (case k19=>k_is)
  (case a20=>k_is)
  (case l20=>k_is)
  (case c20=>k_is)
  (case k20=>k_is)
  (case a21=>k_is)
  (case l21=>k_is)
  (case c21=>k_is)
  (case k21=>k_is)
  (case a22=>k_is)
  (case l22=>k_is)
  (case c22=>k_is)
  (case k22=>k_is)
  (case a23=>k_is)
  (case l23=>k_is)
  (case c23=>k_is)
  (case k23=>k_is)
  (case a24=>k_is)
  (case l24=>k_is)
  (case c24=>k_is)
  (case k24=>k_is)
  (case a25=>k_is)
  (case l25=>k_is)
  (case c25=>k_is)
  (case k25=>k_is)
  (case a26=>k_is)
  (case l26=>k_is)
  (case c26=>k_is)
  (case k26=>k_is)
  (case a27=>k_is)
  (case l27=>k_is)
  (case c27=>k_is)
  (case k27=>k_is)
  (case a28=>k_is)
  (case l28=>k_is)
  (case c28=>k_is)
  (case k28=>k_is)
  (case a29=>k_is)
  (case l29=>k_is)
  (case c29=>k_is)
  (case k29=>k_is)
  (case a30=>k_is)
  (case l30=>k_is)
  (case c30=>k_is)
  (case k30=>k_is)
  (case a31=>k_is)
  (case l31=>k_is)
  (case c31=>k_is)
  (case k31=>k_is)
  (case a32=>k_is)
  (case l32=>k_is)
  (case c32=>k_is)
  (case k32=>k_is)
  (case a33=>k_is)
  (case l33=>k_is)
  (case c33=>k_is)
  (case k33=>k_is)
  (case xa0=>k_is)
  (case xi0=>k_exc)
  (case xa1=>k_is)
  (case xi1=>k_exc)
  (case xa2=>k_is)
  (case xi2=>k_exc)
  (case xc1=>k_is)
  (case xt1=>k_is)
  (case xb1=>k_is)
  (case xm1_0=>k_is)
  (case xm1_1=>k_is)
  (case xm1_2=>k_is)
  (case gga0=>k_is)
  (case ggt0=>k_is)
  (case gcl0=>k_is)
  (case gob0=>k_is)
  (case gbe0=>k_is)
  (case gis0=>k_is)
  (case gga1=>k_is)
  (case ggt1=>k_is)
  (case gcl1=>k_is)
  (case gob1=>k_is)
  (case gbe1=>k_is)
  (case gis1=>k_is)
  (case gga2=>k_is)
  (case ggt2=>k_is)
  (case gcl2=>k_is)
  (case gob2=>k_is)
  (case gbe2=>k_is)
  (case gis2=>k_is)
  (case z_FIRST_SIGN=>k_is)
  (case z_HOST=>k_is)
  (case z_IS_SPOILT=>k_is)
  (case z_LAST_HOST=>k_is)
  (case z_LAST_SIGN=>k_is)
  (case z_LEFT_OUT_SIGN=>k_is)
  (case z_MOST_IN_FLIGHT=>k_is)
  (case z_MOST_TEXT=>k_is)
  (case z_NUMBER=>k_is)
  (case z_TEXT=>k_is)
  (case z_all=>k_is)
  (case z_bool=>k_is)
  (case z_int=>k_is)
  (case z_isinstance=>k_is)
  (case z_len=>k_is)
  (case z_list=>k_is)
  (case z_max=>k_is)
  (case z_ord=>k_is)
  (case z_range=>k_is)
  (case z_str=>k_is)
