import PyProof.Rows.All
import Wide.All
import OpenK.AllK
import Wide.FinOn
import PyProof.EqAt
import PyProof.EqKinds
import PyProof.TupleCall
import Lean
import PyProof.Rows.SetFrom
import PyProof.Rows.SortWalk
import KE.KDictList
import KE.KSortedM
import PyProof.WalkInts
import PySem.Challenge.RW_quickchange_k22_deeds_refused
set_option Elab.async false
set_option linter.all false
set_option maxRecDepth 100000
set_option compiler.extract_closed false
def bw:=@List.mem_cons_of_mem
def bD:=@List.mem_cons_self
def bR:=@List.mem_append_right
def dP:=@List.mem_append_left
def bz:=@PySem.Heap.get?_push_of_some
def cR:=@PySem.Heap.get?_push_size
def bn:=@PySem.Heap.lt_size
def aX:=@Nat.le_refl
def br:=@Nat.le_trans
def dR:=@Nat.lt_of_lt_of_le
def cH:=@Nat.ne_of_lt
def bO:=@Option.some.inj
def af:=@PySem.wpAny_bind
def ay:=@PySem.wpAny_pure
theorem bN{α:Type}{a b:α}{l:List α}:a∈b::l->a=b\/a∈l:=List.mem_cons.mp
theorem dk{α:Type}{a:α}{s t:List α}:a∈s++t->a∈s\/a∈t:=List.mem_append.mp
theorem dL{α β:Type}{b:β}{x:Option α}{f:α->Option β}:x.bind f=some b->∃a,x=some a/\f a=some b:=Option.bind_eq_some_iff.mp
theorem cy{α β:Type}{b:β}{x:Option α}{f:α->β}:x.map f=some b->∃a,x=some a/\f a=b:=Option.map_eq_some_iff.mp
theorem cr{α:Type}{i:Nat}{a:α}{l:List α}:l[i]?=some a->∃h:i<l.length,l[i]=a:=List.getElem?_eq_some_iff.mp
theorem dF{α:Type}{p:α->Bool}{l:List α}:l.all p=true->∀x∈l,p x=true:=List.all_eq_true.mp
theorem du{α β:Type}{b:β}{l:List α}{f:α->β}:b∈l.map f->∃a,a∈l/\f a=b:=List.mem_map.mp
abbrev aG:=PySem.W.Frag
section
namespace L2
open PySem PySem.Spec PyProof.Rows
noncomputable abbrev dQ:=Sum Int Str
noncomputable def iq:dQ->Value->Bool
 | .inl k,v=>Value.isInt k v
 | .inr x,v=>Value.isStrOf x v
noncomputable def pC (w:World):dQ->Int
 | .inl k=>hashInt k
 | .inr x=>hashStr w x
theorem gH:∀{k:dQ} {v:Value},iq k v=true->(∃i t,k=Sum.inl i/\v=Value.int i t)\/(∃x t,k=Sum.inr x/\v=Value.str x t)
 | .inl i,v,h=>by
  obtain⟨t,e⟩:=Value.isInt_shape (k:=i) (v:=v) h;exact .inl ⟨i,t,rfl,e⟩
 | .inr x,v,h=>by
  obtain⟨t,e⟩:=Value.isStrOf_shape (x:=x) (v:=v) h;exact .inr ⟨x,t,rfl,e⟩
theorem Ab (a b:Int):decide ((Sum.inl a:dQ)=Sum.inl b)=(a == b):=by
 by_cases e:a=b
 ·subst e; simp
 ·have h:¬(Sum.inl a:dQ)=Sum.inl b:=fun q=>e (Sum.inl.inj q);rw[decide_eq_false h];exact (beq_eq_false_iff_ne.mpr e).symm
theorem Cm (a b:Str):decide ((Sum.inr a:dQ)=Sum.inr b)=decide (a=b):=by
 by_cases e:a=b
 ·subst e; simp
 ·have h:¬(Sum.inr a:dQ)=Sum.inr b:=fun q=>e (Sum.inr.inj q);rw[decide_eq_false h,decide_eq_false e]
theorem v9 (a:Int)(b:Str):decide ((Sum.inl a:dQ)=Sum.inr b)=false:=decide_eq_false (fun q=>nomatch q)
theorem Cp (a:Str)(b:Int):decide ((Sum.inr a:dQ)=Sum.inl b)=false:=decide_eq_false (fun q=>nomatch q)
noncomputable def eV (prog:Program)(w:World):PySem.KeyKind prog w dQ where
 is:=iq
 hash:=pC w
 inj:=fun v a b ha hb=>by
  rcases gH ha with ⟨i,t,rfl,rfl⟩ | ⟨x,t,rfl,rfl⟩
  ·rcases gH hb with ⟨j,u,rfl,e⟩ | ⟨y,u,rfl,e⟩
   ·injection e with e1 _; rw[e1]
   ·exact nomatch e
  ·rcases gH hb with ⟨j,u,rfl,e⟩ | ⟨y,u,rfl,e⟩
   ·exact nomatch e
   ·injection e with e1 _; rw[e1]
 byValue:=fun k v h=>by
  rcases gH h with ⟨i,t,rfl,rfl⟩ | ⟨x,t,rfl,rfl⟩ <;> rfl
 pyHash:=fun hv h=>by
  rcases gH hv with ⟨i,t,rfl,rfl⟩ | ⟨x,t,rfl,rfl⟩
  ·exact wpAny_pyHash_int h
  ·exact wpAny_pyHash_str h
 eqBool:=fun hu hv h=>by
  rcases gH hu with ⟨i,t,rfl,rfl⟩ | ⟨x,t,rfl,rfl⟩
  ·rcases gH hv with ⟨j,u,rfl,rfl⟩ | ⟨y,u,rfl,rfl⟩
   ·rw[Ab] at h; exact wpAny_eqBool_int h
   ·rw[v9] at h; exact SeqAt.EqAt.int_str i t y u _ _ _ _ h
  ·rcases gH hv with ⟨j,u,rfl,rfl⟩ | ⟨y,u,rfl,rfl⟩
   ·rw[Cp] at h; exact SeqAt.EqAt.str_int x t j u _ _ _ _ h
   ·rw[Cm] at h; exact wpAny_eqBool_str h
 «strs»:=fun k x t v h=>by
  rcases gH h with ⟨i,u,rfl,e⟩ | ⟨y,u,rfl,e⟩
  ·exact nomatch e
  ·injection e with e1 _;subst e1;cases v <;> rfl
end L2
namespace L2
open PySem PySem.Spec PyProof.Rows
inductive V where
 | non | bl (b:Bool) | int (i:Int) | str (x:Str) | byt (b:Array UInt8) | flt (b:UInt64) | ref (a:Addr) | ty (n:String)
 deriving DecidableEq
noncomputable def RelV:V->Value->Prop
 | .non,u=>u=Value.none
 | .bl b,u=>u=Value.bool b
 | .int i,u=>∃t,u=Value.int i t
 | .str x,u=>∃t,u=Value.str x t
 | .byt b,u=>∃t,u=Value.bytes b t
 | .flt b,u=>∃t,u=Value.float b t
 | .ref a,u=>u=Value.ref a
 | .ty n,u=>u=Value.type n
abbrev Vals:List V->List Value->Prop:=Paired RelV
theorem Vals.length (r:Vals xs us):xs.length=us.length:=Paired.length r
theorem Vals.get:∀{xs:List V} {us:List Value} {i:Nat} {x:V},Vals xs us->xs[i]? = some x->∃u,us[i]? = some u/\RelV x u
 | _,_,_,_,.nil,e=>by simp at e
 | _,_,0,_,.cons r _,e=>by simp at e; subst e; exact⟨_,rfl,r⟩
 | _,_,i+1,x,.cons _ t,e=>by
  obtain⟨u,h1,h2⟩:=Vals.get (i:=i) (x:=x) t (by simpa using e);exact⟨u,by simpa using h1,h2⟩
theorem Vals.set (r:RelV x u):∀{xs:List V} {us:List Value} (i:Nat),Vals xs us->Vals (xs.set i x) (us.set i u)
 | _,_,_,.nil=>.nil
 | _,_,0,.cons _ t=>.cons r t
 | _,_,i+1,.cons q t=>.cons q (Vals.set r i t)
theorem Vals.append:∀{xs ys:List V} {us ws:List Value},Vals xs us->Vals ys ws->Vals (xs++ys) (us++ws)
 | _,_,_,_,.nil,s=>s
 | _,_,_,_,.cons r t,s=>.cons r (Vals.append t s)
theorem Vals.take:∀{xs:List V} {us:List Value} (n:Nat),Vals xs us->Vals (xs.take n) (us.take n)
 | _,_,0,_=>.nil
 | _,_,_+1,.nil=>.nil
 | _,_,n+1,.cons r t=>.cons r (Vals.take n t)
theorem Vals.drop:∀{xs:List V} {us:List Value} (n:Nat),Vals xs us->Vals (xs.drop n) (us.drop n)
 | _,_,0,r=>r
 | _,_,_+1,.nil=>.nil
 | _,_,n+1,.cons _ t=>Vals.drop n t
noncomputable def RelO:Option V->Option Value->Prop
 | some v,some u=>RelV v u
 | none,none=>True
 | _,_=>False
def KV {κ:Type}:List (κ×V)->List (κ×Value)->Prop:=Paired fun (p:κ×V) (q:κ×Value)=>p.1=q.1/\RelV p.2 q.2
noncomputable def kV:dQ->V
 | .inl i=>.int i
 | .inr x=>.str x
inductive HO where
 | lst (xs:List V)
 | tup (xs:List V)
 | dK (kvs:List (dQ×V)) | dT (kvs:List (List dQ×V))
 | set (S:Int->Bool) (n:Nat)
 | ins (C dx:Addr) (fs:List (Str×V))
 | own (x:Addr)
 | exc (C:Addr) (nw:Bool) (fs:List (Str×V))
 | xd (fs:List (Str×V))
 | met (f x:Addr)
 | rng (lo hi:Int)
 | frz (o:Obj) (u:HO)
 | tbl (ps:Array Value)
 | ext (φ:Heap->Prop)
noncomputable abbrev Hp:=Addr->Option HO
noncomputable def upd (H:Hp)(a:Addr)(o:HO):Hp:=fun b=>if b=a then some o else H b
theorem bu:upd H a o a=some o:=by unfold upd; rw[if_pos rfl]
theorem aZ (h:b≠a):upd H a o b=H b:=by unfold upd; rw[if_neg h]
theorem zB:upd (upd H a o) a u=upd H a u:=by
 funext b; unfold upd; split <;> rfl
theorem mG {H:Hp}{a b:Addr}{o:HO}(h:H a=some o)(h':H b=none):a≠b:=by
 intro e; subst e; rw[h] at h'; cases h'
section
variable (P:Program)(w:World)
def TupN (h:Heap)(a:Addr)(items:Array Value):Prop:=∃o,h.get? a=some o/\o.cls=.type "tuple" /\ (∃n,o.data=.seq items n)/\o.dict=none
theorem TupN.tup (x:TupN h a items):IsTup h a items:=let ⟨o,e,c,d,_⟩:=x; ⟨o,e,c,d⟩
theorem TupN.new (h:Heap)(items:Array Value):TupN (h.push { cls:=.type "tuple",data:=.seq items }) h.objs.size items:=⟨_,cR _ rfl,rfl,⟨_,rfl⟩,rfl⟩
noncomputable def ObjOk (H:Hp)(h:Heap)(a:Addr):HO->Prop
 | .lst xs=>xs.length<=sizeLine/\∃(its:List Value) (n:Nat),Vals xs its/\h.get? a=some { cls:=.type "list",data:=.seq its.toArray n }
 | .tup xs=>xs.length<=sizeLine/\∃its:List Value,Vals xs its/\TupN h a its.toArray
 | .dK kvs=>kvs.length<=sizeLine/\(a == sysModules)=false/\∃vs,KV kvs vs/\h.DictOf (eV P w) a vs
 | .dT kvs=>kvs.length<=sizeLine/\(a == sysModules)=false/\∃xs:List (List dQ×Addr×Value),
   Paired (fun (p:List dQ×V) (q:List dQ×Addr×Value)=>p.1=q.1/\H q.2.1=some (.tup (p.1.map kV))/\RelV p.2 q.2.2) kvs xs /\
   ∃o es ep,h.get? a=some o/\o.ExactDict/\o.data=.dict es ep/\es.toList=xs.map (entryOfKey (tupleKind (eV P w)))/\(xs.map (·.1)).Nodup
 | .set S n=>h.SetOf (intKind P w) a S n
 | .ins C dx fs=>H dx=some (.own a)/\fs.length<=1000/\dx≠a/\h.get? a=some (PySem.W.instObj C dx) /\
   ∃mA,h.Ns1 dx mA/\(∀f,RelO (fs.lookup f) (mA f))/\PySem.Within mA (fs.map (·.1))
 | .own _=>∃o,h.get? a=some o
 | .exc C nw fs=>fs.length<=1000/\∃(o:Obj) (vs:Array Value),h.get? a=some o/\o.cls=.ref C/\o.data=.fields vs/\vs.size=6/\(nw=true->vs[1]? = some Value.none) /\
   ((o.dict=none/\fs=[])\/∃dx,o.dict=some dx/\H dx=some (.own a)/\dx≠a/\∃mA,h.Ns1 dx mA/\(∀f,RelO (fs.lookup f) (mA f))/\PySem.Within mA (fs.map (·.1)))
 | .xd fs=>∃mA,h.Ns1 a mA/\∀f,RelO (fs.lookup f) (mA f)
 | .rng lo hi=>∃t u v,h.get? a=some { cls:=.type "range",data:=.fields #[.int lo t,.int hi u,.int 1 v] }
 | .frz o u=>h.get? a=some o/\ObjOk H h a u
 | .tbl ps=>h.get? a=some { cls:=.none,data:=.fields ps }
 | .met f x=>h.get? a=some (PySem.W.methodObj (.ref f) (.ref x))
 | .ext φ=>φ h/\(∃o,h.get? a=some o)/\∀h1 h2:Heap,φ h1->(∀o,h1.get? a=some o->h2.get? a=some o)->φ h2
def HOk (H:Hp)(h:Heap):Prop:=∀a o,H a=some o->ObjOk P w H h a o
end
section
variable {P:Program}{w:World}{H H':Hp}{h h':Heap}{a:Addr}{o:HO}
theorem ObjOk.lt (x:ObjOk P w H h a o):a<h.objs.size:=by
 cases o with
 | lst xs=>obtain⟨_,_,_,_,e⟩:=x; exact bn e
 | tup xs=>obtain⟨_,_,_,p⟩:=x; exact p.tup.lt
 | dK kvs=>obtain⟨_,_,_,_,o,_,_,e,_⟩:=x; exact bn e
 | dT kvs=>obtain⟨_,_,_,_,o,_,_,e,_⟩:=x; exact bn e
 | set S n=>obtain⟨o,_,_,_,e,_⟩:=x; exact bn e
 | ins C dx fs=>obtain⟨_,_,_,e,_⟩:=x; exact bn e
 | own y=>obtain⟨_,e⟩:=x; exact bn e
 | exc C nw fs=>obtain⟨_,_,_,e,_⟩:=x; exact bn e
 | xd fs=>obtain⟨_,⟨_,_,_,e,_⟩,_⟩:=x; exact bn e
 | rng lo hi=>obtain⟨_,_,_,e⟩:=x; exact bn e
 | frz ob u=>obtain⟨e,_⟩:=x; exact bn e
 | tbl ps=>exact bn (show h.get? a=some _ from x)
 | met f y=>exact bn (show h.get? a=some _ from x)
 | ext φ=>obtain⟨_,⟨_,e⟩,_⟩:=x; exact bn e
theorem Paired.mapP:∀{l₁:List α} {l₂:List β},Paired F l₁ l₂->(∀a b,F a b->G a b)->Paired G l₁ l₂
 | _,_,.nil,_=>.nil
 | _,_,.cons r t,f=>.cons (f _ _ r) (Paired.mapP t f)
theorem ObjOk.stay (x:ObjOk P w H h a o)(k:∀b u,(b=a\/H b=some (.own a))->h.get? b=some u->h'.get? b=some u)
  (ho:∀b,H b=some (.own a)->H' b=some (.own a))(ht:∀b xs,H b=some (.tup xs)->H' b=some (.tup xs)):ObjOk P w H' h' a o:=by
 induction o with
 | lst xs=>obtain⟨z,its,n,r,e⟩:=x; exact⟨z,its,n,r,k _ _ (.inl rfl) e⟩
 | tup xs=>obtain⟨z,its,r,ob,e,c⟩:=x; exact⟨z,its,r,ob,k _ _ (.inl rfl) e,c⟩
 | dK kvs=>obtain⟨z,y,vs,r,ob,es,ep,e,c⟩:=x; exact⟨z,y,vs,r,ob,es,ep,k _ _ (.inl rfl) e,c⟩
 | dT kvs=>
  obtain⟨z,y,xs,r,ob,es,ep,e,c⟩:=x;exact⟨z,y,xs,Paired.mapP r fun p q z=>⟨z.1,ht _ _ z.2.1,z.2.2⟩,ob,es,ep,k _ _ (.inl rfl) e,c⟩
 | set S n=>obtain⟨ob,es,ep,t,e,c⟩:=x; exact⟨ob,es,ep,t,k _ _ (.inl rfl) e,c⟩
 | ins C dx fs=>
  obtain⟨d,z,ne,e,mA,⟨od,es,ep,e2,c⟩,r⟩:=x;exact⟨ho _ d,z,ne,k _ _ (.inl rfl) e,mA,⟨od,es,ep,k _ _ (.inr d) e2,c⟩,r⟩
 | own y=>obtain⟨ob,e⟩:=x; exact⟨ob,k _ _ (.inl rfl) e⟩
 | exc C nw fs=>
  obtain⟨z,o,vs,e,c1,c2,c3,c4,q⟩:=x;refine⟨z,o,vs,k _ _ (.inl rfl) e,c1,c2,c3,c4,?_⟩;rcases q with q | ⟨dx,d1,d2,d3,mA,⟨od,es,ep,e2,c⟩,r⟩
  ·exact .inl q
  ·exact .inr ⟨dx,d1,ho _ d2,d3,mA,⟨od,es,ep,k _ _ (.inr d2) e2,c⟩,r⟩
 | xd fs=>obtain⟨mA,⟨od,es,ep,e,c⟩,r⟩:=x; exact⟨mA,⟨od,es,ep,k _ _ (.inl rfl) e,c⟩,r⟩
 | rng lo hi=>obtain⟨t,u,v,e⟩:=x; exact⟨t,u,v,k _ _ (.inl rfl) e⟩
 | frz ob u ih=>obtain⟨e,q⟩:=x; exact⟨k _ _ (.inl rfl) e,ih q⟩
 | tbl ps=>
  have e:h.get? a=some { cls:=.none,data:=.fields ps }:=x;show h'.get? a=some { cls:=.none,data:=.fields ps };exact k a _ (.inl rfl) e
 | met f y=>
  have e:h.get? a=some (PySem.W.methodObj (.ref f) (.ref y)):=x;show h'.get? a=some (PySem.W.methodObj (.ref f) (.ref y));exact k a _ (.inl rfl) e
 | ext φ=>obtain⟨p,⟨o,e⟩,st⟩:=x; exact⟨st _ _ p fun o q=>k _ _ (.inl rfl) q,⟨o,k _ _ (.inl rfl) e⟩,st⟩
theorem HOk.lt (x:HOk P w H h)(e:H a=some o):a<h.objs.size:=(x a o e).lt
theorem HOk.fresh (x:HOk P w H h)(e:h.objs.size<=a):H a=none:=by
 cases q:H a with
 | none=>rfl
 | some u=>exact absurd (dR (x.lt q) e) (Nat.lt_irrefl _)
theorem HOk.kept (x:HOk P w H h)(k:∀b u,h.get? b=some u->h'.get? b=some u):HOk P w H h':=fun a o e=>
 (x a o e).stay (fun b u _ q=>k b u q) (fun _ q=>q) fun _ _ q=>q
theorem HOk.laid (x:HOk P w H h)(k:∀b u,h.get? b=some u->h'.get? b=some u)(hp:h.objs.size<=a)(new:ObjOk P w (upd H a o) h' a o):HOk P w (upd H a o) h':=fun b u e=>by
 have hn:=x.fresh hp;by_cases hb:b=a
 ·subst hb; rw[bu] at e; cases e; exact new
 ·rw[aZ hb] at e;exact (x b u e).stay (fun c v _ q=>k c v q) (fun c q=>by rw[aZ (mG q hn)]; exact q) fun c xs q=>by rw[aZ (mG q hn)]; exact q
end
def Rd (H:Hp)(a:Addr)(u:HO):Prop:=H a=some u\/∃o,H a=some (.frz o u)
theorem Rd.ok (r:Rd H a u)(x:HOk P w H h):ObjOk P w H h a u:=by
 rcases r with r | ⟨o,r⟩
 ·exact x a u r
 ·obtain⟨_,q⟩:=x a _ r;exact q
noncomputable def mU:Option HO->Prop
 | some (.lst _)=>True
 | some (.dK _)=>True
 | some (.dT _)=>True
 | some (.set _ _)=>True
 | some (.ins _ _ _)=>True
 | some (.exc _ _ _)=>True
 | some (.ext _)=>True
 | _=>False
section
variable {P:Program}{w:World}{H:Hp}{h h':Heap}{x e:Addr}{o':HO}
theorem HOk.write (ok:HOk P w H h)(mu:mU (H x))(he:e=x\/H e=some (.own x))(k:∀b u,b≠e->h.get? b=some u->h'.get? b=some u)(heo:∃u,h'.get? e=some u)
  (new:ObjOk P w (upd H x o') h' x o'):HOk P w (upd H x o') h':=fun b u q=>by
 have nown:∀c y,H c=some (.own y)->c≠x:=fun c y r z=>by subst z; rw[r] at mu; exact mu
 have ntup:∀c xs,H c=some (.tup xs)->c≠x:=fun c xs r z=>by subst z; rw[r] at mu; exact mu
 by_cases hb:b=x
 ·subst hb; rw[bu] at q; cases q; exact new
 ·rw[aZ hb] at q;by_cases hbe:b=e
  ·have q':H b=some (.own x):=by
    rcases he with z | z
    ·exact absurd (hbe.trans z) hb
    ·rw[hbe]; exact z
   rw[q] at q'; cases q';obtain⟨v,hv⟩:=heo;exact⟨v,by rw[hbe]; exact hv⟩
  ·refine (ok b u q).stay (fun c v hc r=>k c v ?_ r) (fun c r=>by rw[aZ (nown c b r)]; exact r) fun c xs r=>by rw[aZ (ntup c xs r)]; exact r
   rcases hc with rfl | hc
   ·exact hbe
   ·rintro rfl;rcases he with z | z
    ·exact nown c b hc z
    ·rw[hc] at z; cases z; exact hb rfl
end
structure Un (fs ex:List Addr)(H H':Hp)(h h':Heap):Prop where
 keep:∀b o,h.get? b=some o->H b=none->b∉fs->b∉ex->h'.get? b=some o
 slot:∀b o,h.get? b=some o->H b=none->b∈fs->b∉ex->∃sl,h'.get? b=some { o with slots:=sl }
 free:∀b o,h.get? b=some o->H b=none->b∉ex->H' b=none
 there:∀b o,h.get? b=some o->b∉ex->∃o',h'.get? b=some o'
 tups:∀b xs,H b=some (.tup xs)->H' b=some (.tup xs)
 frzs:∀b o u,H b=some (.frz o u)->H' b=some (.frz o u)
 tbls:∀b ps,H b=some (.tbl ps)->∃more,H' b=some (.tbl (ps++more))
section
variable {fs fs' ex ex':List Addr}{H H1 H2:Hp}{h h1 h2 h':Heap}{a x e:Addr}{o:HO}
theorem Un.any (u:Un fs ex H H1 h h1)(q:h.get? b=some ob)(n:H b=none)(hx:b∉ex):∃sl,h1.get? b=some { ob with slots:=sl }:=by
 by_cases hb:b∈fs
 ·exact u.slot b ob q n hb hx
 ·exact⟨ob.slots,u.keep b ob q n hb hx⟩
theorem Un.trans (a:Un fs ex H H1 h h1)(b:Un fs ex H1 H2 h1 h2):Un fs ex H H2 h h2 where
 keep:=fun c ob q n hc hx=>b.keep c ob (a.keep c ob q n hc hx) (a.free c ob q n hx) hc hx
 slot:=fun c ob q n hc hx=>by
  obtain⟨sl,e1⟩:=a.slot c ob q n hc hx;obtain⟨sl',e2⟩:=b.slot c _ e1 (a.free c ob q n hx) hc hx;exact⟨sl',e2⟩
 free:=fun c ob q n hx=>by
  obtain⟨o',e1⟩:=a.there c ob q hx;exact b.free c o' e1 (a.free c ob q n hx) hx
 there:=fun c ob q hx=>by
  obtain⟨o',e1⟩:=a.there c ob q hx;exact b.there c o' e1 hx
 tups:=fun c xs q=>b.tups c xs (a.tups c xs q)
 frzs:=fun c ob xs q=>b.frzs c ob xs (a.frzs c ob xs q)
 tbls:=fun c ps q=>by
  obtain⟨m1,e1⟩:=a.tbls c ps q;obtain⟨m2,e2⟩:=b.tbls c _ e1;exact⟨m1++m2,by rw[e2,Array.append_assoc]⟩
theorem Un.kept (k:∀b u,h.get? b=some u->h'.get? b=some u):Un fs ex H H h h':=
 ⟨fun b ob q _ _ _=>k b ob q,fun b ob q _ _ _=>⟨ob.slots,k b ob q⟩,fun _ _ _ n _=>n,fun b ob q _=>⟨ob,k b ob q⟩,fun _ _ q=>q,fun _ _ _ q=>q,fun _ ps q=>⟨#[],by rw[q]; simp⟩⟩
theorem Un.refl:Un fs ex H H h h:=Un.kept fun _ _ q=>q
theorem Un.laid (k:∀b u,h.get? b=some u->h'.get? b=some u)(hp:h.objs.size<=a)(hn:H a=none):Un fs ex H (upd H a o) h h' where
 keep:=fun b u q _ _ _=>k b u q
 slot:=fun b u q _ _ _=>⟨u.slots,k b u q⟩
 free:=fun b u q n _=>by rw[aZ (Nat.ne_of_lt (Nat.lt_of_lt_of_le (Heap.lt_size q) hp))]; exact n
 there:=fun b u q _=>⟨u,k b u q⟩
 tups:=fun b xs q=>by rw[aZ (mG q hn)]; exact q
 frzs:=fun b u xs q=>by rw[aZ (mG q hn)]; exact q
 tbls:=fun b ps q=>⟨#[],by rw[aZ (mG q hn),q]; simp⟩
theorem Un.write (mu:mU (H x))(he:e=x\/H e=some (.own x))(k:∀b u,b≠e->h.get? b=some u->h'.get? b=some u)(heo:∃u,h'.get? e=some u):Un fs ex H (upd H x o) h h':=by
 have hx:∀b,H b=none->b≠x:=fun b n z=>by subst z; rw[n] at mu; exact mu
 have hb:∀b,H b=none->b≠e:=fun b n z=>by
  subst z;rcases he with r | r
  ·exact hx b n r
  ·rw[n] at r; cases r
 have hm:∀b u,H b=some u->¬mU (some u)->b≠x:=fun b u q nm z=>by subst z; rw[q] at mu; exact nm mu
 refine⟨fun b u q n _ _=>k b u (hb b n) q,fun b u q n _ _=>⟨u.slots,k b u (hb b n) q⟩,fun b u q n _=>by rw[aZ (hx b n)]; exact n,fun b u q _=>?_,
  fun b xs q=>by rw[aZ (hm b _ q fun z=>z)]; exact q,fun b u xs q=>by rw[aZ (hm b _ q fun z=>z)]; exact q,fun b ps q=>⟨#[],by rw[aZ (hm b _ q fun z=>z),q]; simp⟩⟩
 by_cases hbe:b=e
 ·subst hbe; exact heo
 ·exact⟨u,k b u hbe q⟩
end
noncomputable def nX (h:Heap)(H:Hp):List Addr:=(List.range h.objs.size).filter fun a=>(H a).isSome
noncomputable def dN (h:Heap)(H:Hp):Heap:=PySem.W.hideAll h (nX h H)
theorem Dg (h:Heap)(H:Hp):(dN h H).objs.size=h.objs.size:=PySem.W.hideAll_size _ _
theorem xu (e:h.get? b=some o)(n:H b=none):(dN h H).get? b=some o:=
 PySem.W.hideAll_get _ e fun hm=>by
  have q:(H b).isSome=true:=(List.mem_filter.mp hm).2;rw[n] at q; simp at q
theorem AW (e:(dN h H).get? b=some o):h.get? b=some o/\H b=none:=by
 have e':h.get? b=some o:=PySem.W.of_hideAll (nX h H) e;refine⟨e',?_⟩;cases q:H b with
 | none=>rfl
 | some x=>
  have hm:b∈nX h H:=List.mem_filter.mpr ⟨List.mem_range.mpr (bn e'),by simp[q]⟩;have z:(dN h H).get? b=none:=PySem.W.hideAll_none (nX h H) hm;rw[z] at e; cases e
noncomputable def gU (g h:Heap)(L:Addr):List (Addr×Obj):=(List.range h.objs.size).filterMap fun a=>if a=L\/(g.get? a).isSome=true then none else (h.get? a).map fun o=>(a,o)
noncomputable def rest (g h:Heap)(L d:Addr):List (Addr×Obj):=(gU g h L).filter fun p=>decide (p.1≠d)
end L2
namespace L2
open PySem PySem.Spec PyProof.Rows
structure Mod (K:aG)(mg:Str->Option Value)(base:Heap):Prop where
 kin:K.In base
 glob:base.Ns mainGlobals mg
 blt:∃mb,base.Ns builtinsNs mb/\∀x:Str,x ≠ "__name__" -> mb x=bootBuiltins x
 nolimit:base.NoLimit
structure Cx where
 prog:Program
 w:World
 K:aG
 mg:Str->Option Value
 base:Heap
 A:Around
 N:List Str
 s₀:Shared
 H₀:Hp
 env:Env
 outer:List Env
 stack:List Env
 ex:List Addr
 fn:Str->Bool
 calm:Bool
 pn:List (Addr×Obj)
 xe:Value->Shared->Prop
noncomputable def eL (l:List Env):List Addr:=l.filterMap (·.frame)
noncomputable abbrev Cx.fs (X:Cx):List Addr:=eL X.outer
def mZ (sc:Scope)(x:Str):Prop:=sc.names.lookup x=some .local\/sc.names.lookup x=some .cell\/sc.names.lookup x=some .free
def Loc (sc:Scope)(x:Str):Prop:=sc.names.lookup x=some .local\/sc.names.lookup x=some .cell
def Look (env:Env)(h:Heap)(m:Str->Option Value)(x:Str)(u:Value):Prop:=
 (env.kindOf x=some .local/\m x=some u)\/((env.kindOf x=some .cell\/env.kindOf x=some .free)/\∃c,env.cells.lookup x=some c/\h.IsCell c (some u))
structure Cx.Ok (X:Cx):Prop where
 mod:Mod X.K X.mg X.base
 kind:X.env.scope.kind=.function
 glob:X.env.globals=mainGlobals
 blt:X.env.builtins=builtinsNs
 above:X.s₀.heap.objs.size<=X.env.locals
 inj:∀x y c,X.env.cells.lookup x=some c->X.env.cells.lookup y=some c->x=y
 has:∀x,(X.env.kindOf x=some .cell\/X.env.kindOf x=some .free)->∃c,X.env.cells.lookup x=some c
 cab:∀x c,X.fn x=true->X.env.cells.lookup x=some c->X.s₀.heap.objs.size<=c
 hd:X.calm=true->X.A.handled=none
 frames:X.A.frames=some X.stack
 stk:X.stack=X.outer\/(X.stack=X.env::X.outer/\X.env.frame=some X.env.locals)
 exf:∀b∈X.ex,b≠X.env.locals/\∀x c,X.env.cells.lookup x=some c->c≠b
 bs:∀b o,X.base.get? b=some o->X.s₀.heap.get? b=some o/\X.H₀ b=none
 bsz:X.base.objs.size<=X.s₀.heap.objs.size
 noex:∀b o,X.base.get? b=some o->b∉X.ex
 exfs:∀b∈X.ex,b∉X.fs
 funs:X.s₀.heap.FunFrames X.base X.outer
 frf:∀b∈X.fs,X.H₀ b=none
structure Inv (X:Cx)(pins:List (Addr×Obj))(σ:List (Option V))(H:Hp)(s:Shared):Prop where
 ok:X.Ok
 os:s.os=X.s₀.os
 bare:AllBare s.gens
 base:Un X.fs X.ex X.H₀ H X.s₀.heap s.heap
 loc:∃m,s.heap.Ns X.env.locals m/\∀(i:Nat) (x:Str) (v:V),X.N[i]? = some x->σ[i]? = some (some v)->mZ X.env.scope x->∃u,RelV v u/\Look X.env s.heap m x u
 cell:∀x c,X.env.cells.lookup x=some c->∃v,s.heap.IsCell c v
 free:H X.env.locals=none
 freeC:∀x c,X.env.cells.lookup x=some c->H c=none
 pin:∀p∈X.pn++pins,s.heap.get? p.1=some p.2/\H p.1=none/\p.1≠X.env.locals/\p.1∉X.fs/\∀v,p.2.data≠.cell v
 hok:HOk X.prog X.w H s.heap
 len:σ.length=X.N.length
section
variable {X:Cx}{pins:List (Addr×Obj)}{σ:List (Option V)}{H H':Hp}{s:Shared}{h':Heap}
theorem Cx.Ok.nofr (ok:X.Ok)(e:X.base.get? b=some o):b∉X.fs:=fun hb=>by
 have:=(ok.funs.mem hb).1;rw[e] at this; cases this
theorem Inv.bs (I:Inv X pins σ H s):∀b o,X.base.get? b=some o->s.heap.get? b=some o/\H b=none:=fun b o e=>
 ⟨I.base.keep b o (I.ok.bs b o e).1 (I.ok.bs b o e).2 (I.ok.nofr e) (I.ok.noex b o e),I.base.free b o (I.ok.bs b o e).1 (I.ok.bs b o e).2 (I.ok.noex b o e)⟩
theorem Inv.bk (I:Inv X pins σ H s):∀b o,X.base.get? b=some o->s.heap.get? b=some o:=fun b o e=>(I.bs b o e).1
theorem Inv.mod (I:Inv X pins σ H s):Mod X.K X.mg X.base:=I.ok.mod
theorem Inv.kIn (I:Inv X pins σ H s):X.K.In s.heap:=I.ok.mod.kin.keeps I.bk
theorem Inv.lt (I:Inv X pins σ H s):X.env.locals<s.heap.objs.size:=let ⟨_,hn,_⟩:=I.loc; hn.lt
theorem Inv.sz (I:Inv X pins σ H s):X.s₀.heap.objs.size<=s.heap.objs.size:=br I.ok.above (Nat.le_of_lt I.lt)
theorem Inv.nofs (I:Inv X pins σ H s)(h:s.heap.objs.size<=a):a∉X.fs:=fun hb=>by
 obtain⟨_,o,ho,_⟩:=I.ok.funs.mem hb;exact absurd (dR (bn ho) (br I.sz h)) (Nat.lt_irrefl _)
theorem Inv.cne (I:Inv X pins σ H s):∀x c,X.env.cells.lookup x=some c->c≠X.env.locals:=fun x c e z=>by
 obtain⟨v,o,ho,hd⟩:=I.cell x c e;obtain⟨m,⟨o',es,ep,ho',hd',_⟩,_⟩:=I.loc;rw[z,ho'] at ho; cases ho; rw[hd'] at hd; cases hd
theorem Inv.funs (I:Inv X pins σ H s):s.heap.FunFrames X.base X.outer:=by
 have all:∀(l:List Env),(∀b∈eL l,b∈X.fs)->X.s₀.heap.FunFrames X.base l->s.heap.FunFrames X.base l:=by
  intro l;induction l with
  | nil=>intro _ _; trivial
  | cons env r ih=>
   intro hs hl;obtain⟨hk,⟨L,o,hf,hn,ho,hd⟩,hr⟩:=hl;have hL:L∈X.fs:=hs L (by unfold eL; rw[List.filterMap_cons,hf]; exact bD);obtain⟨sl,e⟩:=I.base.slot L o ho (I.ok.frf L hL) hL fun z=>I.ok.exfs L z hL;exact⟨hk,⟨L,_,hf,hn,e,hd⟩,ih (fun b hb=>hs b (by unfold eL; rw[List.filterMap_cons,hf]; exact bw _ hb)) hr⟩
 exact all X.outer (fun _ hb=>hb) I.ok.funs
theorem Inv.stack (I:Inv X pins σ H s):s.heap.FunFrames X.base X.stack:=by
 rcases I.ok.stk with e | ⟨e,hf⟩
 ·rw[e]; exact I.funs
 ·rw[e];obtain⟨m,hn,_⟩:=I.loc;refine .cons (by rw[I.ok.kind]; decide) hf hn ?_ I.funs;exact Heap.get?_none_of_le (br I.ok.bsz I.ok.above)
theorem Inv.stkSub (I:Inv X pins σ H s):∀b∈eL X.stack,b∈X.env.locals::X.fs:=fun b hb=>by
 rcases I.ok.stk with e | ⟨e,hf⟩
 ·rw[e] at hb; exact bw _ hb
 ·rw[e] at hb;unfold eL at hb;rw[List.filterMap_cons,hf] at hb;exact hb
theorem Inv.stkFree (I:Inv X pins σ H s):∀b∈eL X.stack,H b=none:=fun b hb=>by
 rcases bN (I.stkSub b hb) with e | hb
 ·rw[e]; exact I.free
 ·obtain⟨_,o,ho,_⟩:=I.ok.funs.mem hb;exact I.base.free b o ho (I.ok.frf b hb) fun z=>I.ok.exfs b z hb
theorem Inv.step {g':Array GenState}{t':Nat}{d':Drawn}{ch:List Addr}(I:Inv X pins σ H s)
  (hch:∀b∈ch,(b∈X.ex\/X.s₀.heap.objs.size<=b)/\b≠X.env.locals/\(∀x c,X.env.cells.lookup x=some c->c≠b)/\∀p∈X.pn++pins,p.1≠b)
  (keep:∀b o,b≠X.env.locals->b∉X.fs->b∉ch->s.heap.get? b=some o->H b=none->h'.get? b=some o)
  (slot:∀b o,b≠X.env.locals->b∈X.fs->b∉ch->s.heap.get? b=some o->H b=none->∃sl,h'.get? b=some { o with slots:=sl })(free:∀b o,b∉ch->s.heap.get? b=some o->H b=none->H' b=none)
  (there:∀b o,b∉ch->s.heap.get? b=some o->∃o',h'.get? b=some o')
  (tups:∀b xs,H b=some (.tup xs)->H' b=some (.tup xs))(frzs:∀b o u,H b=some (.frz o u)->H' b=some (.frz o u))(tbls:∀b ps,H b=some (.tbl ps)->∃more,H' b=some (.tbl (ps++more)))
  (ns:∀m,s.heap.Ns X.env.locals m->h'.Ns X.env.locals m)(hok:HOk X.prog X.w H' h')(hg:AllBare g') :
  Inv X pins σ H' { s with heap:=h',gens:=g',drawn:=d',toks:=t' }:=by
 have neL:∀b o,X.s₀.heap.get? b=some o->b≠X.env.locals:=fun b o e=>cH (dR (bn e) I.ok.above);have neC:∀b o,X.s₀.heap.get? b=some o->b∉X.ex->b∉ch:=fun b o e hx hb=>by
  rcases (hch b hb).1 with z | z
  ·exact hx z
  ·exact absurd (dR (bn e) z) (Nat.lt_irrefl _)
 have cellK:∀x c,X.env.cells.lookup x=some c->∀v,s.heap.IsCell c v->h'.IsCell c v:=fun x c e v ⟨o,ho,hd⟩=>by
  have nch:c∉ch:=fun z=>(hch c z).2.2.1 x c e rfl;by_cases hc:c∈X.fs
  ·obtain⟨sl,q⟩:=slot c o (I.cne x c e) hc nch ho (I.freeC x c e);exact⟨_,q,hd⟩
  ·exact⟨o,keep c o (I.cne x c e) hc nch ho (I.freeC x c e),hd⟩
 refine⟨I.ok,I.os,hg,⟨fun b o e n hb hx=>?_,fun b o e n hb hx=>?_,fun b o e n hx=>?_,fun b o e hx=>?_,fun b xs e=>tups b xs (I.base.tups b xs e),fun b o xs e=>frzs b o xs (I.base.frzs b o xs e),fun b ps e=>?_⟩,?_,fun x c e=>?_,?_,fun x c e=>?_,fun p hp=>?_,hok,I.len⟩
 ·exact keep b o (neL b o e) hb (neC b o e hx) (I.base.keep b o e n hb hx) (I.base.free b o e n hx)
 ·obtain⟨sl,e1⟩:=I.base.slot b o e n hb hx;obtain⟨sl',e2⟩:=slot b _ (neL b o e) hb (neC b o e hx) e1 (I.base.free b o e n hx);exact⟨sl',e2⟩
 ·obtain⟨o',e1⟩:=I.base.there b o e hx;exact free b o' (neC b o e hx) e1 (I.base.free b o e n hx)
 ·obtain⟨o',e1⟩:=I.base.there b o e hx;exact there b o' (neC b o e hx) e1
 ·obtain⟨m1,e1⟩:=I.base.tbls b ps e;obtain⟨m2,e2⟩:=tbls b _ e1;exact⟨m1++m2,by rw[e2,Array.append_assoc]⟩
 ·obtain⟨m,hn,hl⟩:=I.loc;refine⟨m,ns m hn,fun i x v e1 e2 e3=>?_⟩;obtain⟨u,r,l⟩:=hl i x v e1 e2 e3;refine⟨u,r,?_⟩;rcases l with l | ⟨k,c,e,z⟩
  ·exact .inl l
  ·exact .inr ⟨k,c,e,cellK x c e _ z⟩
 ·obtain⟨v,z⟩:=I.cell x c e;exact⟨v,cellK x c e v z⟩
 ·obtain⟨m,⟨o,_,_,ho,_⟩,_⟩:=I.loc;exact free _ o (fun z=>(hch _ z).2.1 rfl) ho I.free
 ·obtain⟨v,o,ho,hd⟩:=I.cell x c e;exact free c o (fun z=>(hch c z).2.2.1 x c e rfl) ho (I.freeC x c e)
 ·obtain⟨e,n,ne,nf,d⟩:=I.pin p hp;have nch:p.1∉ch:=fun z=>(hch p.1 z).2.2.2 p hp rfl;exact⟨keep p.1 p.2 ne nf nch e n,free p.1 p.2 nch e n,ne,nf,d⟩
theorem Inv.un {t':Nat}(I:Inv X pins σ H s)(u:Un X.fs [] H H' s.heap h')(hok:HOk X.prog X.w H' h'):Inv X pins σ H' { s with heap:=h',toks:=t' }:=by
 obtain⟨m,⟨o,es,ep,ho,r⟩,_⟩:=id I.loc;obtain⟨sl,hL⟩:=u.any ho I.free (by simp);exact I.step (g':=s.gens) (d':=s.drawn) (ch:=[]) (fun _ z=>nomatch z) (fun b o _ hb _ e n=>u.keep b o e n hb (by simp)) (fun b o _ hb _ e n=>u.slot b o e n hb (by simp)) (fun b o _ e n=>u.free b o e n (by simp)) (fun b o _ e=>u.there b o e (by simp)) u.tups u.frzs u.tbls (fun m' hm=>by
  obtain⟨o',es',ep',ho',r'⟩:=hm;rw[ho] at ho'; cases ho';exact⟨_,es',ep',hL,r'⟩) hok I.bare
theorem Inv.call {g':Array GenState}{t':Nat}{d':Drawn}{ch:List Addr}(I:Inv X pins σ H s)(u:Un (eL X.stack) ch H H' s.heap h')(hok:HOk X.prog X.w H' h')(hg:AllBare g')
  (hch:∀b∈ch,(b∈X.ex\/X.s₀.heap.objs.size<=b)/\b≠X.env.locals/\(∀x c,X.env.cells.lookup x=some c->c≠b)/\∀p∈X.pn++pins,p.1≠b) :
  Inv X pins σ H' { s with heap:=h',gens:=g',drawn:=d',toks:=t' }:=by
 obtain⟨m,⟨o,es,ep,ho,r⟩,_⟩:=id I.loc;obtain⟨sl,hL⟩:=u.any ho I.free fun z=>(hch _ z).2.1 rfl;exact I.step (ch:=ch) hch (fun b o hL hb hc e n=>u.keep b o e n (fun z=>(bN (I.stkSub b z)).elim hL hb) hc) (fun b o _ _ hc e n=>u.any e n hc) (fun b o hc e n=>u.free b o e n hc) (fun b o hc e=>u.there b o e hc) u.tups u.frzs u.tbls (fun m' hm=>by
  obtain⟨o',es',ep',ho',r'⟩:=hm;rw[ho] at ho'; cases ho';exact⟨_,es',ep',hL,r'⟩) hok hg
theorem Inv.turned {t':Nat}{it:Addr}(I:Inv X pins σ H s)(k:∀b o,b≠it->s.heap.get? b=some o->h'.get? b=some o)(hn:H it=none)(hL:it≠X.env.locals)
  (h1:it∈X.ex\/X.s₀.heap.objs.size<=it)(h2:∀x c,X.env.cells.lookup x=some c->c≠it)(h3:∀p∈X.pn++pins,p.1≠it):Inv X pins σ H { s with heap:=h',toks:=t' }:=by
 have nit:∀b u,H b=some u->b≠it:=fun b u e z=>by rw[z,hn] at e; cases e
 refine I.step (g':=s.gens) (d':=s.drawn) (ch:=[it]) (fun b hb=>?_) (fun b o _ _ hc e _=>k b o (fun z=>hc (by simp[z])) e) (fun b o _ _ hc e _=>⟨o.slots,k b o (fun z=>hc (by simp[z])) e⟩) (fun _ _ _ _ n=>n)
  (fun b o hc e=>⟨o,k b o (fun z=>hc (by simp[z])) e⟩) (fun _ _ e=>e) (fun _ _ _ e=>e) (fun b ps e=>⟨#[],by rw[e]; simp⟩) (fun m hm=>?_) (fun b u e=>?_) I.bare
 ·have e:b=it:=by simpa using hb
  subst e;exact⟨h1,hL,h2,h3⟩
 ·obtain⟨o,es,ep,ho,r⟩:=hm;exact⟨o,es,ep,k _ o (Ne.symm hL) ho,r⟩
 ·refine (I.hok b u e).stay (fun c v hc q=>k c v ?_ q) (fun _ q=>q) fun _ _ q=>q;rcases hc with z | z
  ·rw[z]; exact nit b u e
  ·exact nit c _ z
theorem Inv.tok (I:Inv X pins σ H s)(t:Nat):Inv X pins σ H { s with toks:=t }:=I.un (h':=s.heap) (t':=t) Un.refl I.hok
theorem Inv.kept (I:Inv X pins σ H s)(k:∀b u,s.heap.get? b=some u->h'.get? b=some u):Inv X pins σ H { s with heap:=h',toks:=t' }:=I.un (Un.kept k) (I.hok.kept k)
theorem Inv.laid (I:Inv X pins σ H s)(k:∀b u,s.heap.get? b=some u->h'.get? b=some u)(hp:s.heap.objs.size<=a)(new:ObjOk X.prog X.w (upd H a o) h' a o) :
  Inv X pins σ (upd H a o) { s with heap:=h',toks:=t' }:=I.un (Un.laid k hp (I.hok.fresh hp)) (I.hok.laid k hp new)
theorem Inv.write (I:Inv X pins σ H s)(mu:mU (H x))(he:e=x\/H e=some (.own x))(k:∀b u,b≠e->s.heap.get? b=some u->h'.get? b=some u)(heo:∃u,h'.get? e=some u)
  (new:ObjOk X.prog X.w (upd H x o) h' x o):Inv X pins σ (upd H x o) { s with heap:=h',toks:=t' }:=I.un (Un.write mu he k heo) (I.hok.write mu he k heo new)
theorem Inv.pins_of (I:Inv X pins σ H s)(h:∀p∈pins',s.heap.get? p.1=some p.2/\H p.1=none/\p.1≠X.env.locals/\p.1∉X.fs/\∀v,p.2.data≠.cell v):Inv X pins' σ H s:=
 ⟨I.ok,I.os,I.bare,I.base,I.loc,I.cell,I.free,I.freeC,fun p hp=>(dk hp).elim (fun z=>I.pin p (dP _ z)) (h p),I.hok,I.len⟩
theorem mW {N:List Str}(hN:N.Nodup){i j:Nat}{x:Str}(a:N[i]? = some x)(b:N[j]? = some x):i=j:=by
 obtain⟨h1,e1⟩:=cr a;obtain⟨h2,e2⟩:=cr b;exact (List.getElem_inj hN).mp (e1.trans e2.symm)
theorem Dm {M:Model}{A:Around}{E:Value->Shared->Prop}{i:Nat}{x:Str}{v:V}{u:Value}{Q:Unit->Shared->Prop}(I:Inv X pins σ H s)(hN:X.N.Nodup)(hi:X.N[i]? = some x)(hx:Loc X.env.scope x)(r:RelV v u)
  (h:∀s',Inv X pins (σ.set i (some v)) H s'->(∃a,Heap.SameBut a s.heap s'.heap/\(a=X.env.locals\/X.env.cells.lookup x=some a))->Q () s')(hf:X.fn x=true\/X.env.scope.names.lookup x=some .local:=by first | exact .inl rfl | exact .inr rfl | assumption):wpAny M A (storeName X.env x u) Q E s:=by
 obtain⟨m,hn,hl⟩:=id I.loc;have hcls:(X.env.scope.kind == .class||(X.env.scope.kind == .module&&X.env.locals != X.env.globals))=false:=by rw[I.ok.kind]; rfl
 have hiσ:i < σ.length:=by rw[I.len]; exact (cr hi).1
 have cne:=I.cne;have tracked:∀{a:Addr} {h':Heap},(∃o,s.heap.get? a=some o/\H a=none)->Heap.SameBut a s.heap h'->HOk X.prog X.w H h':=fun {a h'} ha hs b ob e=>by
  obtain⟨_,_,hfree⟩:=ha;refine (I.hok b ob e).stay (fun c w' hc q=>(hs.2 c ?_).trans q) (fun _ q=>q) fun _ _ q=>q;rintro rfl;rcases hc with rfl | hc
  ·rw[hfree] at e; cases e
  ·rw[hfree] at hc; cases hc
 rcases hx with hk | hk
 ·refine wpAny_storeName_local hk hn (fun h' hn' hs=>?_) hcls;obtain⟨oL,_,_,hoL,_⟩:=id hn;refine h _ ⟨I.ok,I.os,I.bare,⟨fun b o e n hb hx=>?_,fun b o e n hb hx=>?_,I.base.free,fun b o e hx=>?_,I.base.tups,I.base.frzs,I.base.tbls⟩,⟨_,hn',fun j y v' e1 e2 e3=>?_⟩,fun y c e=>?_,I.free,I.freeC,fun p hp=>?_,tracked ⟨oL,hoL,I.free⟩ hs,by simpa using I.len⟩ ⟨_,hs,.inl rfl⟩
  ·exact (hs.2 b (cH (dR (bn e) I.ok.above))).trans (I.base.keep b o e n hb hx)
  ·obtain⟨sl,e1⟩:=I.base.slot b o e n hb hx;exact⟨sl,(hs.2 b (cH (dR (bn e) I.ok.above))).trans e1⟩
  ·obtain⟨o',e1⟩:=I.base.there b o e hx;exact⟨o',(hs.2 b (cH (dR (bn e) I.ok.above))).trans e1⟩
  ·by_cases hj:j=i
   ·subst hj;rw[hi] at e1; cases e1;rw[List.getElem?_set_self hiσ] at e2;cases e2;exact⟨u,r,.inl ⟨hk,by simp⟩⟩
   ·rw[List.getElem?_set_ne (Ne.symm hj)] at e2;obtain⟨u',r',q⟩:=hl j y v' e1 e2 e3;refine⟨u',r',?_⟩;rcases q with ⟨k,e⟩ | ⟨k,c,e,z⟩
    ·refine .inl ⟨k,?_⟩;have:y≠x:=fun e=>hj (mW hN e1 (e ▸ hi));simp[this,e]
    ·exact .inr ⟨k,c,e,z.sameBut hs (cne y c e)⟩
  ·obtain⟨w',z⟩:=I.cell y c e;exact⟨w',z.sameBut hs (cne y c e)⟩
  ·obtain⟨e,n,ne,nf,d⟩:=I.pin p hp;exact⟨(hs.2 p.1 ne).trans e,n,ne,nf,d⟩
 ·have hfn:X.fn x=true:=by
   rcases hf with z | z
   ·exact z
   ·rw[z] at hk; cases hk
  obtain⟨c,hc⟩:=I.ok.has x (.inl hk);obtain⟨w',z⟩:=I.cell x c hc;refine wpAny_storeName_cell I.ok.kind hk hc z (fun h' hc' hs=>?_);obtain⟨oc,hoc,hocd⟩:=id z;refine h { s with heap:=h' } ⟨I.ok,I.os,I.bare,⟨fun b o e n hb hx=>?_,fun b o e n hb hx=>?_,I.base.free,fun b o e hx=>?_,I.base.tups,I.base.frzs,I.base.tbls⟩,⟨m,hn.sameBut hs (Ne.symm (cne x c hc)),fun j y v' e1 e2 e3=>?_⟩,fun y c' e=>?_,I.free,I.freeC,fun p hp=>?_,tracked ⟨oc,hoc,I.freeC x c hc⟩ hs,by simpa using I.len⟩ ⟨c,hs,.inr hc⟩
  ·exact (hs.2 b (cH (dR (bn e) (I.ok.cab x c hfn hc)))).trans (I.base.keep b o e n hb hx)
  ·obtain⟨sl,e1⟩:=I.base.slot b o e n hb hx;exact⟨sl,(hs.2 b (cH (dR (bn e) (I.ok.cab x c hfn hc)))).trans e1⟩
  ·obtain⟨o',e1⟩:=I.base.there b o e hx;exact⟨o',(hs.2 b (cH (dR (bn e) (I.ok.cab x c hfn hc)))).trans e1⟩
  ·by_cases hj:j=i
   ·subst hj;rw[hi] at e1; cases e1;rw[List.getElem?_set_self hiσ] at e2;cases e2;exact⟨u,r,.inr ⟨.inl hk,c,hc,hc'⟩⟩
   ·rw[List.getElem?_set_ne (Ne.symm hj)] at e2;obtain⟨u',r',q⟩:=hl j y v' e1 e2 e3;refine⟨u',r',?_⟩;rcases q with q | ⟨k,c',e,z'⟩
    ·exact .inl q
    ·refine .inr ⟨k,c',e,z'.sameBut hs ?_⟩;rintro rfl;exact hj (mW hN e1 (I.ok.inj _ _ _ e hc ▸ hi))
  ·by_cases hcc:c'=c
   ·subst hcc; exact⟨_,hc'⟩
   ·obtain⟨w2,z2⟩:=I.cell y c' e;exact⟨w2,z2.sameBut hs hcc⟩
  ·obtain⟨e,n,ne,nf,d⟩:=I.pin p hp;refine⟨(hs.2 p.1 ?_).trans e,n,ne,nf,d⟩;intro q;rw[q,hoc] at e;have q':oc=p.2:=bO e;exact d w' (by rw[<-q']; exact hocd)
theorem oF (I:Inv X pins σ H s)(hN:X.N.Nodup)(hi:X.N[i]? = some x)(hx:Loc X.env.scope x)(r:RelV v u)
  (h:∀s',Inv X pins (σ.set i (some v)) H s'->Q () s')(hf:X.fn x=true\/X.env.scope.names.lookup x=some .local:=by first | exact .inl rfl | exact .inr rfl | assumption):wpAny M A (storeName X.env x u) Q E s:=
 Dm I hN hi hx r (fun s' I' _=>h s' I') hf
theorem Inv.call' (I:Inv X pins σ H s)(ho:s'.os=s.os)(u:Un (eL X.stack) ch H H' s.heap s'.heap)(hok:HOk X.prog X.w H' s'.heap)(hg:AllBare s'.gens)
  (hch:∀b∈ch,(b∈X.ex\/X.s₀.heap.objs.size<=b)/\b≠X.env.locals/\(∀x c,X.env.cells.lookup x=some c->c≠b)/\∀p∈X.pn++pins,p.1≠b):Inv X pins σ H' s':=by
 obtain⟨h',g',d',t',o'⟩:=s';have e:o'=s.os:=ho;subst e;exact I.call (g':=g') (t':=t') (d':=d') u hok hg hch
end
abbrev XK:=Value->Option Addr->Hp->Prop
noncomputable abbrev St:=List (Option V)
abbrev VK:=V->Hp->Prop
abbrev TE:=St->Hp->VK->Prop
abbrev TT:=St->Hp->(Bool->Hp->Prop)->Prop
abbrev TA:=St->Hp->(List V->Hp->Prop)->Prop
structure Ends where
 nx:St->Hp->Prop
 rt:VK
 bk:St->Hp->Prop:=fun _ _=>False
 ct:St->Hp->Prop:=fun _ _=>False
abbrev TS:=Ends->St->Hp->Prop
def EP (X:Cx)(pins:List (Addr×Obj))(σ:St)(Q:VK)(u:Value)(s':Shared):Prop:=∃v H',Inv X pins σ H' s'/\RelV v u/\Q v H'
def TP (X:Cx)(pins:List (Addr×Obj))(σ:St)(Q:Bool->Hp->Prop)(b:Bool)(s':Shared):Prop:=∃H',Inv X pins σ H' s'/\Q b H'
def AP (X:Cx)(pins:List (Addr×Obj))(σ:St)(Q:List V->Hp->Prop)(us:List Value)(s':Shared):Prop:=∃vs H',Inv X pins σ H' s'/\Vals vs us/\Q vs H'
def SP (X:Cx)(pins:List (Addr×Obj))(D:Ends)(f:Flow)(s':Shared):Prop:=
 match f with
 | .next=>∃σ' H',Inv X pins σ' H' s'/\D.nx σ' H'
 | .brk=>∃σ' H',Inv X pins σ' H' s'/\D.bk σ' H'
 | .cont=>∃σ' H',Inv X pins σ' H' s'/\D.ct σ' H'
 | .ret u=>∃v σ' H',Inv X pins σ' H' s'/\RelV v u/\D.rt v H'
def PE (X:Cx)(e:Expr)(t:TE):Prop:=
 ∀(pins:List (Addr×Obj)) (s:Shared) (σ:St) (H:Hp) (Q:VK),Inv X pins σ H s->t σ H Q->wpAny (model X.prog X.w) X.A (eval e X.env) (EP X pins σ Q) X.xe s
def PT (X:Cx)(e:Expr)(t:TT):Prop:=
 ∀(pins:List (Addr×Obj)) (s:Shared) (σ:St) (H:Hp) (Q:Bool->Hp->Prop),Inv X pins σ H s->t σ H Q->wpAny (model X.prog X.w) X.A (isTrue e X.env (eval e X.env)) (TP X pins σ Q) X.xe s
def PW (X:Cx)(e:Expr)(t:TT):Prop:=
 ∀(whole:Sem Value) (pins:List (Addr×Obj)) (s:Shared) (σ:St) (H:Hp) (Q:Bool->Hp->Prop),Inv X pins σ H s->t σ H Q->wpAny (model X.prog X.w) X.A (isTrue e X.env whole) (TP X pins σ Q) X.xe s
theorem PW.pt (h:PW X e t):PT X e t:=h _
def PA (X:Cx)(es:List Expr)(t:TA):Prop:=
 ∀(pos:Pos) (pins:List (Addr×Obj)) (s:Shared) (σ:St) (H:Hp) (Q:List V->Hp->Prop),Inv X pins σ H s->t σ H Q->wpAny (model X.prog X.w) X.A (spliced (backTo pos (starEach es X.env))) (AP X pins σ Q) X.xe s
def PS (X:Cx)(st:Stmt)(t:TS):Prop:=
 ∀(pins:List (Addr×Obj)) (s:Shared) (σ:St) (H:Hp) (D:Ends),Inv X pins σ H s->t D σ H->wpAny (model X.prog X.w) X.A (exec st X.env) (SP X pins D) X.xe s
def PSs (X:Cx)(st:List Stmt)(t:TS):Prop:=
 ∀(pins:List (Addr×Obj)) (s:Shared) (σ:St) (H:Hp) (D:Ends),Inv X pins σ H s->t D σ H->wpAny (model X.prog X.w) X.A (execs st X.env) (SP X pins D) X.xe s
theorem aB (h:wpAny M A t Q E s)(hQ:∀a s,Q a s->Q' a s):wpAny M A t Q' E s:=wpAny_mono h hQ fun _ _ x=>x
end L2
namespace L2
open PySem PySem.Spec PyProof.Rows
section
variable {X:Cx}
def de (i:Nat):TE:=fun σ H Q=>∃v,σ[i]? = some (some v)/\Q v H
def tC (v:V):TE:=fun _ H Q=>Q v H
theorem nq (hN:X.N[i]? = some x)(hv:mZ X.env.scope x)(hd:(x == ("__debug__" : Str))=false:=by decide)(hcd:(x == ("__classdict__" : Str))=false:=by decide):PE X (.Name x pos) (de i):=by
 intro pins s σ H Q I h;obtain⟨v,e,h⟩:=h;obtain⟨m,hn,hl⟩:=I.loc;obtain⟨u,r,l⟩:=hl i x v hN e hv;have fin:EP X pins σ Q u s:=⟨v,H,I,r,h⟩
 rcases l with ⟨hk,hm⟩ | ⟨hk,c,hc,hcell⟩
 ·exact wpAny_Name (wpAny_loadName_local I.ok.kind hk hn hm fin) hd
 ·rcases hk with hk | hk
  ·exact wpAny_Name (wpAny_loadName_cell I.ok.kind hk hc hcell fin) hd
  ·exact wpAny_Name (wpAny_loadName_free I.ok.kind hk hc hcell fin hcd) hd
theorem wW {i j pos}:PE X (.Constant (.int i) j pos) (tC (.int i)):=fun _ _ _ H _ I h=>wpAny_Constant_int ⟨.int i,H,I.tok _,⟨_,rfl⟩,h⟩
theorem CU {b j pos}:PE X (.Constant (.bool b) j pos) (tC (.bl b)):=fun _ _ _ H _ I h=>Constant_bool ⟨.bl b,H,I,rfl,h⟩
theorem At {j pos}:PE X (.Constant .none j pos) (tC .non):=fun _ _ _ H _ I h=>Constant_none ⟨.non,H,I,rfl,h⟩
theorem EH {x j pos}:PE X (.Constant (.str x) j pos) (tC (.str x)):=fun _ _ _ H _ I h=>Calls.Constant_str ⟨.str x,H,I.tok _,⟨_,rfl⟩,h⟩
def Gl (X:Cx)(x:Str):Prop:=X.env.kindOf x=some .globalImplicit
theorem gr (I:Inv X pins σ H s)(hg:Gl X x)(hm:X.mg x=some u)(h:Q u s)
  (hd:(x == ("__debug__" : Str))=false:=by decide):wpAny (model X.prog X.w) X.A (eval (.Name x pos) X.env) Q E s:=
 Calls.Name_function_global I.ok.kind hg (Calls.loadGlobal_global (by rw[I.ok.glob]; exact I.mod.glob.keeps I.bk) hm h) hd
theorem ie (I:Inv X pins σ H s)(hg:Gl X x)(hm:X.mg x=none)(hv:bootBuiltins x=some u)(h:Q u s)
  (hn:x ≠ "__name__":=by decide)(hd:(x == ("__debug__" : Str))=false:=by decide):wpAny (model X.prog X.w) X.A (eval (.Name x pos) X.env) Q E s:=by
 obtain⟨mb,h1,h2⟩:=I.mod.blt;exact Calls.Name_function_global I.ok.kind hg (Calls.loadGlobal_builtin (by rw[I.ok.glob]; exact I.mod.glob.keeps I.bk) hm (by rw[I.ok.blt]; exact h1.keeps I.bk) ((h2 x hn).trans hv) h) hd
theorem uy (hg:Gl X x)(hm:X.mg x=some u)(r:RelV v u)(hd:(x == ("__debug__" : Str))=false:=by decide):PE X (.Name x pos) (tC v):=
 fun _ _ _ H _ I h=>gr I hg hm ⟨v,H,I,r,h⟩ hd
theorem Ez (hg:Gl X x)(hm:X.mg x=none)(hv:bootBuiltins x=some u)(r:RelV v u)(hn:x ≠ "__name__":=by decide)(hd:(x == ("__debug__" : Str))=false:=by decide):PE X (.Name x pos) (tC v):=
 fun _ _ _ H _ I h=>ie I hg hm hv ⟨v,H,I,r,h⟩ hn hd
variable {a b:Expr}{ta tb:TE}{pos:Pos}
def PC (X:Cx)(op:CmpOp)(a b:Expr)(t:TE):Prop:=
 ∀(pins:List (Addr×Obj)) (s:Shared) (σ:St) (H:Hp) (Q:VK),Inv X pins σ H s->t σ H Q ->
  wpAny (model X.prog X.w) X.A (eval a X.env) (fun v s₁=>wpAny (model X.prog X.w) X.A (eval b X.env) (fun u s₂=>wpAny (model X.prog X.w) X.A (compareOp op v u) (EP X pins σ Q) X.xe s₂) X.xe s₁) X.xe s
theorem ux (b:Expr)(h:op≠.In)(h2:op≠.NotIn):behindInMarks op b=false:=by
 have e1:(op == CmpOp.In)=false:=by cases op <;> first | rfl | exact absurd rfl h
 have e2:(op == CmpOp.NotIn)=false:=by cases op <;> first | rfl | exact absurd rfl h2
 cases b <;> simp[behindInMarks,e1,e2]
def qx (ta:TE):TE:=fun σ H Q=>ta σ H fun x H1=>Q (.bl (decide (x=.non))) H1
def mI (ta:TE):TE:=fun σ H Q=>ta σ H fun x H1=>Q (.bl (!decide (x=.non))) H1
theorem RelV.none_iff (r:RelV x v):(v == Value.none)=decide (x=.non):=by
 cases x with
 | non=>cases r; rfl
 | bl _=>cases r; rfl
 | int _=>obtain⟨t,rfl⟩:=r; rfl
 | str _=>obtain⟨t,rfl⟩:=r; rfl
 | byt _=>obtain⟨t,rfl⟩:=r; rfl
 | flt _=>obtain⟨t,rfl⟩:=r; rfl
 | ref _=>cases r; rfl
 | ty _=>cases r; rfl
theorem vN {j pos'}(ha:PE X a ta):PC X .Is a (.Constant .none j pos') (qx ta):=by
 intro pins s σ H Q I h;refine aB (ha pins s σ H _ I h) fun v s1 hZz=>?_;obtain⟨x,H1,I1,r1,q1⟩:=hZz;exact Constant_none (is_none_gen ⟨.bl _,H1,I1,by rw[r1.none_iff]; rfl,q1⟩)
theorem tS {j pos'}(ha:PE X a ta):PC X .IsNot a (.Constant .none j pos') (mI ta):=by
 intro pins s σ H Q I h;refine aB (ha pins s σ H _ I h) fun v s1 hZz=>?_;obtain⟨x,H1,I1,r1,q1⟩:=hZz;exact Constant_none (isnot_none_gen ⟨.bl _,H1,I1,by rw[r1.none_iff]; rfl,q1⟩)
def tB (t:TE):TT:=fun σ H Q=>t σ H fun x H1=>∃c,x=.bl c/\Q c H1
theorem uW (h:PC X op a b t)(h1:behindInMarks op b=false:=by first | exact ux _ (by decide) (by decide) | rfl):PE X (.Compare a [op] [b] pos) t:=fun pins s σ H Q I hw=>wpAny_Compare1 (h pins s σ H Q I hw) h1
theorem vB (h:PC X op a b t)(h1:behindInMarks op b=false:=by first | exact ux _ (by decide) (by decide) | rfl):PT X (.Compare a [op] [b] pos) (tB t):=by
 intro pins s σ H Q I hw;refine wpAny_isTrue_Compare1 (aB (h pins s σ H _ I hw) fun v s1 h1=>aB h1 fun u s2 h2=>aB h2 fun c s3 hZz=>?_) h1;obtain⟨x,H1,I1,r1,q1⟩:=hZz;obtain⟨d,rfl,q⟩:=q1;cases r1;exact wpAny_truthy_bool ⟨H1,I1,q⟩
theorem Dt (h:PE X e t)(he:∀whole,isTrue e X.env whole=(do let v <-whole; standAt e.pos; holding [v] (truthy v)):=by intro _; rfl):PT X e (tB t):=by
 intro pins s σ H Q I hw;refine isTrue_plain (aB (h pins s σ H _ I hw) fun v s1 hZz=>?_) (he _);obtain⟨x,H1,I1,r1,q1⟩:=hZz;obtain⟨d,rfl,q⟩:=q1;cases r1;exact wpAny_truthy_bool ⟨H1,I1,q⟩
variable {tA tB':TT}{rest:List Expr}
def jU (t u:TT):TT:=fun σ H Q=>t σ H fun c H1=>if c=true then u σ H1 Q else Q false H1
def pG (t u:TT):TT:=fun σ H Q=>t σ H fun c H1=>if c=true then Q true H1 else u σ H1 Q
def jq (t:TT):TT:=fun σ H Q=>t σ H fun c H1=>Q (!c) H1
theorem Cg (ha:PT X a tA):PW X (.BoolOp .And [a] pos) tA:=by
 intro wh pins s σ H Q I h;refine isTrue_and (aB (ha pins s σ H Q I h) fun c s1 e=>?_);cases c with
 | true=>exact isTrue_and_nil e
 | false=>exact e
theorem Ce (ha:PT X a tA):PW X (.BoolOp .Or [a] pos) tA:=by
 intro wh pins s σ H Q I h;refine isTrue_or (aB (ha pins s σ H Q I h) fun c s1 e=>?_);cases c with
 | false=>exact isTrue_or_nil e
 | true=>exact e
theorem B4 (ha:PT X a tA)(hb:PW X (.BoolOp .And (b::rest) pos) tB'):PW X (.BoolOp .And (a::b::rest) pos) (jU tA tB'):=by
 intro wh pins s σ H Q I h;refine isTrue_and (aB (ha pins s σ H _ I h) fun c s1 hZz=>?_);obtain⟨H1,I1,q1⟩:=hZz;cases c with
 | true=>exact hb wh pins s1 σ H1 Q I1 q1
 | false=>exact⟨H1,I1,q1⟩
theorem yZ (ha:PT X a tA)(hb:PW X (.BoolOp .Or (b::rest) pos) tB'):PW X (.BoolOp .Or (a::b::rest) pos) (pG tA tB'):=by
 intro wh pins s σ H Q I h;refine isTrue_or (aB (ha pins s σ H _ I h) fun c s1 hZz=>?_);obtain⟨H1,I1,q1⟩:=hZz;cases c with
 | true=>exact⟨H1,I1,q1⟩
 | false=>exact hb wh pins s1 σ H1 Q I1 q1
theorem DC (ha:PT X a tA):PT X (.UnaryOp .Not a pos) (jq tA):=by
 intro pins s σ H Q I h;exact isTrue_not (ha pins s σ H (fun c H1=>Q (!c) H1) I h)
def fV (ta tb:TE):TE:=fun σ H Q=>ta σ H fun x H1=>∃c,x=.bl c/\if c=true then tb σ H1 Q else Q (.bl false) H1
def i5 (ta tb:TE):TE:=fun σ H Q=>ta σ H fun x H1=>∃c,x=.bl c/\if c=true then Q (.bl true) H1 else tb σ H1 Q
def mj (ta:TE):TE:=fun σ H Q=>ta σ H fun x H1=>∃c,x=.bl c/\Q (.bl (!c)) H1
theorem Ej {op}(h:PE X a t):PE X (.BoolOp op [a] pos) t:=fun pins s σ H Q I hw=>BoolOp_one (h pins s σ H Q I hw)
theorem Co (ha:PE X a ta)(hb:PE X (.BoolOp .And (b::rest) pos) tb):PE X (.BoolOp .And (a::b::rest) pos) (fV ta tb):=by
 intro pins s σ H Q I h;refine BoolOp_and (aB (ha pins s σ H _ I h) fun v s1 hZz=>?_);obtain⟨x,H1,I1,r1,q1⟩:=hZz;obtain⟨c,rfl,q1⟩:=q1;cases r1;refine wpAny_truthy_bool ?_;cases c with
 | true=>exact hb pins s1 σ H1 Q I1 q1
 | false=>exact⟨.bl false,H1,I1,rfl,q1⟩
theorem xg (ha:PE X a ta)(hb:PE X (.BoolOp .Or (b::rest) pos) tb):PE X (.BoolOp .Or (a::b::rest) pos) (i5 ta tb):=by
 intro pins s σ H Q I h;refine BoolOp_or (aB (ha pins s σ H _ I h) fun v s1 hZz=>?_);obtain⟨x,H1,I1,r1,q1⟩:=hZz;obtain⟨c,rfl,q1⟩:=q1;cases r1;refine wpAny_truthy_bool ?_;cases c with
 | false=>exact hb pins s1 σ H1 Q I1 q1
 | true=>exact⟨.bl true,H1,I1,rfl,q1⟩
theorem zO (ha:PE X a ta):PE X (.UnaryOp .Not a pos) (mj ta):=by
 intro pins s σ H Q I h;refine UnaryOp_ (aB (ha pins s σ H _ I h) fun v s1 hZz=>?_);obtain⟨x,H1,I1,r1,q1⟩:=hZz;obtain⟨c,rfl,q1⟩:=q1;cases r1;exact not_of (wpAny_truthy_bool ⟨.bl (!c),H1,I1,rfl,q1⟩)
end
end L2
namespace L2
open PySem PySem.Spec PyProof.Rows
def SqL (K:aG)(H:Hp)(a:Addr)(xs:List V):Prop:=
 Rd H a (.lst xs) \/
  ∃(o:Obj) (its:Array Value) (n:Nat),K.lookup a=some o/\o.cls=.type "list" /\ o.dict=none/\o.data=.seq its n/\its.size<=sizeLine/\Vals xs its.toList
def SqT (K:aG)(H:Hp)(a:Addr)(xs:List V):Prop:=
 Rd H a (.tup xs) \/
  ∃(o:Obj) (its:Array Value) (n:Nat),K.lookup a=some o/\o.cls=.type "tuple" /\ o.dict=none/\o.data=.seq its n/\its.size<=sizeLine/\Vals xs its.toList
noncomputable def pB:Value->Option V
 | .none=>some .non
 | .bool b=>some (.bl b)
 | .int i _=>some (.int i)
 | .str x _=>some (.str x)
 | .bytes b _=>some (.byt b)
 | .float b _=>some (.flt b)
 | .ref a=>some (.ref a)
 | .type n=>some (.ty n)
 | _=>none
theorem RelV.abs (r:RelV x u):pB u=some x:=by
 cases x with
 | non=>cases r; rfl
 | bl _=>cases r; rfl
 | int _=>obtain⟨t,rfl⟩:=r; rfl
 | str _=>obtain⟨t,rfl⟩:=r; rfl
 | byt _=>obtain⟨t,rfl⟩:=r; rfl
 | flt _=>obtain⟨t,rfl⟩:=r; rfl
 | ref _=>cases r; rfl
 | ty _=>cases r; rfl
theorem RelV.inj (r:RelV x u)(q:RelV y u):x=y:=bO (r.abs.symm.trans q.abs)
theorem Vals.inj:∀{xs ys:List V} {us:List Value},Vals xs us->Vals ys us->xs=ys
 | _,_,_,.nil,.nil=>rfl
 | _,_,_,.cons r t,.cons r' t'=>by rw[r.inj r',Vals.inj t t']
section
variable {X:Cx}{pins:List (Addr×Obj)}{σ:St}{H:Hp}{s:Shared}{a:Addr}{xs ys:List V}
theorem SqT.of {K:aG}(h:H a=some (.tup xs)):SqT K H a xs:=.inl (.inl h)
theorem Inv.list (I:Inv X pins σ H s)(h:SqL X.K H a xs):∃its:List Value,Vals xs its/\PlainL s.heap a its.toArray/\xs.length<=sizeLine:=by
 rcases h with h | ⟨o,its,n,hk,hc,hd,hs,hz,r⟩
 ·obtain⟨z,its,n,r,e⟩:=h.ok I.hok;exact⟨its,r,⟨_,n,e,rfl,rfl,rfl⟩,z⟩
 ·refine⟨its.toList,r,⟨o,n,I.kIn a o hk,hc,hd,by simpa using hs⟩,?_⟩;have e:=r.length;simp only[Array.length_toList] at e;omega
theorem Inv.tupN (I:Inv X pins σ H s)(h:SqT X.K H a xs):∃its:List Value,Vals xs its/\TupN s.heap a its.toArray/\xs.length<=sizeLine:=by
 rcases h with h | ⟨o,its,n,hk,hc,hn,hs,hz,r⟩
 ·obtain⟨z,its,r,p⟩:=h.ok I.hok;exact⟨its,r,p,z⟩
 ·refine⟨its.toList,r,⟨o,I.kIn a o hk,hc,⟨n,by simpa using hs⟩,hn⟩,?_⟩;have e:=r.length;simp only[Array.length_toList] at e;omega
theorem Inv.tuple (I:Inv X pins σ H s)(h:SqT X.K H a xs):∃its:List Value,Vals xs its/\IsTup s.heap a its.toArray/\xs.length<=sizeLine:=
 let ⟨its,r,p,z⟩:=I.tupN h
 ⟨its,r,p.tup,z⟩
theorem Inv.list_inj (I:Inv X pins σ H s)(h:SqL X.K H a xs)(h':SqL X.K H a ys):xs=ys:=by
 obtain⟨its,r,⟨o,n,e,_,_,d⟩,_⟩:=I.list h;obtain⟨its',r',⟨o',n',e',_,_,d'⟩,_⟩:=I.list h';rw[e] at e'; cases e';rw[d] at d';injection d' with d1 _;have:its=its':=by simpa using congrArg Array.toList d1
 subst this;exact r.inj r'
theorem Inv.tuple_inj (I:Inv X pins σ H s)(h:SqT X.K H a xs)(h':SqT X.K H a ys):xs=ys:=by
 obtain⟨its,r,⟨o,e,_,n,d⟩,_⟩:=I.tuple h;obtain⟨its',r',⟨o',e',_,n',d'⟩,_⟩:=I.tuple h';rw[e] at e'; cases e';rw[d] at d';injection d' with d1 _;have:its=its':=by simpa using congrArg Array.toList d1
 subst this;exact r.inj r'
end
noncomputable abbrev Cx.wish (X:Cx)(E:Value->Shared->Prop):Cx:={ X with xe:=E }
noncomputable abbrev Cx.nox (X:Cx):Cx:=X.wish fun _ _=>False
theorem Cx.Ok.wish {X:Cx}(ok:X.Ok)(E:Value->Shared->Prop):(X.wish E).Ok:=
 ⟨ok.mod,ok.kind,ok.glob,ok.blt,ok.above,ok.inj,ok.has,ok.cab,ok.hd,ok.frames,ok.stk,ok.exf,ok.bs,ok.bsz,ok.noex,ok.exfs,ok.funs,ok.frf⟩
theorem Cx.Ok.unwish {X:Cx}{E:Value->Shared->Prop}(ok:(X.wish E).Ok):X.Ok:=
 ⟨ok.mod,ok.kind,ok.glob,ok.blt,ok.above,ok.inj,ok.has,ok.cab,ok.hd,ok.frames,ok.stk,ok.exf,ok.bs,ok.bsz,ok.noex,ok.exfs,ok.funs,ok.frf⟩
section
variable {X:Cx}{pins:List (Addr×Obj)}{σ:St}{H:Hp}{s:Shared}{E:Value->Shared->Prop}
theorem Inv.wish (I:Inv X pins σ H s)(E:Value->Shared->Prop):Inv (X.wish E) pins σ H s:=⟨I.ok.wish E,I.os,I.bare,I.base,I.loc,I.cell,I.free,I.freeC,I.pin,I.hok,I.len⟩
theorem Inv.unwish (I:Inv (X.wish E) pins σ H s):Inv X pins σ H s:=⟨I.ok.unwish,I.os,I.bare,I.base,I.loc,I.cell,I.free,I.freeC,I.pin,I.hok,I.len⟩
theorem PE.nox (h:PE X.nox e t):PE X e t:=fun pins s σ H Q I hw=>
 wpAny_mono (h pins s σ H Q (I.wish _) hw) (fun _ _ ⟨v,H',I',r,q⟩=>⟨v,H',I'.unwish,r,q⟩) fun _ _ z=>False.elim z
end
section
variable {X:Cx}{st:Stmt}{rest:List Stmt}{t u:TS}{e:Expr}{te:TE}{pos:Pos}
def iJ:TS:=fun D σ H=>D.nx σ H
def qy (t u:TS):TS:=fun D σ H=>t { D with nx:=u D } σ H
theorem zU:PSs X [] iJ:=fun _ _ σ H _ I h=>wpAny_execs_nil ⟨σ,H,I,h⟩
theorem yd (h1:PS X st t)(h2:PSs X rest u):PSs X (st::rest) (qy t u):=by
 intro pins s σ H D I h;refine wpAny_execs_cons (aB (h1 pins s σ H { D with nx:=u D } I h) fun f s1 q=>?_);cases f with
 | next=>
  obtain⟨σ',H',I',q⟩:=q;exact h2 pins s1 σ' H' D I' q
 | ret v=>exact q
 | brk=>exact q
 | cont=>exact q
theorem w6 (h1:PS X st t):PSs X [st] t:=by
 intro pins s σ H D I h;refine wpAny_execs_cons (aB (h1 pins s σ H D I h) fun f s1 q=>?_);cases f with
 | next=>exact wpAny_execs_nil q
 | ret v=>exact q
 | brk=>exact q
 | cont=>exact q
def i4:TS:=fun D σ H=>D.bk σ H
def lG:TS:=fun D σ H=>D.ct σ H
theorem wj:PS X (.Pass pos) iJ:=fun _ _ σ H _ I h=>wpAny_Pass ⟨σ,H,I,h⟩
theorem xa:PS X (.Break pos) i4:=fun _ _ σ H _ I h=>wpAny_Break ⟨σ,H,I,h⟩
theorem A4:PS X (.Continue pos) lG:=fun _ _ σ H _ I h=>wpAny_Continue ⟨σ,H,I,h⟩
theorem Inv.quiet (I:Inv X pins σ H s):interactive X.env=false:=by simp[interactive,I.ok.kind]
def cW (te:TE):TS:=fun D σ H=>te σ H fun _ H1=>D.nx σ H1
theorem mX (he:PE X e te)(hs:swapsWith e none pos.line X.env=pure false:=by rfl):PS X (.Expr e pos) (cW te):=by
 intro pins s σ H D I h;exact wpAny_Expr_any (aB (he pins s σ H _ I h) fun v s1 ⟨x,H1,I1,r1,q1⟩=>⟨σ,H1,I1,q1⟩) I.quiet hs
def oB (te:TE):TS:=fun D σ H=>te σ H D.rt
theorem uU (he:PE X e te):PS X (.Return (some e) pos) (oB te):=by
 intro pins s σ H D I h;exact wpAny_Return_some (aB (he pins s σ H _ I h) fun v s1 ⟨x,H1,I1,r1,q1⟩=>⟨x,σ,H1,I1,r1,q1⟩)
def mH:TS:=fun D _ H=>D.rt .non H
theorem Bq:PS X (.Return none pos) mH:=fun _ _ σ H _ I h=>wpAny_Return_none ⟨.non,σ,H,I,rfl,h⟩
def jF (c:TT)(t u:TS):TS:=fun D σ H=>c σ H fun b H1=>if b=true then t D σ H1 else u D σ H1
theorem Au (hc:PT X c tc)(ha:PSs X a t)(hb:PSs X b u):PS X (.If c a b pos) (jF tc t u):=by
 intro pins s σ H D I h;refine wpAny_If (aB (hc pins s σ H _ I h) fun d s1 hZz=>?_);obtain⟨H1,I1,q1⟩:=hZz;cases d with
 | true=>exact ha pins s1 σ H1 D I1 q1
 | false=>exact hb pins s1 σ H1 D I1 q1
end
abbrev TG:=V->St->Hp->(St->Hp->Prop)->Prop
abbrev kU:=List V->St->Hp->(St->Hp->Prop)->Prop
def PG (X:Cx)(target:Expr)(t:TG):Prop:=
 ∀(pins:List (Addr×Obj)) (s:Shared) (σ:St) (H:Hp) (v:V) (u:Value) (Q:St->Hp->Prop),Inv X pins σ H s->RelV v u->t v σ H Q ->
  wpAny (model X.prog X.w) X.A (assign target X.env u) (fun _ s'=>∃σ' H',Inv X pins σ' H' s'/\Q σ' H') X.xe s
def lV (X:Cx)(ts:List Expr)(t:kU):Prop:=
 ∀(pins:List (Addr×Obj)) (s:Shared) (σ:St) (H:Hp) (vs:List V) (us:List Value) (Q:St->Hp->Prop),Inv X pins σ H s->Vals vs us->t vs σ H Q ->
  wpAny (model X.prog X.w) X.A (assignInOrder ((assignEach ts X.env).map (·.2)) us) (fun _ s'=>∃σ' H',Inv X pins σ' H' s'/\Q σ' H') X.xe s
noncomputable abbrev qG:=V->V->V->Hp->(Hp->Prop)->Prop
def o6 (X:Cx)(t:qG):Prop:=
 ∀(pins:List (Addr×Obj)) (s:Shared) (σ:St) (H:Hp) (o i v:V) (ov iv u:Value) (Q:Hp->Prop),Inv X pins σ H s->RelV o ov->RelV i iv->RelV v u->t o i v H Q ->
  wpAny (model X.prog X.w) X.A (setItem ov iv u) (fun _ s'=>∃H',Inv X pins σ H' s'/\Q H') X.xe s
section
variable {X:Cx}{pos:Pos}
def da (i:Nat):TG:=fun v σ H Q=>Q (σ.set i (some v)) H
theorem oW (hN:X.N.Nodup)(hi:X.N[i]? = some x)(hx:Loc X.env.scope x)(hf:X.fn x=true\/X.env.scope.names.lookup x=some .local:=by first | exact .inl rfl | exact .inr rfl | assumption):PG X (.Name x pos) (da i):=by
 intro pins s σ H v u Q I r h;exact wpAny_assign_Name (oF I hN hi hx r (fun s' I'=>⟨_,H,I',h⟩) hf)
def l6:kU:=fun vs σ H Q=>vs=[]/\Q σ H
def iQ (t:TG)(u:kU):kU:=fun vs σ H Q=>∃v r,vs=v::r/\t v σ H fun σ' H'=>u r σ' H' Q
theorem xm:lV X [] l6:=by
 intro pins s σ H vs us Q I r h;obtain⟨e,h⟩:=h;subst e;cases r;exact assignInOrder_nil ⟨σ,H,I,h⟩
theorem xE (h1:PG X e t)(h2:lV X es u)
  (hs:(assignEach (e::es) X.env).map (·.2)=assign e X.env::(assignEach es X.env).map (·.2):=by rfl):lV X (e::es) (iQ t u):=by
 intro pins s σ H vs us Q I r h;obtain⟨v,vr,e1,h⟩:=h;subst e1;cases r with
 | cons r rr=>
  rw[hs];refine assignInOrder_cons (aB (h1 pins s σ H _ _ _ I r h) fun _ s1 hZz=>?_);obtain⟨σ1,H1,I1,q1⟩:=hZz;exact h2 pins s1 σ1 H1 _ _ Q I1 rr q1
def lA (K:aG)(n:Nat)(t:kU):TG:=fun v σ H Q=>∃a xs,v=.ref a/\SqT K H a xs/\xs.length=n/\t xs σ H Q
theorem Dj (hc:X.calm=true)(h:lV X es t)
  (hn:(assignEach es X.env).length=n:=by rfl)(hst:(assignEach es X.env).findIdx? (·.1)=none:=by rfl):PG X (.Tuple es k pos) (lA X.K n t):=by
 intro pins s σ H v u Q I r hw;obtain⟨a,xs,e1,hq,hl,hw⟩:=hw;subst e1;cases r;obtain⟨its,rv,ht,hz⟩:=I.tuple hq;refine assign_Tuple_tuple (I.ok.hd hc) ht (by simp[hn,<-hl,rv.length]) hst fun h' hx=>?_;have I1:Inv X pins σ H { s with heap:=h' }:=I.kept (t':=s.toks) fun b o e=>hx b o (cH (bn e)) e;exact h pins _ σ H xs _ Q I1 (by simpa using rv) hw
def fR (te:TE)(g:TG):TS:=fun D σ H=>te σ H fun x H1=>g x σ H1 D.nx
theorem vp (he:PE X e te)(hg:PG X tg g)(hs:swapsWithSole [tg] e pos.line X.env=pure false:=by rfl)(hw:swappedStores [tg] e X.env=pure none:=by rfl)
  (h1:(assignEach [tg] X.env).map (·.2)=[assign tg X.env]:=by rfl):PS X (.Assign [tg] e pos) (fR te g):=by
 intro pins s σ H D I h;refine wpAny_Assign_stores (aB (he pins s σ H _ I h) fun v s1 hZz=>?_) hs hw;obtain⟨x,H1,I1,r1,q1⟩:=hZz;rw[h1];exact aB (hg pins s1 σ H1 x v _ I1 r1 q1) fun _ s2 q=>q
theorem qz (hN:X.N.Nodup)(hi:X.N[i]? = some x)(hx:Loc X.env.scope x)(he:PE X e te)(hs:swapsWith e (some (.Name x pos')) pos.line X.env=pure false:=by rfl)(hf:X.fn x=true\/X.env.scope.names.lookup x=some .local:=by first | exact .inl rfl | exact .inr rfl | assumption) :
  PS X (.Assign [.Name x pos'] e pos) (fR te (da i)):=by
 intro pins s σ H D I h;refine wpAny_Assign_Name (aB (he pins s σ H _ I h) fun v s1 hZz=>?_) hs;obtain⟨y,H1,I1,r1,q1⟩:=hZz;exact oF I1 hN hi hx r1 (fun s2 I2=>⟨_,H1,I2,q1⟩) hf
end
section
variable {X:Cx}{pos:Pos}
end
structure It where
 go:Nat->Hp->Prop
 yld:Nat->Hp->V->Hp->Prop
 stop:Nat->Hp->Prop
def ck (X:Cx)(pins:List (Addr×Obj))(H:Hp)(b:Addr):Prop:=
 H b=none/\b≠X.env.locals/\b∉X.fs/\(b∈X.ex\/X.s₀.heap.objs.size<=b)/\(∀x c,X.env.cells.lookup x=some c->c≠b)/\∀p∈X.pn++pins,p.1≠b
theorem Inv.fpOk (I:Inv X pins σ H s)(hb:s.heap.objs.size<=b)(hn:H' b=none):ck X pins H' b:=by
 refine⟨hn,Nat.ne_of_gt (dR I.lt hb),I.nofs hb,.inr (br I.sz hb),fun x c e z=>?_,fun p hp z=>?_⟩
 ·obtain⟨v,q⟩:=I.cell x c e;exact absurd (dR q.lt (by rw[z]; exact hb)) (Nat.lt_irrefl _)
 ·exact absurd (dR (bn (I.pin p hp).1) (by rw[z]; exact hb)) (Nat.lt_irrefl _)
structure Turn (P:Program)(w:World)(K:aG)(tg:Expr)(J:It)(fp:List Addr)(it:Addr)(tn:Nat->Heap->Prop):Prop where
 mem:it∈fp
 obj:∀i h,tn i h->∀b∈fp,∃o,h.get? b=some o/\∀v,o.data≠.cell v
 keep:∀i h h',tn i h->(∀b∈fp,∀o,h.get? b=some o->h'.get? b=some o)->tn i h'
 item:∀(X:Cx),X.prog=P->X.w=w->X.K=K->X.calm=true->∀(i:Nat) (pins:List (Addr×Obj)) (s:Shared) (σ:St) (H:Hp) (E:Value->Shared->Prop),Inv X pins σ H s->(∀b∈fp,ck X pins H b)->tn i s.heap->J.go i H ->
  wpAny (model P w) X.A (pyNext (.ref it)) (fun r s1=>∃u,r=some u /\
   wpAny (model P w) X.A (letOwnedTupleGo tg (.ref it) u) (fun _ s2=>∃x H',Inv X pins σ H' s2/\RelV x u/\J.yld i H x H'/\tn (i+1) s2.heap/\∀b∈fp,H' b=none) E s1) E s
 done:∀(X:Cx),X.prog=P->X.w=w->X.K=K->X.calm=true->∀(i:Nat) (pins:List (Addr×Obj)) (s:Shared) (σ:St) (H:Hp) (E:Value->Shared->Prop),Inv X pins σ H s->(∀b∈fp,ck X pins H b)->tn i s.heap->J.stop i H ->
  wpAny (model P w) X.A (pyNext (.ref it)) (fun r s1=>r=none/\Inv X pins σ H s1) E s
 self:∀(A:Around) (i:Nat) (s:Shared) (Q:Value->Shared->Prop) (E:Value->Shared->Prop),tn i s.heap->Q (.ref it) s->wpAny (model P w) A (pyIter (.ref it)) Q E s
abbrev TI:=St->Hp->(It->Hp->Prop)->Prop
def uG (X:Cx)(pins:List (Addr×Obj))(σ:St)(tg:Expr)(R:It->Hp->Prop)(itv:Value)(s2:Shared):Prop:=
 ∃(it:Addr) (fp:List Addr) (tn:Nat->Heap->Prop) (J:It) (H':Hp),itv=.ref it/\Inv X pins σ H' s2/\Turn X.prog X.w X.K tg J fp it tn/\tn 0 s2.heap/\(∀b∈fp,ck X pins H' b)/\R J H'
def PI (X:Cx)(tg iter:Expr)(wi:TI):Prop:=
 ∀(pins:List (Addr×Obj)) (s:Shared) (σ:St) (H:Hp) (R:It->Hp->Prop),Inv X pins σ H s->wi σ H R ->
  wpAny (model X.prog X.w) X.A (eval iter X.env) (fun v s1=>wpAny (model X.prog X.w) X.A (pyIter v) (uG X pins σ tg R) X.xe s1) X.xe s
theorem oI (ho:s.heap.get? it=some o)(hc:o.cls=.type n)(hd:o.data=.fields vs)
    (hn:["enumerate", "zip", "dict_itemiterator", "dict_reverseitemiterator", "odict_iterator", "itertools.zip_longest", "itertools.pairwise"].contains n=false)(hQ:Q () s):wpAny M A (letOwnedTupleGo tg (.ref it) u) Q E s:=by
  unfold letOwnedTupleGo;cases tg <;> first
    | exact ay hQ
    | (cases u <;> first
        | exact ay hQ
        | (refine af (wpAny_load ho ?_)
           rw[hc,hd];show wpAny M A (if (["enumerate", "zip", "dict_itemiterator", "dict_reverseitemiterator", "odict_iterator", "itertools.zip_longest", "itertools.pairwise"].contains n&&vs[0]? == some (rawInt _))=true then _ else _) Q E s;rw[if_neg (by intro h; rw[hn,Bool.false_and] at h; cases h)];exact ay hQ))
noncomputable def pj (K:aG)(a:Addr):It:=
 ⟨fun i H=>∃xs x,SqL K H a xs/\xs[i]? = some x,fun i H x H'=>H'=H/\∀xs,SqL K H a xs->xs[i]? = some x,fun i H=>∃xs,SqL K H a xs/\xs.length<=i⟩
noncomputable def qe (K:aG)(a:Addr):It:=
 ⟨fun i H=>∃xs x,SqT K H a xs/\xs[i]? = some x,fun i H x H'=>H'=H/\∀xs,SqT K H a xs->xs[i]? = some x,fun i H=>∃xs,SqT K H a xs/\xs.length<=i⟩
noncomputable def mO (lo:Int)(n:Nat):It:=⟨fun i _=>i<n,fun i H x H'=>H'=H/\x=.int (lo+i),fun i _=>n<=i⟩
theorem D7 {P:Program}{w:World}{K:aG}{tg:Expr}(a it:Addr):Turn P w K tg (pj K a) [it] it (fun i h=>h.IsListIter it a i) where
 mem:=by simp
 obj:=fun i h st b hb=>by
  have e:b=it:=by simpa using hb
  subst e;obtain⟨o,e,c,d⟩:=st;exact⟨o,e,fun v z=>by rw[d] at z; cases z⟩
 keep:=fun i h h' st k=>st.at fun o e=>k it (by simp) o e
 item:=by
  intro X hP hw hK hc i pins s σ H E I hf st hg;subst hP hw hK;obtain⟨xs,x,hq,hx⟩:=hg;obtain⟨its,rv,p,hz⟩:=I.list hq;obtain⟨u,hu,ru⟩:=rv.get hx;obtain⟨f0,f1,f2,f3,f4,f5⟩:=hf it (by simp);refine wpAny_pyNext_list_item st p.isList (x:=u) (by simpa using hu) fun h' st' sb=>?_;have I1:Inv X pins σ H { s with heap:=h' }:=I.turned (t':=s.toks) (fun b o hb e=>(sb.2 b hb).trans e) f0 f1 f3 f4 f5;obtain⟨o,e,c,d⟩:=id st';exact⟨u,rfl,oI (s:={ s with heap:=h' }) e c d (by decide) ⟨x,H,I1,ru,⟨rfl,fun ys hy=>by rw[I.list_inj hy hq]; exact hx⟩,st',fun b hb=>(hf b hb).1⟩⟩
 done:=by
  intro X hP hw hK hc i pins s σ H E I hf st hg;subst hP hw hK;obtain⟨xs,hq,hx⟩:=hg;obtain⟨its,rv,p,hz⟩:=I.list hq;obtain⟨f0,f1,f2,f3,f4,f5⟩:=hf it (by simp);have hl:=rv.length;exact wpAny_pyNext_list_end (I.ok.hd hc) st p.isList (by simp; omega) fun h' eb=>⟨rfl,I.turned (t':=s.toks) (fun b o hb e=>eb b o hb e) f0 f1 f3 f4 f5⟩
 self:=fun _ _ _ _ _ st h=>wpAny_pyIter_listiter st h
theorem As {P:Program}{w:World}{K:aG}{tg:Expr}(a it:Addr):Turn P w K tg (qe K a) [it] it (fun i h=>h.IsTupleIter it a i) where
 mem:=by simp
 obj:=fun i h st b hb=>by
  have e:b=it:=by simpa using hb
  subst e;obtain⟨o,e,c,d⟩:=st;exact⟨o,e,fun v z=>by rw[d] at z; cases z⟩
 keep:=fun i h h' st k=>st.at fun o e=>k it (by simp) o e
 item:=by
  intro X hP hw hK hc i pins s σ H E I hf st hg;subst hP hw hK;obtain⟨xs,x,hq,hx⟩:=hg;obtain⟨its,rv,p,hz⟩:=I.tuple hq;obtain⟨u,hu,ru⟩:=rv.get hx;obtain⟨f0,f1,f2,f3,f4,f5⟩:=hf it (by simp);refine wpAny_pyNext_tuple_item st (show s.heap.IsTuple a its.toArray from p) (x:=u) (by simpa using hu) fun h' st' sb=>?_;have I1:Inv X pins σ H { s with heap:=h' }:=I.turned (t':=s.toks) (fun b o hb e=>(sb.2 b hb).trans e) f0 f1 f3 f4 f5;obtain⟨o,e,c,d⟩:=id st';exact⟨u,rfl,oI (s:={ s with heap:=h' }) e c d (by decide) ⟨x,H,I1,ru,⟨rfl,fun ys hy=>by rw[I.tuple_inj hy hq]; exact hx⟩,st',fun b hb=>(hf b hb).1⟩⟩
 done:=by
  intro X hP hw hK hc i pins s σ H E I hf st hg;subst hP hw hK;obtain⟨xs,hq,hx⟩:=hg;obtain⟨its,rv,p,hz⟩:=I.tuple hq;obtain⟨f0,f1,f2,f3,f4,f5⟩:=hf it (by simp);have hl:=rv.length;exact wpAny_pyNext_tuple_end (I.ok.hd hc) st (show s.heap.IsTuple a its.toArray from p) (by simp; omega) fun h' eb=>⟨rfl,I.turned (t':=s.toks) (fun b o hb e=>eb b o hb e) f0 f1 f3 f4 f5⟩
 self:=fun _ _ _ _ _ st h=>wpAny_pyIter_tupleiter st h
theorem Ep {P:Program}{w:World}{K:aG}{tg:Expr}(it:Addr)(lo:Int)(n:Nat):Turn P w K tg (mO lo n) [it] it (fun i h=>IsRangeIter h it (lo+(i:Nat) * 1) ((n:Int) - (i:Nat)) 1) where
 mem:=by simp
 obj:=fun i h st b hb=>by
  have e:b=it:=by simpa using hb
  subst e;exact⟨_,st,fun v z=>by
   have z':Data.fields _=Data.cell v:=z;cases z'⟩
 keep:=fun i h h' st k=>k it (by simp) _ st
 item:=by
  intro X hP hw hK hc i pins s σ H E I hf st hg;subst hP hw hK;obtain⟨f0,f1,f2,f3,f4,f5⟩:=hf it (by simp);have W:=Walks.range (prog:=X.prog) (w:=X.w) (I.ok.hd hc) it lo 1 n;refine W.item i s _ _ hg st fun v h' tk hv st' kk=>?_;obtain⟨t,rfl⟩:=hv;have I1:Inv X pins σ H { s with heap:=h',toks:=tk }:=I.turned (fun b o hb e=>kk b o (by simpa using hb) e) f0 f1 f3 f4 f5;refine⟨_,rfl,oI (s:={ s with heap:=h',toks:=tk }) (n := "range_iterator") st' rfl rfl (by decide) ⟨.int (lo+i),H,I1,⟨t,?_⟩,⟨rfl,rfl⟩,st',fun b hb=>(hf b hb).1⟩⟩;rw[Int.mul_one]
 done:=by
  intro X hP hw hK hc i pins s σ H E I hf st hg;subst hP hw hK;obtain⟨f0,f1,f2,f3,f4,f5⟩:=hf it (by simp);exact wpAny_pyNext_range_end (I.ok.hd hc) st (by have:n<=i:=hg; omega) fun h' eb=>⟨rfl,I.turned (t':=s.toks) (fun b o hb e=>eb b o hb e) f0 f1 f3 f4 f5⟩
 self:=fun _ _ _ _ _ st h=>wpAny_pyIter_rangeiter st h
end L2
namespace L2
open PySem PySem.Spec PyProof.Rows
section
variable {X:Cx}{tg:Expr}
def ll (K:aG)(tl:TE):TI:=fun σ H R=>tl σ H fun x H1=>∃a,x=.ref a/\(∃xs,SqL K H1 a xs)/\R (pj K a) H1
def qB (K:aG)(tl:TE):TI:=fun σ H R=>tl σ H fun x H1=>∃a,x=.ref a/\(∃xs,SqT K H1 a xs)/\R (qe K a) H1
theorem vT {l:Expr}{tl:TE}(hl:PE X l tl):PI X tg l (ll X.K tl):=by
 intro pins s σ H R I h;refine aB (hl pins s σ H _ I h) fun v s1 hZz=>?_;obtain⟨x,H1,I1,r1,q1⟩:=hZz;obtain⟨a,e,⟨xs,hq⟩,q⟩:=q1;subst e;cases r1;obtain⟨its,rv,p,hz⟩:=I1.list hq;refine wpAny_pyIter_list p.isList ?_;refine⟨s1.heap.objs.size,[s1.heap.objs.size],_,_,H1,rfl,I1.kept (t':=s1.toks) fun b o e=>bz _ e,D7 a _,⟨_,cR _ rfl,rfl,rfl⟩,fun b hb=>?_,q⟩;have e:b=s1.heap.objs.size:=by simpa using hb
 subst e;exact I1.fpOk (aX _) (I1.hok.fresh (aX _))
theorem zh {l:Expr}{tl:TE}(hl:PE X l tl):PI X tg l (qB X.K tl):=by
 intro pins s σ H R I h;refine aB (hl pins s σ H _ I h) fun v s1 hZz=>?_;obtain⟨x,H1,I1,r1,q1⟩:=hZz;obtain⟨a,e,⟨xs,hq⟩,q⟩:=q1;subst e;cases r1;obtain⟨its,rv,p,hz⟩:=I1.tuple hq;refine wpAny_pyIter_tuple (show s1.heap.IsTuple a its.toArray from p) ?_;refine⟨s1.heap.objs.size,[s1.heap.objs.size],_,_,H1,rfl,I1.kept (t':=s1.toks) fun b o e=>bz _ e,As a _,⟨_,cR _ rfl,rfl,rfl⟩,fun b hb=>?_,q⟩;have e:b=s1.heap.objs.size:=by simpa using hb
 subst e;exact I1.fpOk (aX _) (I1.hok.fresh (aX _))
theorem zZ {pins:List (Addr×Obj)}{σ:St}{H:Hp}{s:Shared}{R:It->Hp->Prop}{E:Value->Shared->Prop}{lo hi:Int}{t u v:Tok}{tk:Nat}(I:Inv X pins σ H s)(h1 : -(2 ^ 62)<=lo)(h2:lo<2 ^ 62)(h3 : -(2 ^ 62)<=hi)(h4:hi<2 ^ 62)
  (q:R (mO lo (hi - lo).toNat) H):wpAny (model X.prog X.w) X.A (pyIter (.ref s.heap.objs.size)) (uG X pins σ tg R) E { s with heap:=s.heap.push { cls:=.type "range",data:=.fields #[.int lo t,.int hi u,.int 1 v] },toks:=tk }:=by
 refine wpAny_pyIter_range (IsRange.new ..) (small_one h1 h2 h3 h4) ?_;have I1:Inv X pins σ H { s with heap:=s.heap.push { cls:=.type "range",data:=.fields #[.int lo t,.int hi u,.int 1 v] },toks:=tk }:=I.kept fun b o e=>bz _ e;refine⟨(s.heap.push { cls:=.type "range",data:=.fields #[.int lo t,.int hi u,.int 1 v] }).objs.size,[(s.heap.push { cls:=.type "range",data:=.fields #[.int lo t,.int hi u,.int 1 v] }).objs.size],_,_,H,rfl,
  I1.kept (t':=tk) fun b o e=>bz _ e,Ep _ lo (hi - lo).toNat,?_,fun b hb=>?_,q⟩
 ·have e1:lo+((0:Nat):Int) * 1=lo:=by simp
  have e2:(((hi - lo).toNat:Nat):Int) - ((0:Nat):Int)=Builtin.Range.rangeSize lo hi 1:=by rw[rangeSize_one]; split <;> omega
  show IsRangeIter _ _ (lo+((0:Nat):Int) * 1) ((((hi - lo).toNat:Nat):Int) - ((0:Nat):Int)) 1;rw[e1,e2];exact cR _ rfl
 ·have e:b=(s.heap.push { cls:=.type "range",data:=.fields #[.int lo t,.int hi u,.int 1 v] }).objs.size:=by simpa using hb
  subst e;exact I1.fpOk (aX _) (I1.hok.fresh (aX _))
def lh (ta:TA):TI:=fun σ H R=>ta σ H fun vs H1=>∃j:Int,vs=[.int j] /\ -(2 ^ 62)<=j/\j<2 ^ 62/\R (mO 0 j.toNat) H1
theorem yo {a:Expr}{ta:TA}{p pos:Pos}(hg:Gl X "range")(hm:X.mg "range" = none)(ha:PA X [a] ta)(hs:starEach [a] X.env=[(false,eval a X.env)]:=by rfl):PI X tg (.Call (.Name "range" p) [a] [] pos) (lh ta):=by
 intro pins s σ H R I h;refine Call_ (ie I hg hm boot_range (PyProof.Rows.callWith_type1 (aB (ha pos pins s σ H _ I h) fun us s1 hZz=>?_) hs rfl));obtain⟨vs,H1,I1,r1,q1⟩:=hZz;obtain⟨j,e,q1,q2,q⟩:=q1;subst e;cases r1 with
 | cons r rr=>
  cases rr;obtain⟨t,rfl⟩:=r;exact call_range_1 (zZ I1 (by omega) (by omega) q1 q2 (by simpa using q))
def jC (wi:TI)(g:TG)(tb:TS):TS:=fun D σ H=>wi σ H fun J H1=>∃W:Nat->Nat->St->Hp->Prop,(∃m,W 0 m σ H1)/\∀i m σ H,W i m σ H ->
 (J.stop i H/\D.nx σ H)\/(J.go i H/\∃N:St->Hp->Prop,(∀σ' H',N σ' H'->∃m',m'<m/\W (i+1) m' σ' H')/\∀x H',J.yld i H x H'->g x σ H' fun σ2 H2=>tb { D with nx:=N,ct:=N,bk:=D.nx } σ2 H2)
noncomputable def cJ (fp:List Addr)(h:Heap):List (Addr×Obj):=fp.filterMap fun b=>(h.get? b).map fun o=>(b,o)
theorem kq (hb:b∈fp)(e:h.get? b=some o):(b,o)∈cJ fp h:=List.mem_filterMap.mpr ⟨b,hb,by rw[e]; rfl⟩
theorem Di (hp:p∈cJ fp h):p.1∈fp/\h.get? p.1=some p.2:=by
 obtain⟨b,hb,e⟩:=List.mem_filterMap.mp hp;cases q:h.get? b with
 | none=>rw[q] at e; cases e
 | some o=>
  rw[q] at e;have e':(b,o)=p:=bO e;subst e';exact⟨hb,q⟩
theorem Inv.pinned (I:Inv X pins σ H s)(hf:∀b∈fp,ck X pins H b)(ho:∀b∈fp,∃o,s.heap.get? b=some o/\∀v,o.data≠.cell v):Inv X (pins++cJ fp s.heap) σ H s:=
 I.pins_of fun p hp=>(dk hp).elim (fun z=>I.pin p (bR _ z)) fun z=>by
  obtain⟨hb,e⟩:=Di z;obtain⟨f0,f1,f2,_⟩:=hf p.1 hb;obtain⟨o,e',d⟩:=ho p.1 hb;rw[e] at e'; cases e';exact⟨e,f0,f1,f2,d⟩
theorem Inv.unpinned (I:Inv X (pins++pl) σ H s):Inv X pins σ H s:=I.pins_of fun p hp=>I.pin p (bR _ (dP _ hp))
theorem z9 (hp:PassesOwn (model X.prog X.w) X.A X.env X.xe)(hc:X.calm=true)(hi:PI X tg iter wi)(hg:PG X tg g)(hb:PSs X body tb)
  (hs:∀x,foldedSetIterable iter X.env x=pure x:=by intro _; rfl):PS X (.For tg iter body [] pos) (jC wi g tb):=by
 intro pins s σ H D I h;refine wpAny_For (aB (hi pins s σ H _ I h) fun v s1 h1=>aB h1 fun itv s2 h2=>?_) hs;obtain⟨it,fp,tn,J,H2,e,I2,T,st2,f2,W,⟨m0,w0⟩,turn⟩:=h2;subst e;have stat:∀{H':Hp},(∀b∈fp,H' b=none)->∀b∈fp,ck X pins H' b:=fun hn b hb=>⟨hn b hb,(f2 b hb).2⟩
 refine codeAny_forLoop_any (fun n s'=>∃i σ' H',Inv X pins σ' H' s'/\tn i s'.heap/\(∀b∈fp,H' b=none)/\W i n σ' H') ?_ m0 ⟨0,σ,H2,I2,st2,fun b hb=>(f2 b hb).1,w0⟩;rintro n s3 ⟨i,σ3,H3,I3,st3,fr3,w3⟩;rcases turn i n σ3 H3 w3 with ⟨stop,qn⟩ | ⟨go,N,hN,step⟩
 ·refine wpAny_passesOwn hp (aB (T.done X rfl rfl rfl hc i pins s3 σ3 H3 X.xe I3 (stat fr3) st3 stop) fun r s4 hZz=>?_);obtain⟨hr,I4⟩:=hZz;subst hr;exact wpAny_execs_nil ⟨σ3,H3,I4,qn⟩
 ·refine wpAny_passesOwn hp (aB (T.item X rfl rfl rfl hc i pins s3 σ3 H3 X.xe I3 (stat fr3) st3 go) fun r s4 hZz=>?_);obtain⟨u,hr,h4⟩:=hZz;subst hr;refine wpAny_passesOwn hp (aB h4 fun _ s5 hZz=>?_);obtain⟨x,H5,I5,r5,y5,st5,fr5⟩:=hZz;have I5':=I5.pinned (stat fr5) (T.obj _ _ st5);refine wpAny_passesOwn hp (aB (hg _ s5 σ3 H5 x u _ I5' r5 (step x H5 y5)) fun _ s6 hZz=>?_);obtain⟨σ6,H6,I6,q6⟩:=hZz;refine wpAny_passesOwn hp (aB (hb _ s6 σ6 H6 _ I6 q6) fun f s7 q7=>?_);have again:∀{σ7:St} {H7:Hp},Inv X (pins++cJ fp s5.heap) σ7 H7 s7->N σ7 H7->∃m,m<n/\∃i σ' H',Inv X pins σ' H' s7/\tn i s7.heap/\(∀b∈fp,H' b=none)/\W i m σ' H':=fun {σ7 H7} I7 n7=>by
   obtain⟨m',hm,w7⟩:=hN σ7 H7 n7;refine⟨m',hm,i+1,σ7,H7,I7.unpinned,T.keep _ _ _ st5 fun b hb o e=>(I7.pin (b,o) (bR _ (bR _ (kq hb e)))).1,fun b hb=>?_,w7⟩;obtain⟨o,e,d⟩:=T.obj _ _ st5 b hb;exact (I7.pin (b,o) (bR _ (bR _ (kq hb e)))).2.1
  cases f with
  | next=>obtain⟨σ7,H7,I7,n7⟩:=q7; exact again I7 n7
  | cont=>obtain⟨σ7,H7,I7,n7⟩:=q7; exact again I7 n7
  | brk=>obtain⟨σ7,H7,I7,q7⟩:=q7; exact⟨σ7,H7,I7.unpinned,q7⟩
  | ret v=>obtain⟨x7,σ7,H7,I7,r7,q7⟩:=q7; exact⟨x7,σ7,H7,I7.unpinned,r7,q7⟩
end
end L2
namespace L2
open PySem PySem.Spec PyProof.Rows
abbrev R2:=V->V->Hp->VK->Prop
def OpR (X:Cx)(f:Value->Value->Sem Value)(r:R2):Prop:=
 ∀(pins:List (Addr×Obj)) (s:Shared) (σ:St) (H:Hp) (x y:V) (v u:Value) (Q:VK),Inv X pins σ H s->RelV x v->RelV y u->r x y H Q ->
  wpAny (model X.prog X.w) X.A (f v u) (EP X pins σ Q) X.xe s
def qW (X:Cx)(f:Value->Sem Value)(r:V->Hp->VK->Prop):Prop:=
 ∀(pins:List (Addr×Obj)) (s:Shared) (σ:St) (H:Hp) (x:V) (v:Value) (Q:VK),Inv X pins σ H s->RelV x v->r x H Q ->
  wpAny (model X.prog X.w) X.A (f v) (EP X pins σ Q) X.xe s
def CallR (X:Cx)(f:Value)(r:List V->Hp->VK->Prop):Prop:=
 ∀(pins:List (Addr×Obj)) (s:Shared) (σ:St) (H:Hp) (xs:List V) (us:List Value) (Q:VK),Inv X pins σ H s->Vals xs us->r xs H Q ->
  wpAny (model X.prog X.w) X.A (call f us) (EP X pins σ Q) X.xe s
def kP (r:R2)(ta tb:TE):TE:=fun σ H Q=>ta σ H fun x H1=>tb σ H1 fun y H2=>r x y H2 Q
def o4 (r:V->Hp->VK->Prop)(ta:TE):TE:=fun σ H Q=>ta σ H fun x H1=>r x H1 Q
def rI (C:Int->Int->Prop)(g:Int->Int->V):R2:=fun x y H Q=>∃i j,x=.int i/\y=.int j/\C i j/\Q (g i j) H
def hX (g:Int->Int->V):R2:=fun x y H Q=>∃i j,x=.int i/\y=.int j/\Q (g i j) H
def rU (g:Int->V):V->Hp->VK->Prop:=fun x H Q=>∃i,x=.int i/\Q (g i) H
section
variable {X:Cx}{a b c:Expr}{ta tb tc:TE}{pos:Pos}
theorem iZ (ha:PE X a ta)(hb:PE X b tb){pins:List (Addr×Obj)}{s:Shared}{σ:St}{H:Hp}{R:V->V->Hp->Prop}(I:Inv X pins σ H s)
  (h:ta σ H fun x H1=>tb σ H1 fun y H2=>R x y H2){Q:Value->Shared->Prop}{f:Value->Value->Sem Value}
  (hf:∀v u s2 x y H2,Inv X pins σ H2 s2->RelV x v->RelV y u->R x y H2->wpAny (model X.prog X.w) X.A (f v u) Q X.xe s2) :
  wpAny (model X.prog X.w) X.A (eval a X.env) (fun v s₁=>wpAny (model X.prog X.w) X.A (eval b X.env) (fun u s₂=>wpAny (model X.prog X.w) X.A (f v u) Q X.xe s₂) X.xe s₁) X.xe s:=by
 refine aB (ha pins s σ H _ I h) fun v s1 hZz=>?_;obtain⟨x,H1,I1,r1,q1⟩:=hZz;refine aB (hb pins s1 σ H1 _ I1 q1) fun u s2 hZz=>?_;obtain⟨y,H2,I2,r2,q2⟩:=hZz;exact hf v u s2 x y H2 I2 r1 r2 q2
theorem jR {op:Operator}{r:R2}(ho:OpR X (binaryOp op) r)(ha:PE X a ta)(hb:PE X b tb):PE X (.BinOp a op b pos) (kP r ta tb):=by
 intro pins s σ H Q I h;exact wpAny_BinOp (iZ ha hb I h fun v u s2 x y H2 I2 rx ry q=>ho pins s2 σ H2 x y v u Q I2 rx ry q)
theorem yh (ho:qW X (unaryOp op) r)(ha:PE X a ta):PE X (.UnaryOp op a pos) (o4 r ta):=by
 intro pins s σ H Q I h;exact UnaryOp_ (aB (ha pins s σ H _ I h) fun v s1 ⟨x,H1,I1,r1,q1⟩=>ho pins s1 σ H1 x v Q I1 r1 q1)
theorem mK {f:Value->Value->Sem Value}{C:Int->Int->Prop}{g:Int->Int->Int}
  (rule:∀(i j:Int) (t u:Tok) (s:Shared) (Q:Value->Shared->Prop) (E:Value->Shared->Prop),C i j->Q (.int (g i j) s.toks) { s with toks:=s.toks+1 }->wpAny (model X.prog X.w) X.A (f (.int i t) (.int j u)) Q E s) :
  OpR X f (rI C fun i j=>.int (g i j)):=by
 intro pins s σ H x y v u Q I rx ry h;obtain⟨i,j,rfl,rfl,hc,q⟩:=h;obtain⟨t,rfl⟩:=rx;obtain⟨t',rfl⟩:=ry;exact rule i j t t' s _ _ hc ⟨.int (g i j),H,I.tok _,⟨_,rfl⟩,q⟩
theorem ml {f:Value->Value->Sem Value}{g:Int->Int->Int}
  (rule:∀(i j:Int) (t u:Tok) (s:Shared) (Q:Value->Shared->Prop) (E:Value->Shared->Prop),Q (.int (g i j) s.toks) { s with toks:=s.toks+1 }->wpAny (model X.prog X.w) X.A (f (.int i t) (.int j u)) Q E s) :
  OpR X f (hX fun i j=>.int (g i j)):=by
 intro pins s σ H x y v u Q I rx ry h;obtain⟨i,j,rfl,rfl,q⟩:=h;obtain⟨t,rfl⟩:=rx;obtain⟨t',rfl⟩:=ry;exact rule i j t t' s _ _ ⟨.int (g i j),H,I.tok _,⟨_,rfl⟩,q⟩
theorem g8 {f:Value->Value->Sem Value}{g:Int->Int->Bool}
  (rule:∀(i j:Int) (t u:Tok) (s:Shared) (Q:Value->Shared->Prop) (E:Value->Shared->Prop),Q (.bool (g i j)) s->wpAny (model X.prog X.w) X.A (f (.int i t) (.int j u)) Q E s) :
  OpR X f (hX fun i j=>.bl (g i j)):=by
 intro pins s σ H x y v u Q I rx ry h;obtain⟨i,j,rfl,rfl,q⟩:=h;obtain⟨t,rfl⟩:=rx;obtain⟨t',rfl⟩:=ry;exact rule i j t t' s _ _ ⟨.bl (g i j),H,I,rfl,q⟩
def oq (i j:Int):Prop:=0<j/\j<1073741824
def pU (i j:Int):Prop:=0<=j/\j<=1000000/\i.natAbs<2 ^ 64
def CMul (i j:Int):Prop:=(-(2 ^ 64)<i/\i<2 ^ 64)\/(-(2 ^ 64)<j/\j<2 ^ 64)
theorem CMul.ok (h:CMul i j):IntMulOk i j:=by
 rcases h with ⟨h1,h2⟩ | ⟨h1,h2⟩
 ·exact .of_left (intBits_le_64 h1 h2)
 ·exact .of_right (intBits_le_64 h1 h2)
theorem eQ (k:Nat):(0:Int)<=2 ^ k:=by
 rw[two_pow_cast];exact Int.natCast_nonneg _
theorem Bd:OpR X (binaryOp .Add) (hX fun i j=>.int (i+j)):=ml fun _ _ _ _ _ _ _ q=>add_int q
theorem BN:OpR X (binaryOp .Sub) (hX fun i j=>.int (i - j)):=ml fun _ _ _ _ _ _ _ q=>sub_int q
theorem v3:OpR X (binaryOp .Mult) (rI CMul fun i j=>.int (i * j)):=mK fun _ _ _ _ _ _ _ hc q=>mul_int q hc.ok
theorem Eh:OpR X (binaryOp .FloorDiv) (rI oq fun i j=>.int (i / j)):=mK fun i j _ _ _ _ _ hc q=>by
 have h1:(0:Int)<j:=hc.1;have h2:j<1073741824:=hc.2;exact floordiv_int (by omega) (by rw[Int.fdiv_eq_ediv_of_nonneg i (by omega)]; exact q) (.inl (PyProof.noPylong_small (by omega)))
theorem A5:OpR X (binaryOp .Mod) (rI (fun _ j=>0<j) fun i j=>.int (i % j)):=mK fun i j _ _ _ _ _ hc q=>by
 have h1:(0:Int)<j:=hc;exact mod_int' (by omega) (by rw[Int.fmod_eq_emod_of_nonneg i (by omega)]; exact q)
theorem Cf:OpR X (binaryOp .Pow) (rI pU fun i j=>.int (i ^ j.toNat)):=mK fun _ _ _ _ _ _ _ hc q=>pow_int_small hc.1 hc.2.1 hc.2.2 q
theorem wC:OpR X (binaryOp .RShift) (rI (fun _ j=>0<=j) fun i j=>.int (i / 2 ^ j.toNat)):=mK fun i j _ _ _ _ _ hc q=>
 rshift_int hc (by rw[Int.fdiv_eq_ediv_of_nonneg i (eQ _)]; exact q)
theorem wM {f:Value->Sem Value}{g:Int->Int}
  (rule:∀(i:Int) (t:Tok) (s:Shared) (Q:Value->Shared->Prop) (E:Value->Shared->Prop),Q (.int (g i) s.toks) { s with toks:=s.toks+1 }->wpAny (model X.prog X.w) X.A (f (.int i t)) Q E s) :
  qW X f (rU fun i=>.int (g i)):=by
 intro pins s σ H x v Q I rx h;obtain⟨i,rfl,q⟩:=h;obtain⟨t,rfl⟩:=rx;exact rule i t s _ _ ⟨.int (g i),H,I.tok _,⟨_,rfl⟩,q⟩
theorem zE:qW X (unaryOp .USub) (rU fun i=>.int (-i)):=wM fun _ _ _ _ _ q=>neg_int q
end
noncomputable def scal:V->V->Bool
 | .non,.non=>true | .non,.int _=>true | .int _,.non=>true | .non,.bl _=>true | .bl _,.non=>true | .non,.str _=>true | .str _,.non=>true
 | .int _,.int _=>true | .bl _,.bl _=>true | .str _,.str _=>true | .byt _,.byt _=>true
 | .int _,.str _=>true | .str _,.int _=>true | .bl _,.str _=>true | .str _,.bl _=>true
 | _,_=>false
section
variable {X:Cx}{a b c:Expr}{ta tb tc:TE}{pos:Pos}
theorem Bt:OpR X (compareOp .Lt) (hX fun i j=>.bl (decide (i<j))):=g8 fun _ _ _ _ _ _ _ q=>lt_int q
theorem AL:OpR X (compareOp .LtE) (hX fun i j=>.bl (decide (i<=j))):=g8 fun _ _ _ _ _ _ _ q=>le_int q
theorem CW:OpR X (compareOp .Gt) (hX fun i j=>.bl (decide (j<i))):=g8 fun _ _ _ _ _ _ _ q=>gt_int q
theorem AA:OpR X (compareOp .GtE) (hX fun i j=>.bl (decide (j<=i))):=g8 fun _ _ _ _ _ _ _ q=>ge_int q
theorem OpR.or (h:OpR X f r)(h':OpR X f r'):OpR X f (fun x y H Q=>r x y H Q\/r' x y H Q):=by
 intro pins s σ H x y v u Q I rx ry q;rcases q with q | q
 ·exact h pins s σ H x y v u Q I rx ry q
 ·exact h' pins s σ H x y v u Q I rx ry q
theorem jT (b:Expr)(h:op≠.In:=by decide)(h2:op≠.NotIn:=by decide):behindInMarks op b=false:=by
 have e1:(op == CmpOp.In)=false:=by cases op <;> first | rfl | exact absurd rfl h
 have e2:(op == CmpOp.NotIn)=false:=by cases op <;> first | rfl | exact absurd rfl h2
 cases b <;> simp[behindInMarks,e1,e2]
theorem wm {op:CmpOp}{r:R2}(ho:OpR X (compareOp op) r)(ha:PE X a ta)(hb:PE X b tb)(hm:behindInMarks op b=false):PE X (.Compare a [op] [b] pos) (kP r ta tb):=by
 intro pins s σ H Q I h;exact wpAny_Compare1 (iZ ha hb I h fun v u s2 x y H2 I2 rx ry q=>ho pins s2 σ H2 x y v u Q I2 rx ry q) hm
def iE (t:TE):TT:=fun σ H Q=>t σ H fun x H'=>∃k,x=.bl k/\Q k H'
theorem DO (ho:OpR X (compareOp op) r)(ha:PE X a ta)(hb:PE X b tb)(hm:behindInMarks op b=false):PT X (.Compare a [op] [b] pos) (iE (kP r ta tb)):=by
 intro pins s σ H Q I h;refine wpAny_isTrue_Compare1 (aB (ha pins s σ H _ I h) fun v s1 ⟨x,H1,I1,r1,q1⟩=>aB (hb pins s1 σ H1 _ I1 q1) fun u s2 ⟨y,H2,I2,r2,q2⟩=>
  aB (ho pins s2 σ H2 x y v u _ I2 r1 r2 q2) fun c s3 ⟨z,H3,I3,r3,k,e,q3⟩=>?_) hm
 subst e;cases r3;exact wpAny_truthy_bool ⟨H3,I3,q3⟩
def dM (r r':R2)(ta tb tc:TE):TE:=fun σ H Q=>ta σ H fun x H1=>tb σ H1 fun y H2=>r x y H2 fun z H3=>∃k,z=.bl k /\
 (if k=true then tc σ H3 fun w' H4=>r' y w' H4 Q else Q (.bl false) H3)
theorem Eg (ho:OpR X (compareOp op) r)(ho':OpR X (compareOp op') r')(ha:PE X a ta)(hb:PE X b tb)(hc:PE X c tc)
  (hm:lastMarks [op,op'] [b,c]=false:=by with_unfolding_all rfl):PE X (.Compare a [op,op'] [b,c] pos) (dM r r' ta tb tc):=by
 intro pins s σ H Q I h;refine Compare_chain (aB (ha pins s σ H _ I h) fun v s1 ⟨x,H1,I1,r1,q1⟩=>chain_link (aB (hb pins s1 σ H1 _ I1 q1) fun u s2 ⟨y,H2,I2,r2,q2⟩=>
  aB (ho pins s2 σ H2 x y v u _ I2 r1 r2 q2) fun d s3 ⟨z,H3,I3,r3,k,e,q3⟩=>?_)) hm
 subst e;cases r3;refine wpAny_truthy_bool ?_;cases k with
 | false=>exact ite_ff ⟨.bl false,H3,I3,rfl,q3⟩
 | true=>exact ite_tt (chain_last (aB (hc pins s3 σ H3 _ I3 q3) fun w' s4 ⟨z',H4,I4,r4,q4⟩=>ho' pins s4 σ H4 y z' u w' Q I4 r2 r4 q4))
theorem DI (ho:OpR X (compareOp op) r)(ho':OpR X (compareOp op') r')(ha:PE X a ta)(hb:PE X b tb)(hc:PE X c tc)
  (hm:lastMarks [op,op'] [b,c]=false:=by with_unfolding_all rfl):PT X (.Compare a [op,op'] [b,c] pos) (iE (dM r r' ta tb tc)):=by
 intro pins s σ H Q I h;refine isTrue_chain (aB (ha pins s σ H _ I h) fun v s1 ⟨x,H1,I1,r1,q1⟩=>test_link (aB (hb pins s1 σ H1 _ I1 q1) fun u s2 ⟨y,H2,I2,r2,q2⟩=>
  aB (ho pins s2 σ H2 x y v u _ I2 r1 r2 q2) fun d s3 ⟨z,H3,I3,r3,k,e,q3⟩=>?_)) hm
 subst e;cases r3;refine wpAny_truthy_bool ?_;cases k with
 | false=>
  obtain⟨k',e',q'⟩:=q3;cases e';exact ite_ff ⟨H3,I3,q'⟩
 | true=>
  refine ite_tt (test_last (aB (hc pins s3 σ H3 _ I3 q3) fun w' s4 ⟨z',H4,I4,r4,q4⟩=>aB (ho' pins s4 σ H4 y z' u w' _ I4 r2 r4 q4) fun d' s5 hZz=>?_));obtain⟨z2,H5,I5,r5,k2,e2,q5⟩:=hZz;subst e2;cases r5;exact wpAny_truthy_bool ⟨H5,I5,q5⟩
theorem dH:(sizeLine:Nat)<2 ^ 63:=by rw[sizeLine_eq]; decide
theorem vals1 (r:Vals [x] us):∃u,us=[u]/\RelV x u:=by
 cases r with
 | cons r1 r2=>cases r2; exact⟨_,rfl,r1⟩
theorem vals2 (r:Vals [x,y] us):∃u w',us=[u,w']/\RelV x u/\RelV y w':=by
 cases r with
 | cons r1 r2=>
  cases r2 with
  | cons r3 r4=>cases r4; exact⟨_,_,rfl,r1,r3⟩
theorem yV (hc:X.calm=true):CallR X (.builtin "max") (fun xs H Q=>∃i j,xs=[.int i,.int j]/\Q (.int (if j > i then j else i)) H):=by
 intro pins s σ H xs us Q I r h;obtain⟨i,j,rfl,q⟩:=h;obtain⟨u,w',rfl,⟨t,rfl⟩,⟨t',rfl⟩⟩:=vals2 r;refine max_two_ints (I.ok.hd hc) fun h' tk k=>⟨_,H,I.kept k,?_,q⟩
 by_cases hj:j > i
 ·rw[if_pos hj,if_pos hj]; exact⟨_,rfl⟩
 ·rw[if_neg hj,if_neg hj]; exact⟨_,rfl⟩
theorem EY:CallR X (.type "int") (fun xs H Q=>(∃i,xs=[.int i]/\Q (.int i) H)\/∃k,xs=[.bl k]/\Q (.int (if k then 1 else 0)) H):=by
 intro pins s σ H xs us Q I r h;rcases h with ⟨i,rfl,q⟩ | ⟨k,rfl,q⟩
 ·obtain⟨u,rfl,t,rfl⟩:=vals1 r;exact call_int_int ⟨.int i,H,I,⟨_,rfl⟩,q⟩
 ·obtain⟨u,rfl,r1⟩:=vals1 r;cases r1;exact call_int_bool ⟨.int (if k then 1 else 0),H,I.tok _,⟨_,rfl⟩,q⟩
end
end L2
namespace L2
open PySem PySem.Spec PyProof.Rows
structure ObjM (h:Heap)(x dx C:Addr)(mA:Str->Option Value):Prop where
 obj:h.get? x=some (PySem.W.instObj C dx)
 ns:h.Ns1 dx mA
 ne:dx≠x
theorem xK {h:Heap}{dx:Addr}{mA:Str->Option Value}(n:h.Ns1 dx mA):∃od,h.get? dx=some od/\∀name,PySem.W.lookIn name od=some (mA name):=by
 obtain⟨o,es,ep,ho,hd,hk,_,hm⟩:=n;refine⟨o,ho,fun name=>?_⟩;have e:=hm name;unfold nsFind findBy at e;rw[<-Array.find?_toList] at e;unfold PySem.W.lookIn;rw[hd];dsimp only;split
 ·rename_i y q;rw[q] at e;exact congrArg some e
 ·rename_i q;rw[q] at e;have a:es.toList.any (·.refKey)=false:=by
   rw[List.any_eq_false];intro y hy;obtain⟨z,t,hkey⟩:=hk y (Array.mem_toList_iff.mp hy);simp[DictEntry.refKey,hkey]
  have a':¬es.toList.any (·.refKey)=true:=by rw[a]; exact Bool.false_ne_true
  rw[if_neg a'];exact congrArg some e
theorem ObjM.look (I:ObjM h x dx C mA):∃od,PySem.W.InstAt h x (PySem.W.instObj C dx) C (some od)/\∀name,PySem.W.lookIn name od=some (mA name):=
 let ⟨od,ho,hl⟩:=xK I.ns
 ⟨od,⟨I.obj,rfl,rfl,ho⟩,hl⟩
section
variable {prog:Program}{w:World}{A:Around}{E:Value->Shared->Prop}{s:Shared}{K:aG}{x dx C f:Addr}{mA:Str->Option Value}{name:Str}{v:Value}
theorem Al (X:K.In s.heap)(I:ObjM s.heap x dx C mA)(hg:PySem.W.plainGet K C name=true)(hh:PySem.W.hasDictIn K C=true)
  (ha:PySem.W.findIn K (.ref C) name=some none)(hv:mA name=some v)(hv':PySem.W.handedIn v=true)(h:Q v { s with toks:=s.toks+1 }) :
  wpAny (model prog w) A (getAttr (.ref x) name expr) Q E s:=by
 obtain⟨od,J,hl⟩:=I.look;exact PySem.W.get_value X J (PySem.W.plainGet_of hg).1 (PySem.W.findObj_own hh ha rfl (by rw[hl,hv])) hv' h
theorem Dp (X:K.In s.heap)(I:ObjM s.heap x dx C mA)(hg:PySem.W.plainGet K C name=true)
  (hf:PySem.W.findIn K (.ref C) name=some (some (.ref f)))(ht:PySem.W.isFn K (.ref f)=true)(hv:mA name=none)(h:Q (.ref f,[.ref x]) s) :
  wpAny (model prog w) A (getMethod (.ref x) name pl) Q E s:=by
 obtain⟨od,J,hl⟩:=I.look;exact PySem.W.method_fn X J (PySem.W.plainGet_of hg).1 (PySem.W.plainGet_of hg).2 hf (beq_iff_eq.mp ht) (by show (PySem.W.lookIn name od).map (·.isSome)=some false; rw[hl,hv]; rfl) h
theorem xI (X:K.In s.heap)(I:ObjM s.heap x dx C mA)
  (hs:PySem.W.findIn K (.ref C) "__setattr__" = some (some (.builtin "object.__setattr__")))(hp:PySem.W.plainOver K C=true)(ht:PySem.W.takerIn K C name=some none)(hh:PySem.W.hasDictIn K C=true)
  (hw:PySem.Within mA ns)(hsz:ns.length<=sizeLine)
  (h:∀h',ObjM h' x dx C (fun y=>if y=name then some v else mA y)->Heap.SameBut dx s.heap h'->Q () { s with heap:=h',toks:=s.toks+2 }) :
  wpAny (model prog w) A (setAttr (.ref x) name v) Q E s:=by
 obtain⟨od,J,hl⟩:=I.look;refine PySem.W.set_plain X J hs (PySem.W.osa_open (s:={ s with toks:=s.toks+1 }) (r:=none) X J hp ht fun b=>?_);obtain⟨cd,hc,hd'⟩:=PySem.W.any_some hh;have hx:s.heap.get? x=some ⟨.ref C,some dx,.plain,#[]⟩:=I.obj;refine af (ay (af (af (wpAny_loadPart hx (af (PySem.W.Looks.here (s:={ s with toks:=s.toks+1 }) (PySem.W.looks_clsIn X hc) ?_))))));rw[hd'];refine ay (a:=some dx) (af (ay (af ?_)));refine wpAny_nsSet1 (s:={ s with toks:=s.toks+1 }) I.ns fun h' hn2 hs2=>?_;obtain⟨oD,esD,epD,hoD,hdD,hcD⟩:=hn2.count (PySem.Within.cons name v hw);refine af (wpAny_lookBehind hoD (by rw[hdD]; exact pastItsLine_dict (br hcD (by rw[List.length_cons]; omega))) ?_);exact ay (h _ ⟨(hs2.2 _ (Ne.symm I.ne)).trans I.obj,hn2,I.ne⟩ hs2)
theorem EA (X:K.In s.heap)(hm:PySem.W.makesIn K C=true)
  (hi:PySem.W.findIn K (.ref C) "__init__" = some (some (.ref f)))(hf:PySem.W.typeIn K (.ref f)=some (.type "function"))
  (h:codeAny (model prog w) (A.under (.builtin "type.__call__" ⟨.ref C::vs,kw⟩)) (.call (.ref f) ⟨.ref (s.heap.objs.size+1)::vs,kw⟩) (PySem.W.InitBack (s.heap.objs.size+1) R)
   { s with heap:=(s.heap.push PySem.W.emptyDict).push (PySem.W.instObj C s.heap.objs.size) }) :
  codeAny (model prog w) A (.call (.ref C) ⟨vs,kw⟩) R s:=by
 obtain⟨hh,g,d,t,os⟩:=s;exact PySem.W.make_core (PySem.W.makes_of X hm) (PySem.W.looks_findIn X hi) (fun self=>PySem.W.bind_fn X self hf) (.inl rfl) h
end
noncomputable def putF (f:Str)(v:V):List (Str×V)->List (Str×V)
 | []=>[(f,v)]
 | (g,x)::r=>if g=f then (g,v)::r else (g,x)::putF f v r
theorem pZ (f g:Str)(v:V):∀fs:List (Str×V),(putF f v fs).lookup g=if g=f then some v else fs.lookup g
 | []=>by
  show List.lookup g [(f,v)]=_;by_cases h:g=f
  ·have hb:(g == f)=true:=beq_iff_eq.mpr h;simp only[List.lookup,hb,if_pos h]
  ·have hb:(g == f)=false:=beq_eq_false_iff_ne.mpr h;simp only[List.lookup,hb,if_neg h]
 | (k,x)::r=>by
  have ih:=pZ f g v r;rw[show putF f v ((k,x)::r)=(if k=f then (k,v)::r else (k,x)::putF f v r) from rfl];by_cases hk:k=f
  ·rw[if_pos hk];by_cases h:g=k
   ·have hb:(g == k)=true:=beq_iff_eq.mpr h;simp only[List.lookup,hb,if_pos (h.trans hk)]
   ·have hb:(g == k)=false:=beq_eq_false_iff_ne.mpr h;simp only[List.lookup,hb,if_neg (fun e:g=f=>h (e.trans hk.symm))]
  ·rw[if_neg hk];by_cases h:g=k
   ·have hb:(g == k)=true:=beq_iff_eq.mpr h;simp only[List.lookup,hb,if_neg (fun e:g=f=>hk (h.symm.trans e))]
   ·have hb:(g == k)=false:=beq_eq_false_iff_ne.mpr h;simp only[List.lookup,hb];exact ih
theorem ls (f:Str)(v:V):∀fs:List (Str×V),f∈(putF f v fs).map (·.1)/\∀g,g∈fs.map (·.1)->g∈(putF f v fs).map (·.1)
 | []=>⟨by simp[putF],fun g h=>by simp at h⟩
 | (k,x)::r=>by
  obtain⟨i1,i2⟩:=ls f v r;rw[show putF f v ((k,x)::r)=(if k=f then (k,v)::r else (k,x)::putF f v r) from rfl];by_cases hk:k=f
  ·rw[if_pos hk];subst hk;exact⟨by simp,fun g h=>by simpa using h⟩
  ·rw[if_neg hk];refine⟨?_,fun g h=>?_⟩
   ·rw[List.map_cons];exact bw _ i1
   ·rw[List.map_cons] at h ⊢;rcases bN h with e | e
    ·exact List.mem_cons.mpr (.inl e)
    ·exact bw _ (i2 g e)
theorem pe (f:Str)(v:V):∀fs:List (Str×V),(putF f v fs).length<=fs.length+1
 | []=>by simp[putF]
 | (k,x)::r=>by
  have ih:=pe f v r;rw[show putF f v ((k,x)::r)=(if k=f then (k,v)::r else (k,x)::putF f v r) from rfl];by_cases hk:k=f
  ·rw[if_pos hk,List.length_cons,List.length_cons]; omega
  ·rw[if_neg hk,List.length_cons,List.length_cons]; omega
theorem RelO.some_of (r:RelO (some v) o):∃u,o=some u/\RelV v u:=by
 cases o with
 | none=>exact (show False from r).elim
 | some u=>exact⟨u,rfl,r⟩
theorem RelO.none_of (r:RelO none o):o=none:=by
 cases o with
 | none=>rfl
 | some u=>exact (show False from r).elim
theorem vc (r:RelV v u):PySem.W.handedIn u=true:=by
 cases v with
 | non=>cases (show u=Value.none from r); rfl
 | bl b=>cases (show u=Value.bool b from r); rfl
 | int i=>obtain⟨t,e⟩:=(show ∃t,u=Value.int i t from r); cases e; rfl
 | str x=>obtain⟨t,e⟩:=(show ∃t,u=Value.str x t from r); cases e; rfl
 | byt b=>obtain⟨t,e⟩:=(show ∃t,u=Value.bytes b t from r); cases e; rfl
 | flt b=>obtain⟨t,e⟩:=(show ∃t,u=Value.float b t from r); cases e; rfl
 | ref a=>cases (show u=Value.ref a from r); rfl
 | ty n=>cases (show u=Value.type n from r); rfl
section
variable {P:Program}{w:World}{H H':Hp}{h h':Heap}{a C dx:Addr}{fs fs':List (Str×V)}
theorem mC (hok:HOk P w H h)(e:H a=some (.ins C dx fs)):∃mA,ObjM h a dx C mA/\(∀f,RelO (fs.lookup f) (mA f))/\PySem.Within mA (fs.map (·.1))/\fs.length<=1000/\H dx=some (.own a):=by
 obtain⟨d,z,ne,ob,mA,n,r,q⟩:=(show ObjOk P w H h a (.ins C dx fs) from hok a _ e)
 exact⟨mA,⟨ob,n,ne⟩,r,q,z,d⟩
end
structure Cls (K:aG)(C:Addr):Prop where
 pg:PySem.W.plainGet K C Str.empty=true
 hd:PySem.W.hasDictIn K C=true
 po:PySem.W.plainOver K C=true
 sa:PySem.W.findIn K (.ref C) "__setattr__" = some (some (.builtin "object.__setattr__"))
theorem Cls.get {K:aG}{C:Addr}(c:Cls K C)(f:Str):PySem.W.plainGet K C f=true:=c.pg
def NoAttr (K:aG)(C:Addr)(f:Str):Prop:=PySem.W.findIn K (.ref C) f=some none
theorem NoAttr.taker {K:aG}{C:Addr}{f:Str}(n:NoAttr K C f):PySem.W.takerIn K C f=some none:=by
 unfold PySem.W.takerIn;rw[show PySem.W.findIn K (.ref C) f=some none from n];rfl
structure Meth (K:aG)(C:Addr)(m:Str)(f:Addr):Prop where
 at_:PySem.W.findIn K (.ref C) m=some (some (.ref f))
 fn:PySem.W.isFn K (.ref f)=true
 kp:PySem.W.keepIn K (.ref f)=true
section
variable {X:Cx}{pins:List (Addr×Obj)}{σ:St}{H:Hp}{s:Shared}{a C dx:Addr}{fs:List (Str×V)}{f:Str}{v:V}{A:Around}{E:Value->Shared->Prop}
theorem Ae (I:Inv X pins σ H s)(e:H a=some (.ins C dx fs))(c:Cls X.K C)(n:NoAttr X.K C f)(l:fs.lookup f=some v)
  (h:∀u s',Inv X pins σ H s'->RelV v u->Q u s'):wpAny (model X.prog X.w) A (getAttr (.ref a) f b) Q E s:=by
 obtain⟨mA,O,r,_,_,_⟩:=mC I.hok e;obtain⟨u,hu,ru⟩:=RelO.some_of (v:=v) (o:=mA f) (by rw[<-l]; exact r f);exact Al I.kIn O (c.get f) c.hd n hu (vc ru) (h u _ (I.tok _) ru)
theorem sf (I:Inv X pins σ H s)(e:H a=some (.ins C dx fs))(c:Cls X.K C)(k:Meth X.K C m g)(l:fs.lookup m=none)
  (h:Q (.ref g,[.ref a]) s):wpAny (model X.prog X.w) A (getMethod (.ref a) m pl) Q E s:=by
 obtain⟨mA,O,r,_,_,_⟩:=mC I.hok e;have hn:mA m=none:=RelO.none_of (by rw[<-l]; exact r m);exact Dp I.kIn O (c.get m) k.at_ k.fn hn h
theorem yH (I:Inv X pins σ H s)(e:H a=some (.ins C dx fs))(c:Cls X.K C)(n:NoAttr X.K C f)(hl:fs.length<1000)(ry:RelV y u)
  (h:∀s',Inv X pins σ (upd H a (.ins C dx (putF f y fs))) s'->Q () s'):wpAny (model X.prog X.w) A (setAttr (.ref a) f u) Q E s:=by
 obtain⟨mA,O,r,wi,_,ho⟩:=mC I.hok e;have hz:(fs.map (·.1)).length<=sizeLine:=by rw[List.length_map,sizeLine_eq]; omega
 refine xI I.kIn O c.sa c.po n.taker c.hd wi hz fun h' O' sb=>h _ ?_;have hd:∃o,h'.get? dx=some o:=let ⟨o,_,_,e',_⟩:=O'.ns; ⟨o,e'⟩
 refine I.write (x:=a) (e:=dx) (by rw[e]; exact True.intro) (.inr ho) (fun b q hb z=>(sb.2 b hb).trans z) hd ?_;refine⟨by rw[aZ O.ne]; exact ho,?_,O.ne,O'.obj,_,O'.ns,fun g=>?_,fun g hg=>?_⟩
 ·have:=pe f y fs; omega
 ·show RelO ((putF f y fs).lookup g) (if g=f then some u else mA g);rw[pZ];by_cases q:g=f
  ·rw[if_pos q,if_pos q]; exact ry
  ·rw[if_neg q,if_neg q]; exact r g
 ·by_cases q:g=f
  ·rw[q]; exact (ls f y fs).1
  ·refine (ls f y fs).2 g (wi g fun z=>hg ?_);show (if g=f then some u else mA g)=none;rw[if_neg q]; exact z
theorem Inv.made (I:Inv X pins σ H s):Inv X pins σ (upd (upd H s.heap.objs.size (.own (s.heap.objs.size+1))) (s.heap.objs.size+1) (.ins C s.heap.objs.size []))
  { s with heap:=(s.heap.push PySem.W.emptyDict).push (PySem.W.instObj C s.heap.objs.size) }:=by
 have e1:(s.heap.push PySem.W.emptyDict).get? s.heap.objs.size=some PySem.W.emptyDict:=cR s.heap rfl;have e2:((s.heap.push PySem.W.emptyDict).push (PySem.W.instObj C s.heap.objs.size)).get? (s.heap.objs.size+1)=some (PySem.W.instObj C s.heap.objs.size):=by
  have:=cR (s.heap.push PySem.W.emptyDict) (o:=PySem.W.instObj C s.heap.objs.size) rfl
  rwa [Heap.size_push] at this
 have e3:(s.heap.push PySem.W.emptyDict).Ns s.heap.objs.size (fun _=>none):=⟨PySem.W.emptyDict,#[],_,e1,rfl,(fun e he=>absurd he (by simp)),fun _=>rfl⟩
 have I1:=I.laid (a:=s.heap.objs.size) (o:=.own (s.heap.objs.size+1)) (h':=s.heap.push PySem.W.emptyDict) (t':=s.toks) (fun b u q=>bz _ q) (aX _) ⟨_,e1⟩;refine I1.laid (a:=s.heap.objs.size+1) (o:=.ins C s.heap.objs.size []) (t':=s.toks) (fun b u q=>bz _ q) (Nat.le_of_eq (Heap.size_push _ _)) ?_;have ne:s.heap.objs.size≠s.heap.objs.size+1:=cH (Nat.lt_succ_self _);refine⟨by rw[aZ ne,bu],Nat.zero_le _,ne,e2,fun _=>none,(Heap.Ns1.of_empty e3).at fun o q=>bz _ q,fun _=>True.intro,fun y hy=>absurd rfl hy⟩
theorem vD (hb:attributeBase e f env (eval e env)=eval e env)
  (h:wpAny (model prog w) A (eval e env) (fun o s₁=>wpAny (model prog w) A (getAttr o f true) Q E s₁) E s):wpAny (model prog w) A (eval (.Attribute e f pos) env) Q E s:=
 Attribute_any_ h (by rw[arm_eval_Attribute,hb])
end
def ou (K:aG)(ta:TE)(f:Str):TE:=fun σ H Q=>ta σ H fun x H1=>∃a C dx fs v,x=.ref a/\H1 a=some (.ins C dx fs)/\Cls K C/\NoAttr K C f/\fs.lookup f=some v/\Q v H1
def gN (K:aG)(ta tv:TE)(f:Str):TS:=fun D σ H=>tv σ H fun y H1=>ta σ H1 fun x H2=>∃a C dx fs,x=.ref a/\H2 a=some (.ins C dx fs)/\Cls K C/\NoAttr K C f/\fs.length<1000 /\
 D.nx σ (upd H2 a (.ins C dx (putF f y fs)))
section
variable {X:Cx}{o e value:Expr}{f:Str}{pos pos' tpos:Pos}{ta tv:TE}
theorem wV (he:PE X e ta)(hb:attributeBase e f X.env (eval e X.env)=eval e X.env):PE X (.Attribute e f pos) (ou X.K ta f):=by
 intro pins s σ H Q I h;refine vD hb (aB (he pins s σ H _ I h) fun u s1 hZz=>?_);obtain⟨x,H1,I1,rx,a,C,dx,fs,v,ex,ea,c,n,l,q⟩:=hZz;subst ex;obtain rfl:u=Value.ref a:=rx;exact Ae I1 ea c n l fun u' s2 I2 ru=>⟨v,H1,I2,ru,q⟩
theorem AY (ha:PE X o ta)(hv:PE X value tv)(hs:swapsWith value (some (.Attribute o f pos')) pos.line X.env=pure false):PS X (.Assign [.Attribute o f pos'] value pos) (gN X.K ta tv f):=by
 intro pins s σ H D I h;refine plainObj_wpAny_Assign_Attribute (aB (hv pins s σ H _ I h) fun u s1 ⟨y,H1,I1,ry,q⟩=>aB (ha pins s1 σ H1 _ I1 q) fun ov s2 hZz=>?_) hs;obtain⟨x,H2,I2,rx,a,C,dx,fs,ex,ea,c,n,l,q2⟩:=hZz;subst ex;obtain rfl:ov=Value.ref a:=rx;exact yH I2 ea c n l ry fun s3 I3=>⟨σ,_,I3,q2⟩
end
section
variable {X:Cx}{pins:List (Addr×Obj)}{σ:St}{H:Hp}{s:Shared}{A:Around}{E:Value->Shared->Prop}{Q:Value->Shared->Prop}{c:Value}{b:Bool}
inductive TyOf (K:aG) (H:Hp):V->Value->Prop where
 | non:TyOf K H .non (.type "NoneType")
 | bl (x:Bool):TyOf K H (.bl x) (.type "bool")
 | int (i:Int):TyOf K H (.int i) (.type "int")
 | str (x:Str):TyOf K H (.str x) (.type "str")
 | flt (x:UInt64):TyOf K H (.flt x) (.type "float")
 | lst {a:Addr} {xs:List V} (e:H a=some (.lst xs)):TyOf K H (.ref a) (.type "list")
 | frz {a:Addr} {o:Obj} {xs:List V} (e:H a=some (.frz o (.lst xs))):TyOf K H (.ref a) (.type "list")
 | tup {a:Addr} {xs:List V} (e:H a=some (.tup xs)):TyOf K H (.ref a) (.type "tuple")
 | dK {a:Addr} {kvs:List (dQ×V)} (e:H a=some (.dK kvs)):TyOf K H (.ref a) (.type "dict")
 | dT {a:Addr} {kvs:List (List dQ×V)} (e:H a=some (.dT kvs)):TyOf K H (.ref a) (.type "dict")
 | ins {a C dx:Addr} {fs:List (Str×V)} (e:H a=some (.ins C dx fs)) (cl:Cls K C) (ha:PySem.W.findIn K (.ref C) "__class__" = some (some (.builtin "object.__class__")))
   (hn:PySem.W.specialIn K (.builtin "object.__class__") "__get__" = some (some (.builtin "getset_descriptor.__get__"))) (htk:PySem.W.takesIn K (.builtin "object.__class__")=some true)
   (hm:PySem.W.mroIn K C (.type "object")=some true):TyOf K H (.ref a) (.ref C)
theorem iI (I:Inv X pins σ H s)(rx:RelV x u)(ty:TyOf X.K H x t)(e:PySem.W.kitOne X.K t c=some b)(h:∀tk,Q (.bool b) { s with toks:=tk }) :
  wpAny (model X.prog X.w) A (call (.builtin "isinstance") [u,c]) Q E s:=by
 cases ty with
 | non=>cases (show u=Value.none from rx); exact PySem.W.kia_one PySem.W.kitx_none I.kIn True.intro e (fun z=>nomatch z) h
 | bl y=>cases (show u=Value.bool y from rx); exact PySem.W.kia_one PySem.W.kitx_bool I.kIn True.intro e (fun z=>nomatch z) h
 | int i=>obtain⟨t,q⟩:=(show ∃t,u=Value.int i t from rx); cases q; exact PySem.W.kia_one PySem.W.kitx_int I.kIn True.intro e (fun z=>nomatch z) h
 | str y=>obtain⟨t,q⟩:=(show ∃t,u=Value.str y t from rx); cases q; exact PySem.W.kia_one PySem.W.kitx_str I.kIn True.intro e (fun z=>nomatch z) h
 | flt y=>obtain⟨t,q⟩:=(show ∃t,u=Value.float y t from rx); cases q; exact PySem.W.kia_one PySem.W.kitx_float I.kIn True.intro e (fun z=>nomatch z) h
 | @lst a xs ea=>
  cases (show u=Value.ref a from rx);obtain⟨_,_,n,_,h1⟩:=(show ObjOk X.prog X.w H s.heap a (.lst xs) from I.hok a _ ea)
  exact PySem.W.kia_one PySem.W.kitx_list I.kIn ⟨_,h1,rfl⟩ e (fun z=>nomatch z) h
 | @frz a ob xs ea=>
  cases (show u=Value.ref a from rx);obtain⟨_,_,_,n,_,h1⟩:=(show ObjOk X.prog X.w H s.heap a (.frz ob (.lst xs)) from I.hok a _ ea)
  exact PySem.W.kia_one PySem.W.kitx_list I.kIn ⟨_,h1,rfl⟩ e (fun z=>nomatch z) h
 | @tup a xs ea=>
  cases (show u=Value.ref a from rx);obtain⟨_,_,_,p⟩:=(show ObjOk X.prog X.w H s.heap a (.tup xs) from I.hok a _ ea)
  obtain⟨o,h1,h2,_⟩:=p;exact PySem.W.kia_one PySem.W.kitx_tuple I.kIn ⟨o,h1,h2⟩ e (fun z=>nomatch z) h
 | @dK a kvs ea=>
  cases (show u=Value.ref a from rx);obtain⟨_,_,vs,_,p⟩:=(show ObjOk X.prog X.w H s.heap a (.dK kvs) from I.hok a _ ea)
  obtain⟨o,es,ep,h1,h2,_⟩:=p;exact PySem.W.kia_one PySem.W.kitx_dict I.kIn ⟨o,h1,h2.1⟩ e (fun z=>nomatch z) h
 | @dT a kvs ea=>
  cases (show u=Value.ref a from rx);obtain⟨_,_,xs,_,o,es,ep,h1,h2,_⟩:=(show ObjOk X.prog X.w H s.heap a (.dT kvs) from I.hok a _ ea)
  exact PySem.W.kia_one PySem.W.kitx_dict I.kIn ⟨o,h1,h2.1⟩ e (fun z=>nomatch z) h
 | @ins a C dx fs ea cl ha hn htk hm=>
  cases (show u=Value.ref a from rx);obtain⟨mA,O,_⟩:=mC I.hok ea;obtain⟨od,J,_⟩:=O.look;exact PySem.W.kia_one (PySem.W.kitx_own (cl.get _) cl.hd ha hn htk hm) I.kIn J e (fun z=>nomatch z) h
end
end L2
namespace L2
open PySem PySem.Spec PyProof.Rows
structure Room (k:Nat)(A:Around):Prop where
 hd:A.handled=none
 dp:A.depth+3 * k+5<recursionLimit
 un:A.units+16 * k+200<cLine
theorem Room.mono (r:Room k A)(h:j<=k):Room j A:=⟨r.hd,by have:=r.dp; omega,by have:=r.un; omega⟩
theorem Room.deeper (r:Room (k+1) A)(env:Env):Room k (A.deeper env):=
 ⟨r.hd,by have:=r.dp; show A.depth+1+3 * k+5<_; omega,by have:=r.un; show A.units+3+16 * k+200<_; omega⟩
theorem AI {A:Around}{C:Addr}{us:List Value}{kw:List (Str×Value)}:(A.under (.builtin "type.__call__" ⟨.ref C::us,kw⟩)).depth=A.depth+1:=by
 first | rfl | simp[Around.under,Code.weight,Code.isCreation,Code.isGuard,Code.isCaller,Code.frames,Code.isFrame,guardIds]
theorem xv {A:Around}{C:Addr}{us:List Value}{kw:List (Str×Value)}:(A.under (.builtin "type.__call__" ⟨.ref C::us,kw⟩)).units=A.units+1:=by
 first | rfl | simp[Around.under,Code.cUnits,Code.frames,Code.isFrame]
theorem Room.make (r:Room (k+1) A)(C:Addr)(us:List Value)(kw:List (Str×Value)):Room k (A.under (.builtin "type.__call__" ⟨.ref C::us,kw⟩)):=
 ⟨r.hd,by have:=r.dp; rw[AI]; omega,by have:=r.un; rw[xv]; omega⟩
theorem Room.depth (r:Room k A):A.depth<recursionLimit:=by have:=r.dp; omega
theorem Room.units (r:Room k A):A.units+64<cLine:=by have:=r.un; omega
def dZ:TA:=fun _ H Q=>Q [] H
def cV (ta:TE)(tr:TA):TA:=fun σ H Q=>ta σ H fun x H1=>tr σ H1 fun xs H2=>Q (x::xs) H2
section
variable {X:Cx}{e:Expr}{es:List Expr}{te:TE}{t:TA}{pos:Pos}
theorem km:PA X [] dZ:=fun _ _ _ _ H Q I h=>Calls.spliced_nil ⟨[],H,I,.nil,h⟩
theorem iG (ha:PE X e te)(hr:PA X es t)(hs:starEach (e::es) X.env=(false,eval e X.env)::starEach es X.env:=by rfl):PA X (e::es) (cV te t):=by
 intro pos pins s σ H Q I h;rw[hs];show wpAny _ _ (spliced ((false,eval e X.env)::backTo pos (starEach es X.env))) _ _ s;refine Calls.spliced_cons (aB (ha pins s σ H _ I h) fun u s1 hZz=>?_);obtain⟨x,H1,I1,r1,q1⟩:=hZz;exact aB (hr pos pins s1 σ H1 _ I1 q1) fun us s2 ⟨xs,H2,I2,r2,q2⟩=>⟨x::xs,H2,I2,.cons r1 r2,q2⟩
def qA (t:TA):TE:=fun σ H Q=>t σ H fun xs H1=>xs.length<=sizeLine/\∀p,H1 p=none->Q (.ref p) (upd H1 p (.tup xs))
def qH (t:TA):TE:=fun σ H Q=>t σ H fun xs H1=>xs.length<=sizeLine/\∀p,H1 p=none->Q (.ref p) (upd H1 p (.lst xs))
theorem uO {x1}(h:PA X es t):PE X (.Tuple es x1 pos) (qA t):=by
 intro pins s σ H Q I hq;refine wpAny_Tuple_spliced (aB (h pos pins s σ H _ I hq) fun us s1 ⟨xs,H1,I1,r,z,q⟩=>⟨by rw[<-r.length]; exact z,?_⟩);have hf:H1 s1.heap.objs.size=none:=I1.hok.fresh (aX _);refine⟨.ref s1.heap.objs.size,upd H1 s1.heap.objs.size (.tup xs),I1.laid (t':=s1.toks) (fun b u e=>bz _ e) (aX _) ?_,rfl,q _ hf⟩;exact⟨z,us,r,⟨_,cR _ rfl,rfl,⟨_,rfl⟩,rfl⟩⟩
theorem A8 (h:PA X es t):PE X (.List es pos) (qH t):=by
 intro pins s σ H Q I hq;refine wpAny_List_spliced (aB (h pos pins s σ H _ I hq) fun us s1 ⟨xs,H1,I1,r,z,q⟩=>⟨by rw[<-r.length]; exact z,?_⟩);have hf:H1 s1.heap.objs.size=none:=I1.hok.fresh (aX _);refine⟨.ref s1.heap.objs.size,upd H1 s1.heap.objs.size (.lst xs),I1.laid (t':=s1.toks) (fun b u e=>bz _ e) (aX _) ?_,rfl,q _ hf⟩;exact⟨z,us,0,r,cR _ rfl⟩
end
abbrev Sp:=List V->Hp->VK->XK->Prop
noncomputable abbrev fM:=List Env->Hp->Shared->XK->Value->Shared->Prop
structure Env0 (P:Program)(w:World)(K:aG)(mg:Str->Option Value)(base:Heap)(A:Around)(outer:List Env)(s:Shared)(H:Hp):Prop where
 frames:A.frames=some outer
 mod:Mod K mg base
 bs:∀b o,base.get? b=some o->s.heap.get? b=some o/\H b=none
 bsz:base.objs.size<=s.heap.objs.size
 funs:s.heap.FunFrames base outer
 frf:∀b∈eL outer,H b=none
 hok:HOk P w H s.heap
 bare:AllBare s.gens
def CE (outer:List Env)(P:Program)(w:World)(H:Hp)(s:Shared)(Q:VK)(u:Value)(s':Shared):Prop:=
 ∃v H',s'.os=s.os/\AllBare s'.gens/\Un (eL outer) [] H H' s.heap s'.heap/\HOk P w H' s'.heap/\RelV v u/\Q v H'
def CR (CX:fM)(outer:List Env)(P:Program)(w:World)(H:Hp)(s:Shared)(Q:VK)(E:XK)(r:Result)(s':Shared):Prop:=
 match r with
 | .ok (.ret u)=>CE outer P w H s Q u s'
 | .ok _=>False
 | .error e=>CX outer H s E e s'
structure FnOk (P:Program)(w:World)(K:aG)(mg:Str->Option Value)(base:Heap)(CX:fM)(k:Nat)(f:Addr)(fd:FuncData)(ps:List Str)(sp:Sp):Prop where
 len:∀vs H Q E,sp vs H Q E->vs.length=ps.length
 run:∀(A:Around) (outer:List Env) (s:Shared) (H:Hp) (args:Args) (us:List Value) (vs:List V) (Q:VK) (E:XK),Room k A->Env0 P w K mg base A outer s H->BindsTo s fd args (ps.zip us)->Vals vs us->sp vs H Q E ->
  codeAny (model P w) A (.call (.ref f) args) (CR CX outer P w H s Q E) s
theorem FnOk.imp {P:Program}{w:World}{K:aG}{mg:Str->Option Value}{base:Heap}{CX:fM}{k:Nat}{f:Addr}{fd:FuncData}{ps:List Str}{sp sp':Sp}(F:FnOk P w K mg base CX k f fd ps sp)
  (h:∀vs H Q E,sp' vs H Q E->sp vs H Q E):FnOk P w K mg base CX k f fd ps sp':=
 ⟨fun vs H Q E q=>F.len vs H Q E (h _ _ _ _ q),fun A outer s H args us vs Q E hr he hb hv hs=>F.run A outer s H args us vs Q E hr he hb hv (h _ _ _ _ hs)⟩
theorem Env0.make {P:Program}{w:World}{K:aG}{mg:Str->Option Value}{base:Heap}{A:Around}{outer:List Env}{s:Shared}{H:Hp}(e:Env0 P w K mg base A outer s H)(C:Addr)(us:List Value)(kw:List (Str×Value)) :
  Env0 P w K mg base (A.under (.builtin "type.__call__" ⟨.ref C::us,kw⟩)) outer s H:=⟨by first | exact e.frames | (simpa[Around.under,Code.envs,Code.isFrame,pushEnvs] using e.frames),e.mod,e.bs,e.bsz,e.funs,e.frf,e.hok,e.bare⟩
section
variable {X:Cx}{pins:List (Addr×Obj)}{σ:St}{H:Hp}{s s':Shared}
theorem Inv.env0 (I:Inv X pins σ H s):Env0 X.prog X.w X.K X.mg X.base X.A X.stack s H:=
 ⟨I.ok.frames,I.ok.mod,I.bs,br I.ok.bsz I.sz,I.stack,I.stkFree,I.hok,I.bare⟩
theorem Inv.after (I:Inv X pins σ H s)(h:CE X.stack X.prog X.w H s Q u s'):EP X pins σ Q u s':=by
 obtain⟨v,H',os,bare,un,hok,r,q⟩:=h;obtain⟨hh,g,d,t,os'⟩:=s';obtain rfl:os'=s.os:=os;exact⟨v,H',I.call (h':=hh) (g':=g) (d':=d) (t':=t) (ch:=[]) un hok bare (fun b z=>absurd z (by simp)),r,q⟩
end
def eZ (sp:Sp)(dvs:List V)(E:St->XK)(t:TA):TE:=fun σ H Q=>t σ H fun vs H1=>sp (vs++dvs) H1 Q (E σ)
def d6 (C:Addr)(m:Str)(sp:Sp)(dvs:List V)(E:St->XK)(ta:TE)(t:TA):TE:=fun σ H Q=>ta σ H fun x H1=>∃a dx fs,x=.ref a/\H1 a=some (.ins C dx fs)/\fs.lookup m=none /\
 t σ H1 fun vs H2=>sp (x::(vs++dvs)) H2 Q (E σ)
def fg (C:Addr)(sp:Sp)(dvs:List V)(E:St->XK)(t:TA):TE:=fun σ H Q=>t σ H fun vs H1=>∀x dx,H1 x=none->H1 dx=none->dx≠x ->
 sp (.ref x::(vs++dvs)) (upd (upd H1 dx (.own x)) x (.ins C dx [])) (fun v H2=>v=.non/\Q (.ref x) H2) (E σ)
def Binds (K:aG)(fd:FuncData)(ps:List Str)(ds:List Value):Prop:=
 ∀(s:Shared) (us:List Value),K.In s.heap->(us++ds).length=ps.length->BindsTo s fd ⟨us,[]⟩ (ps.zip (us++ds))
theorem Binds.all {K:aG}{fd:FuncData}{ps:List Str}(h:∀us:List Value,us.length=ps.length->bindArgs fd ⟨us,[]⟩=pure (ps.zip us)):Binds K fd ps []:=fun s us _ hl=>by
 rw[List.append_nil] at hl ⊢;exact .of_eq (h us hl)
def aQ (CX:fM)(X:Cx)(E:St->XK):Prop:=∀(pins:List (Addr×Obj)) (σ:St) (H:Hp) (s:Shared) (e:Value) (s':Shared),Inv X pins σ H s->CX X.stack H s (E σ) e s'->X.xe e s'
section
variable {X:Cx}{CX:fM}{k:Nat}{f C:Addr}{fd:FuncData}{ps:List Str}{sp:Sp}{dvs:List V}{ds:List Value}{E:St->XK}{x m:Str}{p pos apos:Pos}{e o:Expr}{es:List Expr}{ta:TE}{t:TA}
theorem m9 (F:FnOk X.prog X.w X.K X.mg X.base CX k f fd ps sp)(hr:Room k X.A)(hb:Binds X.K fd ps ds)(hd:Vals dvs ds)(hx:aQ CX X E)
  (I:Inv X pins σ H s)(r:Vals vs us)(h:sp (vs++dvs) H Q (E σ)):wpAny (model X.prog X.w) X.A (call (.ref f) us) (EP X pins σ Q) X.xe s:=by
 have r2:Vals (vs++dvs) (us++ds):=r.append hd;have hl:(us++ds).length=ps.length:=by rw[<-r2.length]; exact F.len _ _ _ _ h
 refine wpAny_call (codeAny_mono (F.run X.A X.stack s H ⟨us,[]⟩ (us++ds) (vs++dvs) Q (E σ) hr I.env0 (hb s us I.kIn hl) r2 h) fun r s' hq=>?_);cases r with
 | error e=>exact hx pins σ H s e s' I hq
 | ok fl=>
  cases fl with
  | ret u=>exact I.after hq
  | next=>exact False.elim hq
  | brk=>exact False.elim hq
  | cont=>exact False.elim hq
theorem zP (F:FnOk X.prog X.w X.K X.mg X.base CX k f fd ps sp)(hr:Room k X.A)(hg:Gl X x)(hm:X.mg x=some (.ref f))(hk:PySem.W.keepIn X.K (.ref f)=true)(hb:Binds X.K fd ps ds)(hd:Vals dvs ds)(hx:aQ CX X E)
  (ha:PA X (e::es) t)(hdb:(x == ("__debug__" : Str))=false:=by decide)(he:starEach (e::es) X.env=(false,eval e X.env)::starEach es X.env:=by rfl)(hpl:(backTo pos (starEach es X.env)).any (·.1)=false:=by rfl) :
  PE X (.Call (.Name x p) (e::es) [] pos) (eZ sp dvs E t):=by
 intro pins s σ H Q I h;refine wpAny_Call_Name_kw (gr I hg hm ?_ hdb);refine PySem.W.callWith_K (h₀:=X.base) I.ok.mod.kin hk (aB (ha pos pins s σ H _ I h) fun us s1 ⟨vs,H1,I1,r,q⟩=>⟨I1.kIn,?_⟩) he hpl;exact m9 F hr hb hd hx I1 r q
theorem wL (F:FnOk X.prog X.w X.K X.mg X.base CX k f fd ps sp)(hr:Room k X.A)(hg:Gl X x)(hm:X.mg x=some (.ref f))(hk:PySem.W.keepIn X.K (.ref f)=true)(hb:Binds X.K fd ps ds)(hd:Vals dvs ds)(hx:aQ CX X E)
  (hdb:(x == ("__debug__" : Str))=false:=by decide):PE X (.Call (.Name x p) [] [] pos) (eZ sp dvs E dZ):=by
 intro pins s σ H Q I h;refine wpAny_Call_Name_kw (gr I hg hm ?_ hdb);exact PySem.W.callWith_K0 I.kIn hk (m9 (us:=[]) F hr hb hd hx I .nil h)
theorem yU (he:PE X o ta)(c:Cls X.K C)(hm:Meth X.K C m f)(F:FnOk X.prog X.w X.K X.mg X.base CX k f fd ps sp)(hr:Room k X.A)(hb:Binds X.K fd ps ds)(hd:Vals dvs ds)(hx:aQ CX X E)(ha:PA X (e::es) t)
  (hst:starEach (e::es) X.env=(false,eval e X.env)::starEach es X.env:=by rfl)(hpl:(backTo pos (starEach es X.env)).any (·.1)=false:=by rfl)
  (ht:eval (.Call (.Attribute o m apos) (e::es) [] pos) X.env=(do
   let ov <-eval o X.env
   standAt apos.atName
   let (f,first) <-holding [ov] (getMethod ov m pl)
   callWith pos f first (backTo pos (starEach (e::es) X.env)) (backToKw pos (keywordEach [] X.env))):=by rfl) :
  PE X (.Call (.Attribute o m apos) (e::es) [] pos) (d6 C m sp dvs E ta t):=by
 intro pins s σ H Q I h;refine PySem.W.methodCall_KW (pl:=pl) (aB (he pins s σ H _ I h) fun u s1 hZz=>?_) ht;obtain⟨x,H1,I1,rx,a,dx,fs,ex,ea,l,q⟩:=hZz;subst ex;obtain rfl:u=Value.ref a:=rx;refine sf I1 ea c hm l ?_;refine PySem.W.callWith_K (first:=[.ref a]) (h₀:=X.base) I.ok.mod.kin hm.kp (aB (ha pos pins s1 σ H1 _ I1 q) fun us s2 ⟨vs,H2,I2,r,q2⟩=>⟨I2.kIn,?_⟩) hst hpl;exact m9 (us:=.ref a::us) (vs:=.ref a::vs) F hr hb hd hx I2 (.cons rfl r) q2
theorem C9 (he:PE X o ta)(c:Cls X.K C)(hm:Meth X.K C m f)(F:FnOk X.prog X.w X.K X.mg X.base CX k f fd ps sp)(hr:Room k X.A)(hb:Binds X.K fd ps ds)(hd:Vals dvs ds)(hx:aQ CX X E)
  (ht:eval (.Call (.Attribute o m apos) [] [] pos) X.env=(do
   let ov <-eval o X.env
   standAt apos.atName
   let (f,first) <-holding [ov] (getMethod ov m pl)
   callWith pos f first (backTo pos (starEach [] X.env)) (backToKw pos (keywordEach [] X.env))):=by rfl) :
  PE X (.Call (.Attribute o m apos) [] [] pos) (d6 C m sp dvs E ta dZ):=by
 intro pins s σ H Q I h;refine PySem.W.methodCall_KW (pl:=pl) (aB (he pins s σ H _ I h) fun u s1 hZz=>?_) ht;obtain⟨x,H1,I1,rx,a,dx,fs,ex,ea,l,q⟩:=hZz;subst ex;obtain rfl:u=Value.ref a:=rx;refine sf I1 ea c hm l ?_;exact PySem.W.callWith_K0 (first:=[.ref a]) I1.kIn hm.kp (m9 (us:=[.ref a]) (vs:=[.ref a]) F hr hb hd hx I1 (.cons rfl .nil) q)
structure Mk (K:aG)(C f:Addr):Prop where
 makes:PySem.W.makesIn K C=true
 init:PySem.W.findIn K (.ref C) "__init__" = some (some (.ref f))
 fn:PySem.W.isFn K (.ref f)=true
 kp:PySem.W.keepIn K (.ref C)=true
theorem rO (M:Mk X.K C f)(F:FnOk X.prog X.w X.K X.mg X.base CX k f fd ps sp)(hr:Room (k+1) X.A)(hb:Binds X.K fd ps ds)(hd:Vals dvs ds)
  (hx:aQ CX X E)(I:Inv X pins σ H s)(r:Vals vs us)
  (h:∀x dx,H x=none->H dx=none->dx≠x->sp (.ref x::(vs++dvs)) (upd (upd H dx (.own x)) x (.ins C dx [])) (fun v H2=>v=.non/\Q (.ref x) H2) (E σ)) :
  wpAny (model X.prog X.w) X.A (call (.ref C) us) (EP X pins σ Q) X.xe s:=by
 have hq:=h (s.heap.objs.size+1) s.heap.objs.size (I.hok.fresh (Nat.le_succ _)) (I.hok.fresh (aX _)) (cH (Nat.lt_succ_self _));have I2:=Inv.made (C:=C) I;have r2:Vals (V.ref (s.heap.objs.size+1)::(vs++dvs)) (Value.ref (s.heap.objs.size+1)::(us++ds)):=.cons rfl (r.append hd);have hl:(Value.ref (s.heap.objs.size+1)::us++ds).length=ps.length:=by
  have e:=r2.length;rw[F.len _ _ _ _ hq] at e;exact e.symm
 refine wpAny_call (EA (f:=f) I.kIn M.makes M.init (beq_iff_eq.mp M.fn) (codeAny_mono (F.run _ X.stack _ _ ⟨Value.ref (s.heap.objs.size+1)::us,[]⟩ (Value.ref (s.heap.objs.size+1)::(us++ds)) _ _ (E σ) (hr.make C us [])
  (I2.env0.make C us []) (hb _ (Value.ref (s.heap.objs.size+1)::us) I2.kIn hl) r2 hq) fun r s' hq'=>?_))
 cases r with
 | error e=>exact hx pins σ _ _ e s' I2 hq'
 | ok fl=>
  cases fl with
  | ret u=>
   obtain⟨v,H',I3,rv,ev,q3⟩:=I2.after hq';subst ev;exact⟨rv,⟨V.ref (s.heap.objs.size+1),H',I3,rfl,q3⟩⟩
  | next=>exact False.elim hq'
  | brk=>exact False.elim hq'
  | cont=>exact False.elim hq'
theorem yf (M:Mk X.K C f)(F:FnOk X.prog X.w X.K X.mg X.base CX k f fd ps sp)(hr:Room (k+1) X.A)(hg:Gl X x)(hm:X.mg x=some (.ref C))(hb:Binds X.K fd ps ds)(hd:Vals dvs ds)(hx:aQ CX X E)
  (ha:PA X (e::es) t)(hdb:(x == ("__debug__" : Str))=false:=by decide)(he:starEach (e::es) X.env=(false,eval e X.env)::starEach es X.env:=by rfl)(hpl:(backTo pos (starEach es X.env)).any (·.1)=false:=by rfl) :
  PE X (.Call (.Name x p) (e::es) [] pos) (fg C sp dvs E t):=by
 intro pins s σ H Q I h;refine wpAny_Call_Name_kw (gr I hg hm ?_ hdb);refine PySem.W.callWith_K (h₀:=X.base) I.ok.mod.kin M.kp (aB (ha pos pins s σ H _ I h) fun us s1 ⟨vs,H1,I1,r,q⟩=>⟨I1.kIn,?_⟩) he hpl;exact rO M F hr hb hd hx I1 r q
theorem Bz (M:Mk X.K C f)(F:FnOk X.prog X.w X.K X.mg X.base CX k f fd ps sp)(hr:Room (k+1) X.A)(hg:Gl X x)(hm:X.mg x=some (.ref C))(hb:Binds X.K fd ps ds)(hd:Vals dvs ds)(hx:aQ CX X E)
  (hdb:(x == ("__debug__" : Str))=false:=by decide):PE X (.Call (.Name x p) [] [] pos) (fg C sp dvs E dZ):=by
 intro pins s σ H Q I h;refine wpAny_Call_Name_kw (gr I hg hm ?_ hdb);exact PySem.W.callWith_K0 I.kIn M.kp (rO (us:=[]) M F hr hb hd hx I .nil h)
end
section
variable {X:Cx}{CX:fM}{k:Nat}{f C:Addr}{fd:FuncData}{ps ks:List Str}{sp:Sp}{E:St->XK}{x m:Str}{p pos apos kpos:Pos}{e o:Expr}{es:List Expr}{kws:List Keyword}{te ta:TE}{t tk:TA}{nm:Option Str}
variable {g:List Value->List Value->List Value}{gV:List V->List V->List V}
end
structure FnScope (N P:List Str)(sc:Scope):Prop where
 kind:sc.kind=.function
 co:sc.isCoroutine=false
 gen:sc.isGenerator=false
 nd:N.Nodup
 pre:N.take P.length=P
 par:∀x∈P,sc.names.lookup x=some .local\/sc.names.lookup x=some .cell
 nofree:∀y∈sc.names,y.2≠.free
theorem tV {kindOf:Str->Option NameKind}{x:Str}:∀{binds:List (Str×Value)} {m:Str->Option Value},(∀v,(x,v)∉binds)->bindL kindOf binds m x=m x
 | [],_,_=>rfl
 | (n,v)::r,m,h=>by
  unfold bindL;rw[tV fun w hw=>h w (List.mem_cons_of_mem _ hw)];split
  ·have:x≠n:=by rintro rfl; exact h v bD
   simp[this]
  ·rfl
theorem uD {kindOf:Str->Option NameKind}{x:Str}:∀{binds:List (Str×Value)} {m:Str->Option Value},(∀v,(x,v)∉binds)->bindC kindOf binds m x=m x
 | [],_,_=>rfl
 | (n,v)::r,m,h=>by
  unfold bindC;rw[uD fun w hw=>h w (List.mem_cons_of_mem _ hw)];split
  ·rfl
  ·have:x≠n:=by rintro rfl; exact h v bD
   simp[this]
theorem tE {kindOf:Str->Option NameKind}{x:Str}{v:Value}:∀{P:List Str} {vs:List Value} {i:Nat} {m:Str->Option Value},P.Nodup->P[i]? = some x->vs[i]? = some v->kindOf x=some .local ->
  bindL kindOf (P.zip vs) m x=some v
 | [],_,_,_,_,h,_,_=>by simp at h
 | _::_,[],_,_,_,_,h,_=>by simp at h
 | p::P,w::vs,0,m,nd,h1,h2,hk=>by
  simp at h1 h2; subst h1; subst h2;show bindL kindOf ((p,w)::P.zip vs) m p=_;unfold bindL;rw[tV fun v hv=>(List.nodup_cons.mp nd).1 (List.of_mem_zip hv).1,if_pos hk];simp
 | p::P,w::vs,i+1,m,nd,h1,h2,hk=>by
  show bindL kindOf ((p,w)::P.zip vs) m x=_;unfold bindL;exact tE (i:=i) (List.nodup_cons.mp nd).2 (by simpa using h1) (by simpa using h2) hk
theorem tN {kindOf:Str->Option NameKind}{x:Str}{v:Value}:∀{P:List Str} {vs:List Value} {i:Nat} {m:Str->Option Value},P.Nodup->P[i]? = some x->vs[i]? = some v->kindOf x≠some .local ->
  bindC kindOf (P.zip vs) m x=some v
 | [],_,_,_,_,h,_,_=>by simp at h
 | _::_,[],_,_,_,_,h,_=>by simp at h
 | p::P,w::vs,0,m,nd,h1,h2,hk=>by
  simp at h1 h2; subst h1; subst h2;show bindC kindOf ((p,w)::P.zip vs) m p=_;unfold bindC;rw[uD fun v hv=>(List.nodup_cons.mp nd).1 (List.of_mem_zip hv).1,if_neg hk];simp
 | p::P,w::vs,i+1,m,nd,h1,h2,hk=>by
  show bindC kindOf ((p,w)::P.zip vs) m x=_;unfold bindC;exact tN (i:=i) (List.nodup_cons.mp nd).2 (by simpa using h1) (by simpa using h2) hk
noncomputable def start (N:List Str)(vs:List V):St:=vs.map some++List.replicate (N.length - vs.length) none
noncomputable def dX (CX:fM)(P:Program)(w:World)(K:aG)(mg:Str->Option Value)(base:Heap)(N:List Str)(qual:Str)(scope:Scope)(f:Addr)(cd:Value)(A:Around)(outer:List Env)(s:Shared)(H:Hp)(E:XK):Cx where
 prog:=P
 w:=w
 K:=K
 mg:=mg
 base:=base
 A:=A.deeper (envOfC qual scope s.heap.objs.size f cd)
 N:=N
 s₀:=s
 H₀:=H
 env:=envOfC qual scope s.heap.objs.size f cd
 outer:=outer
 stack:=envOfC qual scope s.heap.objs.size f cd::outer
 ex:=[]
 calm:=true
 fn:=fun _=>true
 pn:=[]
 xe:=fun e s'=>wpAny (model P w) (A.deeper (envOfC qual scope s.heap.objs.size f cd)) (leaving (envOfC qual scope s.heap.objs.size f cd) e) (fun _ s''=>CX outer H s E e s'') (fun e' s''=>CX outer H s E e' s'') s'
theorem uY {sc:Scope}{n:Nat}{x:Str}(h:sc.names.lookup x=some .cell):∃c,(cellsFrom n sc.names []).lookup x=some c:=by
 have q:=PySem.W.cellsFrom_some sc.names n [] (.inl h);exact Option.isSome_iff_exists.mp q
theorem CO {CX:fM}{P:Program}{w:World}{K:aG}{mg:Str->Option Value}{base:Heap}{N ps:List Str}{qual:Str}{scope:Scope}{f:Addr}{cd:Value}{A:Around}{outer:List Env}{s s1:Shared}{H:Hp}{E:XK}{us:List Value}{vs:List V}
  (S:FnScope N ps scope)(hd:A.handled=none)(e0:Env0 P w K mg base A outer s H)(hl:vs.length=ps.length)(r:Vals vs us)
  (x:InCallC s s.heap.objs.size (bindL (envOfC qual scope s.heap.objs.size f cd).kindOf (ps.zip us) fun _=>none) (cellsFrom (s.heap.objs.size+1) scope.names []) (bindC (envOfC qual scope s.heap.objs.size f cd).kindOf (ps.zip us) fun _=>none) s1) :
  Inv (dX CX P w K mg base N qual scope f cd A outer s H E) [] (start N vs) H s1:=by
 have hpl:ps.length<=N.length:=by have:=congrArg List.length S.pre; rw[List.length_take] at this; omega
 obtain⟨h1,tk,rfl,hk⟩:=x.done;have noA:∀b:Addr,b∉(dX CX P w K mg base N qual scope f cd A outer s H E).ex:=fun b z=>absurd (show b∈([]:List Addr) from z) (by simp);refine⟨⟨e0.mod,S.kind,rfl,rfl,aX _,fun y z c h1 h2=>?_,fun y hy=>?_,fun y c _ h=>?_,fun _=>hd,Around.frames_deeper e0.frames,.inr ⟨rfl,rfl⟩,fun b z=>absurd z (noA b),e0.bs,e0.bsz,fun b _ _=>noA b,fun b z=>absurd z (noA b),e0.funs,e0.frf⟩,
  rfl,e0.bare,Un.kept hk,⟨_,x.toInCall.ns,fun i y v h1 h2 h3=>?_⟩,fun y c h=>⟨_,x.cell y c h⟩,e0.hok.fresh (aX _),fun y c h=>?_,fun p hp=>absurd (show p∈([]:List (Addr×Obj)) from hp) (by simp),e0.hok.kept hk,?_⟩
 ·exact name_of_addr x.apart (PySem.mem_of_lookup h1) (PySem.mem_of_lookup h2)
 ·have hy:scope.names.lookup y=some .cell\/scope.names.lookup y=some .free:=hy;rcases hy with hy | hy
  ·exact uY hy
  ·exact absurd rfl (S.nofree _ (PySem.mem_of_lookup hy))
 ·exact Nat.le_of_lt (x.above y c (PySem.mem_of_lookup h))
 ·have hi:i<vs.length:=by
   unfold start at h2;by_cases hi:i<vs.length
   ·exact hi
   ·rw[List.getElem?_append_right (by simpa using hi)] at h2;rw[List.getElem?_replicate] at h2;split at h2 <;> cases h2
  have ha:vs[i]? = some v:=by
   unfold start at h2;rw[List.getElem?_append_left (by simpa using hi),List.getElem?_map] at h2;cases e:vs[i]? with
   | none=>rw[e] at h2; cases h2
   | some a=>rw[e] at h2; cases h2; rfl
  obtain⟨u,hu,rv⟩:=r.get ha;have hp:ps[i]? = some y:=by
   rw[<-S.pre,List.getElem?_take_of_lt (by omega)]; exact h1
  have ndP:ps.Nodup:=by rw[<-S.pre]; exact S.nd.sublist (List.take_sublist _ _)
  refine⟨u,rv,?_⟩;rcases S.par y (List.mem_of_getElem? hp) with k | k
  ·exact .inl ⟨k,tE ndP hp hu k⟩
  ·obtain⟨c,e⟩:=uY (n:=s.heap.objs.size+1) k;refine .inr ⟨.inl k,c,e,?_⟩;have q:=x.cell y c e;rw[tN ndP hp hu (by show scope.names.lookup y≠_; rw[k]; decide)] at q;exact q
 ·exact e0.hok.fresh (Nat.le_of_lt (x.above y c (PySem.mem_of_lookup h)))
 ·unfold start;show _=N.length;rw[List.length_append,List.length_map,List.length_replicate];omega
theorem El {CX:fM}{P:Program}{w:World}{K:aG}{mg:Str->Option Value}{base:Heap}{k:Nat}{f:Addr}{name qual:Str}{params:Arguments}{body:List Stmt}{scope:Scope}{dV kV doc pm cdv ct oc:Value}{an od:Option Addr}
  {osl:Array (Option Value)}{N ps:List Str}{sp:Sp}(lk:K.lookup f=some ⟨oc,od,.func (PySem.W.fnOf name qual params body scope dV kV doc pm an cdv ct),osl⟩)(hcd:PySem.W.codeIn K cdv qual=true)(S:FnScope N ps scope)
  (len:∀vs H Q E,sp vs H Q E->vs.length=ps.length)
  (hbody:∀(A:Around) (outer:List Env) (s:Shared) (H:Hp) (vs:List V) (Q:VK) (E:XK),Room k (A.deeper (envOfC qual scope s.heap.objs.size f cdv))->sp vs H Q E ->
   ∃t,PSs (dX CX P w K mg base N qual scope f cdv A outer s H E) body t/\t { nx:=fun _ H'=>Q .non H',rt:=Q } (start N vs) H) :
  FnOk P w K mg base CX (k+1) f (PySem.W.fnOf name qual params body scope dV kV doc pm an cdv ct) ps sp:=by
 refine⟨len,fun A outer s H args us vs Q E hr e0 hb r hsp=>?_⟩;have hl:=len _ _ _ _ hsp;have KX:K.In s.heap:=e0.mod.kin.keeps fun b o e=>(e0.bs b o e).1;have lim:s.heap.NoLimit:=e0.mod.nolimit.keeps fun b o e=>(e0.bs b o e).1;have hkind:∀y∈ps.zip us,scope.names.lookup y.1=some .local\/(scope.names.lookup y.1=some .cell/\((cellsFrom (s.heap.objs.size+1) scope.names []).lookup y.1).isSome=true):=fun⟨n,v⟩ hy=>by
  rcases S.par n (List.of_mem_zip hy).1 with q | q
  ·exact .inl q
  ·exact .inr ⟨q,PySem.W.cellsFrom_some _ _ _ (.inl q)⟩
 refine codeAny_call_function hr.depth (KX _ _ lk) rfl S.co S.gen rfl (PySem.W.codeRec_of KX hcd) (hb _ _ _ _ ?_);refine wpAny_newFunctionEnv_cells S.kind hkind fun env he s1 x=>?_;subst he;refine⟨lim.keeps x.toInCall.keep,codeAny_func ?_⟩;obtain⟨t,ht,hq⟩:=hbody A outer s H vs Q E (hr.deeper _) hsp;have I:Inv (dX CX P w K mg base N qual scope f cdv A outer s H E) [] (start N vs) H s1:=CO S hr.hd e0 hl r x;refine wpAny_mono (ht [] s1 (start N vs) H _ I hq) (fun fl s' hs=>?_) fun e s' hs=>hs;have fin:∀{σ':St} {H':Hp} {v:V} {u:Value},Inv (dX CX P w K mg base N qual scope f cdv A outer s H E) [] σ' H' s'->RelV v u->Q v H'->CE outer P w H s Q u s':=
  fun {σ' H' v u} J rv q=>⟨v,H',J.os,J.bare,J.base,J.hok,rv,q⟩
 cases fl with
 | ret u=>
  obtain⟨v,σ',H',J,rv,q⟩:=hs;exact fin J rv q
 | next=>
  obtain⟨σ',H',J,q⟩:=hs;exact fin (v:=V.non) (u:=Value.none) J rfl q
 | brk=>
  obtain⟨_,_,_,q⟩:=hs;exact False.elim q
 | cont=>
  obtain⟨_,_,_,q⟩:=hs;exact False.elim q
end L2
namespace L2
open PySem PySem.Spec PyProof.Rows
section
variable {X:Cx}{x:Str}{p pos:Pos}{e:Expr}{es:List Expr}{t:TA}{id T:String}{r:List V->Hp->VK->Prop}
def kC (r:List V->Hp->VK->Prop)(t:TA):TE:=fun σ H Q=>t σ H fun vs H1=>r vs H1 Q
theorem je (hc:CallR X (.builtin id) r)(hg:Gl X x)(hm:X.mg x=none)(hv:bootBuiltins x=some (.builtin id))(ha:PA X (e::es) t)(hn:x ≠ "__name__":=by decide)(hdb:(x == ("__debug__" : Str))=false:=by decide)
  (he:starEach (e::es) X.env=(false,eval e X.env)::starEach es X.env:=by rfl)(hpl:(backTo pos (starEach es X.env)).any (·.1)=false:=by rfl):PE X (.Call (.Name x p) (e::es) [] pos) (kC r t):=by
 intro pins s σ H Q I h;refine wpAny_Call_Name_kw (ie I hg hm hv ?_ hn hdb);exact PyProof.Rows.callWith_builtin1 (aB (ha pos pins s σ H _ I h) fun us s1 ⟨vs,H1,I1,r1,q1⟩=>hc pins s1 σ H1 vs us Q I1 r1 q1) he hpl
theorem qt (hc:CallR X (.type T) r)(hg:Gl X x)(hm:X.mg x=none)(hv:bootBuiltins x=some (.type T))(ha:PA X (e::es) t)(hn:x ≠ "__name__":=by decide)(hdb:(x == ("__debug__" : Str))=false:=by decide)
  (he:starEach (e::es) X.env=(false,eval e X.env)::starEach es X.env:=by rfl)(hpl:(backTo pos (starEach es X.env)).any (·.1)=false:=by rfl):PE X (.Call (.Name x p) (e::es) [] pos) (kC r t):=by
 intro pins s σ H Q I h;refine wpAny_Call_Name_kw (ie I hg hm hv ?_ hn hdb);exact PyProof.Rows.callWith_type1 (aB (ha pos pins s σ H _ I h) fun us s1 ⟨vs,H1,I1,r1,q1⟩=>hc pins s1 σ H1 vs us Q I1 r1 q1) he hpl
end
end L2
namespace HT
open PySem PyProof.Rows
section
open PySem.SeqAt
open PySem.AutoSeq1 (wpAny_loadPart')
open PySem.MeetsSeq PySem.MeetsSeq2 PySem.MeetsSeq3
end
section
variable {prog:Program}{w:World}{A:Around}{E:Value->Shared->Prop}{s:Shared}
theorem cat_tup (ht:IsTup s.heap t vs.toArray)(hb:IsTup s.heap b ws.toArray)(hv:vs≠[])
  (h1:ws=[]->Q (.ref t) s)(h2:ws≠[]->Q (.ref s.heap.objs.size) { s with heap:=s.heap.push { cls:=.type "tuple",data:=.seq (vs++ws).toArray } })
  (hsz:vs.length+ws.length<=sizeLine):wpAny (model prog w) A (binaryOp .Add (.ref t) (.ref b)) Q E s:=by
 obtain⟨⟨cls,dd,data,sl⟩,ho,hc,n,hd⟩:=id ht;obtain⟨⟨cls2,dd2,data2,sl2⟩,ho2,hc2,n2,hd2⟩:=id hb;simp only at hc hd hc2 hd2;subst hc hd hc2 hd2;have e:vs.toArray++ws.toArray=(vs++ws).toArray:=by simp
 by_cases hw:ws=[]
 ·exact concat_meets ⟨_,ho,rfl⟩ ⟨_,ho2,rfl⟩ noFill_tuple_add seq_tuple_add PySem.F.slot_tuple_add PySem.F.entry_tuple_add (PySem.F.args_tuple_add_2 _ _)
   (tuple_addW1 t b vs.toArray ws.toArray n n2 dd dd2 sl sl2 (by simpa using hv) (by simp[hw])) ⟨ho,ho2,h1 hw⟩
 ·refine concat_meets ⟨_,ho,rfl⟩ ⟨_,ho2,rfl⟩ noFill_tuple_add seq_tuple_add PySem.F.slot_tuple_add PySem.F.entry_tuple_add (PySem.F.args_tuple_add_2 _ _)
   (tuple_addW2 t b vs.toArray ws.toArray n n2 dd dd2 sl sl2 (by simpa using hv) (by simpa using hw) (by rw[List.size_toArray,List.size_toArray]; exact hsz)) ⟨ho,ho2,?_⟩
  rw[e];exact h2 hw
noncomputable def sIx (n d:Nat):Option Int->Nat
 | none=>d
 | some v=>if v<0 then (v+(n:Int)).toNat else min v.toNat n
theorem yv (n d:Nat)(hd:d<=n)(o:Option Int):sIx n d o<=n:=by
 cases o with
 | none=>exact hd
 | some v=>
  show (if v<0 then (v+(n:Int)).toNat else min v.toNat n)<=n;by_cases hv:v<0
  ·rw[if_pos hv]; omega
  ·rw[if_neg hv]; exact Nat.min_le_right _ _
theorem uM (v:Int)(n d:Nat):(if v<0 then max (v+(n:Int)) 0 else min v (n:Int))=((sIx n d (some v):Nat):Int):=by
 show (if v<0 then max (v+(n:Int)) 0 else min v (n:Int))=(((if v<0 then (v+(n:Int)).toNat else min v.toNat n):Nat):Int);by_cases hv:v<0
 ·simp only[if_pos hv]; omega
 ·simp only[if_neg hv]; omega
theorem Ak (lo hi:Option Int)(n:Nat):Builtin.Slice.sliceAdjust lo hi 1 (n:Int)=(((sIx n 0 lo:Nat):Int),((sIx n n hi:Nat):Int)):=by
 have h1:¬((1:Int)<0):=by omega
 unfold Builtin.Slice.sliceAdjust;simp only[h1,if_false];refine Prod.ext ?_ ?_
 ·cases lo with
  | none=>rfl
  | some v=>exact uM v n 0
 ·cases hi with
  | none=>rfl
  | some v=>exact uM v n n
theorem y4 (i j:Nat):Builtin.Slice.slicePlaces (i:Int) (j:Int) 1=j - i:=by
 unfold Builtin.Slice.slicePlaces;have h1:(1:Int) > 0:=by omega
 simp only[h1,if_true,Int.ediv_one];split <;> omega
theorem sh (p:IsPart v o)(h:Q o s):wpAny (model prog w) A (Builtin.Slice.slicePartIndex v) Q E s:=by
 cases p with
 | none=>exact slicePart_none h
 | int i t=>exact slicePart_int h
theorem sliceApplied_gen {sl:Addr}{vl vu:Value}{lo hi:Option Int}{n:Nat}{Q:Int×Int×Nat->Shared->Prop}(hs:s.heap.IsSliceOf sl vl vu .none)(pl:IsPart vl lo)(pu:IsPart vu hi)
  (h:Q (((sIx n 0 lo:Nat):Int),1,sIx n n hi - sIx n 0 lo) s):wpAny (model prog w) A (Builtin.Slice.sliceApplied (.ref sl) (pure (n:Int))) Q E s:=by
 obtain⟨os,hos,hcs,hds⟩:=id hs;unfold Builtin.Slice.sliceApplied Builtin.Slice.sliceFields;refine af (af (wpAny_field hos hds (x:=vl) rfl (af (wpAny_field hos hds (x:=vu) rfl (af (wpAny_field hos hds (x:=.none) rfl (ay ?_)))))));refine af (slicePart_none ?_);show wpAny _ _ (if ((1:Int) == 0)=true then _ else _) _ _ s;rw[if_neg (by decide)];refine af (sh pl (af (sh pu (af (ay ?_)))));show wpAny _ _ (match Builtin.Slice.sliceAdjust lo hi 1 (n:Int) with | (lo,hi)=>pure (lo,(1:Int),Builtin.Slice.slicePlaces lo hi 1)) _ _ s;rw[Ak lo hi n];show wpAny _ _ (pure (((sIx n 0 lo:Nat):Int),(1:Int),Builtin.Slice.slicePlaces ((sIx n 0 lo:Nat):Int) ((sIx n n hi:Nat):Int) 1)) _ _ s;rw[y4];exact ay h
theorem Bp (xs:Array Value)(i k:Nat):((List.range k).filterMap fun (m:Nat)=>xs[((i:Int)+(m:Int) * 1).toNat]?).toArray=((xs.toList.drop i).take k).toArray:=by
 have e:(fun (m:Nat)=>xs[((i:Int)+(m:Int) * 1).toNat]?)=fun m=>xs[i+m]?:=by
  funext m
  have:((i:Int)+(m:Int) * 1).toNat=i+m:=by omega
  rw[this]
 rw[e];have:=pick_run xs i k;rw[List.filterMap_map] at this;have e2:((fun x=>xs[x]?) ∘ fun x=>i+x)=fun m=>xs[i+m]?:=rfl;rw[e2] at this;rw[this]
theorem getItem_tuple_cut {t sl:Addr}{items:Array Value}{vl vu:Value}{lo hi:Option Int}{Q:Value->Shared->Prop}(ht:IsTup s.heap t items)(hs:s.heap.IsSliceOf sl vl vu .none)(pl:IsPart vl lo)(pu:IsPart vu hi)
  (hw:¬(sIx items.size 0 lo=0/\sIx items.size items.size hi=items.size))
  (h:Q (.ref s.heap.objs.size) { s with heap:=s.heap.push { cls:=.type "tuple",data:=.seq ((items.toList.drop (sIx items.size 0 lo)).take (sIx items.size items.size hi - sIx items.size 0 lo)).toArray } })
  (hsz:items.size<=sizeLine):wpAny (model prog w) A (getItem (.ref t) (.ref sl)) Q E s:=by
 have htake:sizeOk (.seq ((items.toList.drop (sIx items.size 0 lo)).take (sIx items.size items.size hi - sIx items.size 0 lo)).toArray):=by
  show ((items.toList.drop (sIx items.size 0 lo)).take (sIx items.size items.size hi - sIx items.size 0 lo)).toArray.size<=sizeLine;rw[List.size_toArray,List.length_take,List.length_drop,Array.length_toList];omega
 have hj:sIx items.size items.size hi<=items.size:=yv _ _ (aX _) hi;obtain⟨os,hos,hcs,hds⟩:=id hs;have hTs:s.TypeIs (.ref sl) "slice":=⟨os,hos,hcs⟩
 unfold getItem;try with_reducible refine wpAny_holding ?_
 first | refine af (ay ?_) | skip
 refine af (wpAny_sequenceKey ht.typeIs (by decide) ?_);refine af (wpAny_callSpecial?_slot (name:=Str.ofString "__getitem__") ht.typeIs PyProof.Rows.slot_tuple_getitem
  (wpAny_call_entry PyProof.Rows.slot_tuple_getitem ht.typeIs entry_tuple_getitem ?_ (args_tuple_getitem _ _)))
 show wpAny _ _ (Builtin.Tuple.tupleItemsOf (.ref t) >>= _) _ _ s;refine af (tupleItemsOf_ ht ?_);refine af (wpAny_typeOf hTs ?_);rw[if_pos (by decide)];refine af (sliceApplied_gen hs pl pu ?_);have hno:¬((((sIx items.size 0 lo:Nat):Int) == 0&&(1:Int) == 1&&(sIx items.size items.size hi - sIx items.size 0 lo) == items.size)=true):=by
  intro q;rw[Bool.and_eq_true,Bool.and_eq_true] at q;have q1:((sIx items.size 0 lo:Nat):Int)=0:=eq_of_beq q.1.1;have q2:sIx items.size items.size hi - sIx items.size 0 lo=items.size:=eq_of_beq q.2;exact hw ⟨by omega,by omega⟩
 show wpAny _ _ (if (((sIx items.size 0 lo:Nat):Int) == 0&&(1:Int) == 1&&(sIx items.size items.size hi - sIx items.size 0 lo) == items.size)=true then _ else _) _ _ s;rw[if_neg hno,Bp];first
  | exact af (m:=Builtin.Tuple.tupleExact _) (wpAny_newObj_type (ay ⟨_,rfl,ay h⟩) htake)
  | exact af (m:=Builtin.Tuple.tupleExact _) (wpAny_newObj_type (af (ay (ay ⟨_,rfl,ay h⟩))) htake)
  | exact af (af (m:=Builtin.Tuple.tupleExact _) (wpAny_newObj_type (ay (ay ⟨_,rfl,ay h⟩)) htake))
  | exact af (af (m:=Builtin.Tuple.tupleExact _) (wpAny_newObj_type (ay ⟨_,rfl,ay h⟩) htake))
end
end HT
namespace L2
open PySem PySem.Spec PyProof.Rows
abbrev TO:=St->Hp->(Option Int->Hp->Prop)->Prop
def PO (X:Cx)(e:Option Expr)(t:TO):Prop:=
 ∀(pins:List (Addr×Obj)) (s:Shared) (σ:St) (H:Hp) (Q:Option Int->Hp->Prop),Inv X pins σ H s->t σ H Q ->
  wpAny (model X.prog X.w) X.A (evalPart e X.env) (fun u s'=>∃o H',Inv X pins σ H' s'/\IsPart u o/\Q o H') X.xe s
def gF:TO:=fun _ H Q=>Q none H
def mJ (t:TE):TO:=fun σ H Q=>t σ H fun x H1=>∃i,x=.int i/\Q (some i) H1
section
variable {X:Cx}{e:Expr}{te:TE}{lo hi:Option Expr}{tl th:TO}{pos p2:Pos}
theorem sD:PO X none gF:=by
 intro pins s σ H Q I h;rw[evalPart_none];exact ay ⟨none,H,I,.none,h⟩
theorem mV (h:PE X e te):PO X (some e) (mJ te):=by
 intro pins s σ H Q I hw;rw[evalPart_some];refine aB (h pins s σ H _ I hw) fun u s1 hZz=>?_;obtain⟨x,H1,I1,r1,q1⟩:=hZz;obtain⟨i,rfl,q⟩:=q1;obtain⟨t,rfl⟩:=r1;exact⟨some i,H1,I1,.int i t,q⟩
def lx (X:Cx)(r:V->Option Int->Option Int->Hp->VK->Prop):Prop:=
 ∀(pins:List (Addr×Obj)) (s:Shared) (σ:St) (H:Hp) (x:V) (v vl vu:Value) (lo hi:Option Int) (sl:Addr) (Q:VK),Inv X pins σ H s->RelV x v->s.heap.IsSliceOf sl vl vu .none->IsPart vl lo->IsPart vu hi->r x lo hi H Q ->
  ∃T id,typeLookup (.type T) "__getitem__" = pure (some (.builtin id))/\s.TypeIs v T/\wpAny (model X.prog X.w) X.A (getItem v (.ref sl)) (EP X pins σ Q) X.xe s
def BA (r:V->Option Int->Option Int->Hp->VK->Prop)(te:TE)(tl th:TO):TE:=fun σ H Q=>te σ H fun x H1=>tl σ H1 fun l H2=>th σ H2 fun u H3=>r x l u H3 Q
theorem qZ (hr:lx X r)(he:PE X e te)(hl:PO X lo tl)(hu:PO X hi th):PE X (.Subscript e (.Slice lo hi none p2) pos) (BA r te tl th):=by
 intro pins s σ H Q I h;refine Subscript_ (aB (he pins s σ H _ I h) fun v s1 hZz=>?_);obtain⟨x,H1,I1,r1,q1⟩:=hZz;refine wpAny_Slice (aB (hl pins s1 σ H1 _ I1 q1) fun vl s2 ⟨l,H2,I2,pl,q2⟩=>aB (hu pins s2 σ H2 _ I2 q2) fun vu s3 hZz=>?_);obtain⟨u,H3,I3,pu,q3⟩:=hZz;rw[evalPart_none];refine ay ?_;have I4:Inv X pins σ H3 { s3 with heap:=s3.heap.push { cls:=.type "slice",data:=.fields #[vl,vu,.none] } }:=I3.kept (t':=s3.toks) fun b ob q=>bz _ q;obtain⟨T,id,hT,ht,hg⟩:=hr pins { s3 with heap:=s3.heap.push { cls:=.type "slice",data:=.fields #[vl,vu,.none] } } σ H3 x v vl vu l u s3.heap.objs.size Q I4 r1 (Heap.IsSliceOf.new ..) pl pu q3;show wpAny (model X.prog X.w) X.A (subscriptTail e (.Slice lo hi none p2) v (.ref s3.heap.objs.size)) (EP X pins σ Q) X.xe { s3 with heap:=s3.heap.push { cls:=.type "slice",data:=.fields #[vl,vu,.none] } };exact tail_any (ops:=[.ref s3.heap.objs.size,v]) ht hT hg (by with_unfolding_all rfl)
noncomputable def c9 (xs:List V)(lo hi:Option Int):List V:=(xs.drop (HT.sIx xs.length 0 lo)).take (HT.sIx xs.length xs.length hi - HT.sIx xs.length 0 lo)
theorem tu (xs:List V)(lo hi:Option Int):(c9 xs lo hi).length<=xs.length:=by
 unfold c9;rw[List.length_take,List.length_drop];omega
def o9 (K:aG):V->Option Int->Option Int->Hp->VK->Prop:=fun x lo hi H Q=>∃a xs,x=.ref a/\SqT K H a xs /\
 ¬(HT.sIx xs.length 0 lo=0/\HT.sIx xs.length xs.length hi=xs.length)/\∀p,H p=none->Q (.ref p) (upd H p (.tup (c9 xs lo hi)))
theorem B2:lx X (o9 X.K):=by
 intro pins s σ H x v vl vu lo hi sl Q I rx hs pl pu h;obtain⟨a,xs,rfl,hx,hw,q⟩:=h;cases rx;obtain⟨its,r,ht,hz⟩:=I.tuple hx;have hlen:its.toArray.size=xs.length:=by rw[List.size_toArray]; exact r.length.symm
 refine⟨"tuple",_,PyProof.Rows.slot_tuple_getitem.lookup,ht.typeIs,?_⟩;refine HT.getItem_tuple_cut ht hs pl pu (by rw[hlen]; exact hw) ?_ (by rw[hlen]; exact hz);rw[hlen];refine⟨.ref s.heap.objs.size,_,I.laid (t':=s.toks) (o:=.tup (c9 xs lo hi)) (fun b ob q=>bz _ q) (aX _) ?_,rfl,q _ (I.hok.fresh (aX _))⟩;exact⟨br (tu xs lo hi) hz,_,(r.drop (HT.sIx xs.length 0 lo)).take (HT.sIx xs.length xs.length hi - HT.sIx xs.length 0 lo),TupN.new _ _⟩
def mE (K:aG):R2:=fun x y H Q=>∃a b xs ys,x=.ref a/\y=.ref b/\SqT K H a xs/\SqT K H b ys/\xs≠[]/\xs.length+ys.length<=sizeLine /\
 (ys=[]->Q (.ref a) H)/\(ys≠[]->∀p,H p=none->Q (.ref p) (upd H p (.tup (xs++ys))))
theorem Vals.nil_iff (r:Vals xs us):us=[]↔xs=[]:=by
 cases r with
 | nil=>simp
 | cons _ _=>simp
theorem AB:OpR X (binaryOp .Add) (mE X.K):=by
 intro pins s σ H x y v u Q I rx ry h;obtain⟨a,b,xs,ys,rfl,rfl,ha,hb,hx,hz,q1,q2⟩:=h;cases rx;cases ry;obtain⟨its,r1,p1,_⟩:=I.tuple ha;obtain⟨its2,r2,p2,_⟩:=I.tuple hb;refine HT.cat_tup p1 p2 (fun z=>hx (r1.nil_iff.mp z)) (fun z=>⟨.ref a,H,I,rfl,q1 (r2.nil_iff.mp z)⟩) (fun z=>?_) (by rw[<-r1.length,<-r2.length]; exact hz);refine⟨.ref s.heap.objs.size,_,I.laid (t':=s.toks) (o:=.tup (xs++ys)) (fun b ob q=>bz _ q) (aX _) ?_,rfl,q2 (fun w=>z (r2.nil_iff.mpr w)) _ (I.hok.fresh (aX _))⟩;exact⟨by rw[List.length_append]; exact hz,_,r1.append r2,TupN.new _ _⟩
end
end L2
namespace L2
open PySem PySem.Spec PyProof.Rows
noncomputable def kE (n:Nat)(i:Int):Option Nat:=if 0<=i then (if i<n then some i.toNat else none) else if -(n:Int)<=i then some (i+n).toNat else none
noncomputable def kX {α:Type}(xs:List α)(i:Int):Option α:=(kE xs.length i).bind fun j=>xs[j]?
theorem uo (h:kE n i=some j):seqIndex? i n=some j/\j<n /\ -(n:Int)<=i/\i<n:=by
 unfold kE at h;by_cases h0:0<=i
 ·rw[if_pos h0] at h;by_cases h1:i<n
  ·rw[if_pos h1] at h;have e:i.toNat=j:=bO h;exact⟨by rw[seqIndex_of h0 h1,e],by omega,by omega,h1⟩
  ·rw[if_neg h1] at h; cases h
 ·rw[if_neg h0] at h;by_cases h1 : -(n:Int)<=i
  ·rw[if_pos h1] at h;have e:(i+n).toNat=j:=bO h;exact⟨by rw[seqIndex_neg (by omega) h1,e],by omega,h1,by omega⟩
  ·rw[if_neg h1] at h; cases h
theorem u0 (h:kX xs i=some v):∃j,seqIndex? i xs.length=some j/\xs[j]? = some v/\j<xs.length /\ -(xs.length:Int)<=i/\i<xs.length:=by
 unfold kX at h;cases e:kE xs.length i with
 | none=>rw[e] at h; cases h
 | some j=>
  rw[e] at h;obtain⟨h1,h2,h3,h4⟩:=uo e;exact⟨j,h1,h,h2,h3,h4⟩
def eY (b:Expr):Prop:=∀o i,subscripted b false o i=operate [o,i] (getItem o i)
def mY (X:Cx)(r:R2):Prop:=
 ∀(value slice:Expr) (pins:List (Addr×Obj)) (s:Shared) (σ:St) (H:Hp) (x y:V) (v u:Value) (Q:VK),Inv X pins σ H s->RelV x v->RelV y u->r x y H Q ->
  subscripted slice false v u=operate [v,u] (getItem v u)->wpAny (model X.prog X.w) X.A (subscriptTail value slice v u) (EP X pins σ Q) X.xe s
def mT (X:Cx)(id:String)(r:V->List V->Hp->VK->Prop):Prop:=
 ∀(pins:List (Addr×Obj)) (s:Shared) (σ:St) (H:Hp) (x:V) (xs:List V) (v:Value) (us:List Value) (Q:VK),Inv X pins σ H s->RelV x v->Vals xs us->r x xs H Q ->
  wpAny (model X.prog X.w) X.A (call (.builtin id) (v::us)) (EP X pins σ Q) X.xe s
section
variable {X:Cx}{a b:Expr}{ta tb:TE}{pos:Pos}
theorem B7 (hr:mY X r)(ha:PE X a ta)(hb:PE X b tb)(hs:eY b):PE X (.Subscript a b pos) (kP r ta tb):=by
 intro pins s σ H Q I h;exact Subscript_ (iZ ha hb I h fun v u s2 x y H2 I2 rx ry q=>hr a b pins s2 σ H2 x y v u Q I2 rx ry q (hs _ _))
def pL (K:aG):R2:=fun x y H Q=>∃p xs i v,x=.ref p/\y=.int i/\SqL K H p xs/\kX xs i=some v/\Q v H
def oN (K:aG):R2:=fun x y H Q=>∃p xs i v,x=.ref p/\y=.int i/\SqT K H p xs/\kX xs i=some v/\Q v H
theorem ER:mY X (pL X.K):=by
 intro value slice pins s σ H x y v u Q I rx ry h hs;obtain⟨p,xs,i,z,rfl,rfl,hq,he,q⟩:=h;cases rx;obtain⟨t,rfl⟩:=ry;obtain⟨its,r,pl,hz⟩:=I.list hq;obtain⟨j,h1,h2,h3,h4,h5⟩:=u0 he;obtain⟨w,ew,rw'⟩:=r.get h2;have hl:=r.length;have hn:=dH;have fin:EP X pins σ Q w s:=⟨z,H,I,rw',q⟩
 by_cases h0:0<=i
 ·have hj:i.toNat=j:=by
   rw[seqIndex_of h0 h5] at h1;exact bO h1
  exact item_listR pl.isList h0 (by omega) (by rw[hj]; simpa using ew) fin hs
 ·have hj:(i+(its.toArray.size:Int)).toNat=j:=by
   rw[seqIndex_neg (by omega) h4] at h1;rw[List.size_toArray,<-hl];exact bO h1
  exact subscriptTail_builtinR (x:=w) pl.isList.typeIs slot_list_getitem.lookup
   (wpAny_getItem_list_neg (Q:=fun r s'=>r=w/\EP X pins σ Q r s') pl.isList (by omega) (by rw[List.size_toArray] <;> omega) (by omega) (by rw[hj]; simpa using ew) ⟨rfl,fin⟩) hs
theorem AH:mY X (oN X.K):=by
 intro value slice pins s σ H x y v u Q I rx ry h hs;obtain⟨p,xs,i,z,rfl,rfl,hq,he,q⟩:=h;cases rx;obtain⟨t,rfl⟩:=ry;obtain⟨its,r,pl,hz⟩:=I.tuple hq;obtain⟨j,h1,h2,h3,h4,h5⟩:=u0 he;obtain⟨w,ew,rw'⟩:=r.get h2;have hl:=r.length;have hn:=dH;have fin:EP X pins σ Q w s:=⟨z,H,I,rw',q⟩
 exact subscriptTail_builtinR (x:=w) pl.typeIs slot_tuple_getitem.lookup
  (getItem_tuple (j:=j) (Q:=fun r s'=>r=w/\EP X pins σ Q r s') pl (by omega) (by omega) (by rw[List.size_toArray,<-hl]; exact h1) (by simpa using ew) ⟨rfl,fin⟩) hs
theorem Dr (its:List Value)(n j:Nat)(u:Value):Obj.mapSeq (·.setIfInBounds j u) { cls:=.type "list",data:=.seq its.toArray n }={ cls:=.type "list",data:=.seq (its.set j u).toArray n }:=by
 simp[Obj.mapSeq]
theorem Inv.lst (I:Inv X pins σ H s)(h:H p=some (.lst xs)) :
  ∃(its:List Value) (n:Nat),Vals xs its/\s.heap.get? p=some { cls:=.type "list",data:=.seq its.toArray n }/\xs.length<=sizeLine:=by
 obtain⟨z,its,n,r,e⟩:=I.hok p _ h;exact⟨its,n,r,e,z⟩
theorem Inv.lstUpd {pins:List (Addr×Obj)}{σ:St}{H:Hp}{s:Shared}{p:Addr}{xs ys:List V}{its its':List Value}{n n':Nat}{f:Obj->Obj}(I:Inv X pins σ H s)(h:H p=some (.lst xs))
  (ho:s.heap.get? p=some { cls:=.type "list",data:=.seq its.toArray n })(hf:f { cls:=.type "list",data:=.seq its.toArray n }={ cls:=.type "list",data:=.seq its'.toArray n' })(r:Vals ys its')(hz:ys.length<=sizeLine)(t:Nat) :
  Inv X pins σ (upd H p (.lst ys)) { s with heap:=s.heap.update p f,toks:=t }:=by
 have e:(s.heap.update p f).get? p=some { cls:=.type "list",data:=.seq its'.toArray n' }:=by
  rw[Heap.get?_update_self f ho (by rw[hf] <;> rfl),hf]
 refine I.write (x:=p) (e:=p) (by rw[h]; trivial) (.inl rfl) (fun b u hb q=>(Heap.get?_update_other _ _ (Ne.symm hb)).trans q) ⟨_,e⟩ ?_;exact⟨hz,its',n',r,e⟩
def l9:V->V->V->Hp->(Hp->Prop)->Prop:=fun o i v H Q=>∃p xs k j,o=.ref p/\i=.int k/\H p=some (.lst xs)/\kE xs.length k=some j/\Q (upd H p (.lst (xs.set j v)))
theorem set_list:o6 X l9:=by
 intro pins s σ H o i v ov iv u Q I ro ri rv h;obtain⟨p,xs,k,j,rfl,rfl,hp,hj,q⟩:=h;cases ro;obtain⟨t,rfl⟩:=ri;obtain⟨its,n,r,ho,hz⟩:=I.lst hp;obtain⟨h1,h2,h3,h4⟩:=uo hj;have hl:=r.length;have hn:=dH;have I':Inv X pins σ (upd H p (.lst (xs.set j v))) { s with heap:=s.heap.update p (Obj.mapSeq (·.setIfInBounds j u)) }:=
  I.lstUpd hp ho (Dr its n j u) (r.set rv j) (by rw[List.length_set]; exact hz) s.toks
 by_cases h0:0<=k
 ·have hk:k.toNat=j:=by
   rw[seqIndex_of h0 h4] at h1;exact bO h1
  exact PySem.W.ki_setAt ho h0 (by omega) (by rw[List.size_toArray,<-hl]; exact h4) (by rw[hk]; exact⟨_,I',q⟩)
 ·have hk:(k+(its.toArray.size:Int)).toNat=j:=by
   rw[seqIndex_neg (by omega) h3] at h1;rw[List.size_toArray,<-hl];exact bO h1
  exact PySem.W.ki_setBack ho (by omega) (by rw[List.size_toArray,<-hl]; exact h3) (by omega) (by rw[hk]; exact⟨_,I',q⟩)
theorem Cz (lo hi:Option Int)(n:Nat):(sliceBounds lo hi none n).1=((HT.sIx n 0 lo:Nat):Int)/\(sliceBounds lo hi none n).2.1=((HT.sIx n n hi:Nat):Int)/\(sliceBounds lo hi none n).2.2=1:=by
 refine⟨?_,?_,rfl⟩
 ·cases lo with
  | none=>simp[sliceBounds,HT.sIx]
  | some i=>
   simp only[sliceBounds,HT.sIx,Option.getD_none,show (1:Int) > 0 by decide,if_true];by_cases h:i<0
   ·simp only[h,if_true] <;> omega
   ·simp only[h,if_false] <;> omega
 ·cases hi with
  | none=>simp[sliceBounds,HT.sIx]
  | some i=>
   simp only[sliceBounds,HT.sIx,Option.getD_none,show (1:Int) > 0 by decide,if_true];by_cases h:i<0
   ·simp only[h,if_true] <;> omega
   ·simp only[h,if_false] <;> omega
theorem Ct (its:List Value)(lo hi:Option Int):slicePick its.toArray lo hi none=((its.drop (HT.sIx its.length 0 lo)).take (HT.sIx its.length its.length hi - HT.sIx its.length 0 lo)).toArray:=by
 obtain⟨h1,h2,h3⟩:=Cz lo hi its.toArray.size;unfold slicePick;rw[h1,h2,h3];simp only[sliceRange_one,pick_run,List.size_toArray] <;> rfl
def ot (K:aG):V->Option Int->Option Int->Hp->VK->Prop:=fun x lo hi H Q=>∃a xs,x=.ref a/\SqL K H a xs/\∀p,H p=none->Q (.ref p) (upd H p (.lst (c9 xs lo hi)))
theorem zi:lx X (ot X.K):=by
 intro pins s σ H x v vl vu lo hi sl Q I rx hs pl pu h;obtain⟨a,xs,rfl,hx,q⟩:=h;cases rx;obtain⟨its,r,ht,hz⟩:=I.list hx;have hlen:=r.length;refine⟨"list",_,slot_list_getitem.lookup,ht.isList.typeIs,?_⟩;refine wpAny_getItem_list_slice ht.isList hs pl pu .none (by simp) ?_ (by rw[List.size_toArray] <;> omega);rw[Ct,<-hlen];refine⟨.ref s.heap.objs.size,_,I.laid (t':=s.toks) (o:=.lst (c9 xs lo hi)) (fun b ob q=>bz _ q) (aX _) ?_,rfl,q _ (I.hok.fresh (aX _))⟩;exact⟨br (tu xs lo hi) hz,_,0,(r.drop (HT.sIx xs.length 0 lo)).take (HT.sIx xs.length xs.length hi - HT.sIx xs.length 0 lo),cR _ rfl⟩
noncomputable def flatV:V->Bool
 | .non=>true
 | .bl _=>true
 | .int _=>true
 | .str _=>true
 | _=>false
noncomputable def eqV:V->V->Bool
 | .non,.non=>true
 | .bl a,.bl b=>a == b
 | .bl a,.int b=>(if a then 1 else 0) == b
 | .int a,.bl b=>a == (if b then 1 else 0)
 | .int a,.int b=>a == b
 | .str a,.str b=>a == b
 | _,_=>false
theorem wg (ry:RelV y u)(rx:RelV x v)(fy:flatV y=true)(fx:flatV x=true):SeqAt.EqAt A s u v (eqV y x):=by
 cases y with
 | non=>
  cases ry;cases x with
  | non=>cases rx; exact SeqAt.EqAt.same _
  | bl b=>cases rx; exact SeqAt.EqAt.none_bool b
  | int b=>obtain⟨t,rfl⟩:=rx; exact SeqAt.EqAt.none_int b t
  | str b=>obtain⟨t,rfl⟩:=rx; exact SeqAt.EqAt.none_str b t
  | _=>exact absurd (show false=true from fx) Bool.false_ne_true
 | bl a=>
  cases ry;cases x with
  | non=>cases rx; exact SeqAt.EqAt.bool_none a
  | bl b=>cases rx; exact SeqAt.EqAt.bool_bool a b
  | int b=>obtain⟨t,rfl⟩:=rx; exact SeqAt.EqAt.bool_int a b t
  | str b=>obtain⟨t,rfl⟩:=rx; exact SeqAt.EqAt.bool_str a b t
  | _=>exact absurd (show false=true from fx) Bool.false_ne_true
 | int a=>
  obtain⟨t',rfl⟩:=ry;cases x with
  | non=>cases rx; exact SeqAt.EqAt.int_none a t'
  | bl b=>cases rx; exact SeqAt.EqAt.int_bool a t' b
  | int b=>obtain⟨t,rfl⟩:=rx; exact SeqAt.EqAt.int_int a t' b t
  | str b=>obtain⟨t,rfl⟩:=rx; exact SeqAt.EqAt.int_str a t' b t
  | _=>exact absurd (show false=true from fx) Bool.false_ne_true
 | str a=>
  obtain⟨t',rfl⟩:=ry;cases x with
  | non=>cases rx; exact SeqAt.EqAt.str_none a t'
  | bl b=>cases rx; exact SeqAt.EqAt.str_bool a t' b
  | int b=>obtain⟨t,rfl⟩:=rx; exact SeqAt.EqAt.str_int a t' b t
  | str b=>obtain⟨t,rfl⟩:=rx; exact SeqAt.EqAt.str_str a t' b t
  | _=>exact absurd (show false=true from fx) Bool.false_ne_true
 | _=>exact absurd (show false=true from fy) Bool.false_ne_true
noncomputable def dq (x:V)(u:Value):Bool:=match u with
 | .none=>eqV .non x
 | .bool b=>eqV (.bl b) x
 | .int i _=>eqV (.int i) x
 | .str z _=>eqV (.str z) x
 | _=>false
theorem kZ (r:RelV y u)(f:flatV y=true):dq x u=eqV y x:=by
 cases y with
 | non=>cases r; rfl
 | bl b=>cases r; rfl
 | int i=>obtain⟨t,rfl⟩:=r; rfl
 | str z=>obtain⟨t,rfl⟩:=r; rfl
 | _=>exact absurd (show false=true from f) Bool.false_ne_true
theorem md:∀{xs:List V} {us:List Value},Vals xs us->xs.all flatV=true->us.any (dq x)=xs.any fun y=>eqV y x
 | _,_,.nil,_=>rfl
 | y::xs,u::us,.cons r t,f=>by
  rw[List.all_cons,Bool.and_eq_true] at f;rw[List.any_cons,List.any_cons,kZ r f.1,md t f.2]
theorem iN (rx:RelV x v)(fx:flatV x=true):∀{xs:List V} {us:List Value},Vals xs us->xs.all flatV=true->∀u∈us,SeqAt.EqAt A s u v (dq x u)
 | _,_,.nil,_=>fun u hu=>by cases hu
 | y::xs,u::us,.cons r t,f=>fun u' hu=>by
  rw[List.all_cons,Bool.and_eq_true] at f;rcases bN hu with rfl | hu
  ·rw[kZ r f.1]; exact wg r rx f.1 fx
  ·exact iN rx fx t f.2 u' hu
noncomputable def inV (x:V)(xs:List V):Bool:=xs.any fun y=>eqV y x
def qo (K:aG)(neg:Bool):R2:=fun x y H Q=>∃p xs,y=.ref p/\(SqL K H p xs\/SqT K H p xs)/\flatV x=true/\xs.all flatV=true/\Q (.bl (if neg then !inV x xs else inV x xs)) H
theorem C8:OpR X (compareOp .In) (qo X.K false):=by
 intro pins s σ H x y v u Q I rx ry h;obtain⟨p,xs,rfl,hq,fx,fs,q⟩:=h;cases ry;rcases hq with hq | hq
 ·obtain⟨its,r,pl,hz⟩:=I.list hq;refine SeqAt.in_listAt (dq x) pl.isList (fun w hw=>iN rx fx r fs w (by simpa using hw)) ⟨.bl _,H,I,rfl,?_⟩;rw[show its.toArray.any (dq x)=its.any (dq x) by simp,md r fs];exact q
 ·obtain⟨its,r,pl,hz⟩:=I.tuple hq;refine SeqAt.in_tupleAt (dq x) pl (fun w hw=>iN rx fx r fs w (by simpa using hw)) ⟨.bl _,H,I,rfl,?_⟩;rw[show its.toArray.any (dq x)=its.any (dq x) by simp,md r fs];exact q
theorem AV:OpR X (compareOp .NotIn) (qo X.K true):=by
 intro pins s σ H x y v u Q I rx ry h;obtain⟨p,xs,rfl,hq,fx,fs,q⟩:=h;cases ry;rcases hq with hq | hq
 ·obtain⟨its,r,pl,hz⟩:=I.list hq;refine SeqAt.notIn_listAt (dq x) pl.isList (fun w hw=>iN rx fx r fs w (by simpa using hw)) ⟨.bl _,H,I,rfl,?_⟩;rw[show its.toArray.any (dq x)=its.any (dq x) by simp,md r fs];exact q
 ·obtain⟨its,r,pl,hz⟩:=I.tuple hq;refine SeqAt.notIn_tupleAt (dq x) pl (fun w hw=>iN rx fx r fs w (by simpa using hw)) ⟨.bl _,H,I,rfl,?_⟩;rw[show its.toArray.any (dq x)=its.any (dq x) by simp,md r fs];exact q
theorem B3:CallR X (.builtin "len") (fun xs H Q=>∃p ys,xs=[.ref p]/\(SqL X.K H p ys\/SqT X.K H p ys)/\Q (.int ys.length) H):=by
 intro pins s σ H xs us Q I r h;obtain⟨p,ys,rfl,hq,q⟩:=h;obtain⟨u,rfl,rx⟩:=vals1 r;cases rx;have hn:=dH;rcases hq with hq | hq
 ·obtain⟨its,r',pl,hz⟩:=I.list hq;have hlen:=r'.length;exact Calls.call_len_list pl.isList (by simp only[List.size_toArray] <;> omega) ⟨.int ys.length,H,I.tok _,⟨s.toks+1,by rw[List.size_toArray,hlen]⟩,q⟩
 ·obtain⟨its,r',pl,hz⟩:=I.tuple hq;have hlen:=r'.length;exact len_tuple pl (by simp only[List.size_toArray] <;> omega) ⟨.int ys.length,H,I.tok _,⟨s.toks+1,by rw[List.size_toArray,hlen]⟩,q⟩
theorem BE:CallR X (.type "list") (fun xs H Q=>∃p ys,xs=[.ref p]/\(SqL X.K H p ys\/SqT X.K H p ys)/\∀l,H l=none->Q (.ref l) (upd H l (.lst ys))):=by
 intro pins s σ H xs us Q I r h;obtain⟨p,ys,rfl,hq,q⟩:=h;obtain⟨u,rfl,rx⟩:=vals1 r;cases rx;have fin:∀(its:List Value),Vals ys its->ys.length<=sizeLine->∀(h':Heap) (c':Nat),(∀b o',s.heap.get? b=some o'->h'.get? b=some o') ->
   h'.get? s.heap.objs.size=some { cls:=.type "list",dict:=none,data:=.seq its.toArray c',slots:=#[] }->EP X pins σ Q (.ref s.heap.objs.size) { s with heap:=h' }:=fun its r' hz h' c' kp e=>
  ⟨.ref s.heap.objs.size,_,I.laid (t':=s.toks) kp (aX _) (show ObjOk X.prog X.w _ h' _ (.lst ys) from ⟨hz,its,c',r',e⟩),rfl,q _ (I.hok.fresh (aX _))⟩
 rcases hq with hq | hq
 ·obtain⟨its,r',pl,hz⟩:=I.list hq;have hlen:=r'.length;obtain⟨o,ho,hc,n,hd⟩:=pl.isList;exact call_list_seq p (.inl rfl) ho hc hd (fun h' c' kp e=>fin its r' hz h' c' kp e) (by simp only[List.size_toArray] <;> omega)
 ·obtain⟨its,r',pl,hz⟩:=I.tuple hq;have hlen:=r'.length;obtain⟨o,ho,hc,n,hd⟩:=pl;exact call_list_seq p (.inr rfl) ho hc hd (fun h' c' kp e=>fin its r' hz h' c' kp e) (by simp only[List.size_toArray] <;> omega)
theorem wF:CallR X (.type "tuple") (fun xs H Q=>∃p ys,xs=[.ref p]/\((SqL X.K H p ys/\∀l,H l=none->Q (.ref l) (upd H l (.tup ys)))\/(SqT X.K H p ys/\Q (.ref p) H))):=by
 intro pins s σ H xs us Q I r h;obtain⟨p,ys,rfl,h⟩:=h;obtain⟨u,rfl,rx⟩:=vals1 r;cases rx;rcases h with ⟨hq,q⟩ | ⟨hq,q⟩
 ·obtain⟨its,r',pl,hz⟩:=I.list hq;have hlen:=r'.length;refine call_tuple_list pl.isList (fun h' kp=>?_) (by simp only[List.size_toArray] <;> omega);have I1:Inv X pins σ H { s with heap:=h' }:=I.kept (t':=s.toks) kp;have I2:Inv X pins σ (upd H h'.objs.size (.tup ys)) { s with heap:=h'.push { cls:=.type "tuple",data:=.seq its.toArray } }:=
   I1.laid (t':=s.toks) (fun b o e=>bz _ e) (aX _) (show ObjOk X.prog X.w _ _ _ (.tup ys) from ⟨hz,its,r',TupN.new _ _⟩)
  exact⟨.ref h'.objs.size,_,I2,rfl,q _ (I1.hok.fresh (aX _))⟩
 ·obtain⟨its,r',pl,hz⟩:=I.tuple hq;exact call_tuple_same pl ⟨.ref p,H,I,rfl,q⟩
def tyV (K:aG)(T:String)(x:V)(H:Hp):Prop:=match x with
 | .str _=>T = "str"
 | .int _=>T = "int"
 | .ref p=>(T = "list" /\ ∃xs,SqL K H p xs)\/(T = "tuple" /\ ∃xs,SqT K H p xs) \/
   (T = "dict" /\ ((∃kvs,H p=some (.dK kvs))\/∃kvs,H p=some (.dT kvs)))\/(T = "set" /\ ∃S n,H p=some (.set S n))
 | _=>False
theorem yw (I:Inv X pins σ H s)(r:RelV x v)(ty:tyV X.K T x H) :
  s.TypeIs v T/\∀a,v=.ref a->∃ob,s.heap.get? a=some ob/\ob.dict=none:=by
 cases x with
 | str z=>
  obtain⟨t,rfl⟩:=r;cases (show T = "str" from ty);exact⟨typeIs_str s z t,fun _ e=>nomatch e⟩
 | int i=>
  obtain⟨t,rfl⟩:=r;cases (show T = "int" from ty);exact⟨typeIs_int s i t,fun _ e=>nomatch e⟩
 | ref p=>
  cases r;rcases ty with ⟨rfl,xs,hq⟩ | ⟨rfl,xs,hq⟩ | ⟨rfl,hk⟩ | ⟨rfl,S,n,hk⟩
  ·obtain⟨its,_,pl,_⟩:=I.list hq;refine⟨pl.isList.typeIs,fun a e=>?_⟩;cases e;obtain⟨o,n,e,c,hd,_⟩:=pl;exact⟨o,e,hd⟩
  ·obtain⟨its,_,⟨o,e,c,_,d⟩,_⟩:=I.tupN hq;refine⟨⟨o,e,c⟩,fun a e2=>?_⟩;cases e2;exact⟨o,e,d⟩
  ·have z:∃o,s.heap.get? p=some o/\o.ExactDict:=by
    rcases hk with ⟨kvs,hk⟩ | ⟨kvs,hk⟩
    ·obtain⟨_,_,_,_,o,_,_,e,ex,_⟩:=I.hok p _ hk;exact⟨o,e,ex⟩
    ·obtain⟨_,_,_,_,o,_,_,e,ex,_⟩:=I.hok p _ hk;exact⟨o,e,ex⟩
   obtain⟨o,e,ex⟩:=z;refine⟨⟨o,e,ex.1⟩,fun a e2=>?_⟩;cases e2;exact⟨o,e,ex.2.1⟩
  ·obtain⟨o,_,_,_,e,ex,_⟩:=I.hok p _ hk;refine⟨⟨o,e,ex.1⟩,fun a e2=>?_⟩;cases e2;exact⟨o,e,ex.2.1⟩
 | _=>exact False.elim ty
def fN (K:aG)(T:String)(r:V->List V->Hp->VK->Prop)(to:TE)(t:TA):TE:=fun σ H Q=>to σ H fun x H1=>tyV K T x H1/\t σ H1 fun xs H2=>r x xs H2 Q
variable {o e:Expr}{es:List Expr}{to:TE}{t:TA}{name:Str}{apos cpos:Pos}{T id:String}{r:V->List V->Hp->VK->Prop}
theorem mh (pa:PlainAttrs T)(slot:Slot T name id)(hty:typeOf (.builtin id)=pure (.type "method_descriptor"))(hm:mT X id r)(ho:PE X o to)(ha:PA X (e::es) t)
  (hbase:attributeBase o name X.env (eval o X.env)=eval o X.env:=by rfl)
  (hfew:((backTo cpos (starEach (e::es) X.env)).all (fun x=>!x.1)&&(backToKw cpos (keywordEach [] X.env)).all (fun x=>x.1.isSome)
   && decide ((e::es).length+([]:List Keyword).length+(if ([]:List Keyword).isEmpty then 0 else 1)<30))=true:=by rfl)
  (hline:(apos.endLine == cpos.line)=true:=by rfl)(hs:starEach (e::es) X.env=(false,eval e X.env)::starEach es X.env:=by rfl)(hplain:(backTo cpos (starEach es X.env)).any (·.1)=false:=by rfl) :
  PE X (.Call (.Attribute o name apos) (e::es) [] cpos) (fN X.K T r to t):=by
 intro pins s σ H Q I h;refine wpAny_Call_method_late hbase hfew hline rfl (aB (ho pins s σ H _ I h) fun v s1 hZz=>?_);obtain⟨x,H1,I1,r1,ty,q1⟩:=hZz;obtain⟨h1,h2⟩:=yw I1 r1 ty;refine⟨T,id,pa,slot,hty,h1,h2,?_⟩;have hA:=ha cpos pins s1 σ H1 _ I1 q1;rw[hs] at hA ⊢;refine Calls.callWith_builtin (by show (false||(backTo cpos (starEach es X.env)).any (·.1))=false; rw[hplain] <;> rfl) (Calls.evalArgs_plain ?_);exact aB hA fun us s2 ⟨vs,H2,I2,r2,q2⟩=>hm pins s2 σ H2 x vs v us Q I2 r1 r2 q2
end
end L2
namespace L2
open PySem PySem.Spec PyProof.Rows
def t5 (X:Cx)(id:String)(r:V->List V->Hp->VK->Prop):Prop:=
 ∀(pins:List (Addr×Obj)) (s:Shared) (σ:St) (H:Hp) (x:V) (xs:List V) (v:Value) (us:List Value) (Q:VK),Inv X pins σ H s->RelV x v->Vals xs us->r x xs H Q ->
  wpAny (model X.prog X.w) X.A (call (.builtin id) (v::us)) (EP X pins σ Q) X.xe s
theorem Vals.one:∀{x:V} {us:List Value},Vals [x] us->∃u,us=[u]/\RelV x u
 | _,_,.cons r .nil=>⟨_,rfl,r⟩
theorem Vals.rep (h:Vals xs us):∀k:Nat,Vals (List.replicate k xs).flatten (List.replicate k us).flatten
 | 0=>.nil
 | k+1=>by
  rw[List.replicate_succ,List.replicate_succ,List.flatten_cons,List.flatten_cons];exact Vals.append h (Vals.rep h k)
theorem vI (its:List Value):∀(k:Nat) (acc:List Value),
  List.foldl (fun x1 x2=>x1++x2) acc.toArray (List.replicate k its.toArray)=(acc++(List.replicate k its).flatten).toArray
 | 0,acc=>by simp
 | k+1,acc=>by
  have e:acc.toArray++its.toArray=(acc++its).toArray:=by simp
  have e2:(acc++its)++(List.replicate k its).flatten=acc++(List.replicate (k+1) its).flatten:=by
   rw[List.replicate_succ,List.flatten_cons,List.append_assoc]
  rw[<-e2,<-vI its k (acc++its),<-e,List.replicate_succ,List.foldl_cons]
section
variable {X:Cx}{pins:List (Addr×Obj)}{σ:St}{H:Hp}{s:Shared}{l b:Addr}{xs ys zs:List V}
theorem Inv.lset {its its':List Value}{n:Nat}{f:Array Value->Array Value}{t':Nat}(I:Inv X pins σ H s)(hH:H l=some (.lst xs))
  (e:s.heap.get? l=some { cls:=.type "list",data:=.seq its.toArray n })(hf:f its.toArray=its'.toArray)(hv:Vals ys its')(hz:ys.length<=sizeLine) :
  Inv X pins σ (upd H l (.lst ys)) { s with heap:=s.heap.update l (Obj.mapSeq f),toks:=t' }:=by
 have q:=PySem.IsL.update e f;rw[hf] at q;refine I.write (x:=l) (e:=l) (by rw[hH]; exact trivial) (.inl rfl) (fun b' u hb hu=>(Heap.get?_update_other s.heap (Obj.mapSeq f) (Ne.symm hb)).trans hu) ⟨_,q⟩ ?_;exact⟨hz,its',_,hv,q⟩
theorem Inv.lnew (I:Inv X pins σ H s)(hv:Vals ys its)(hz:ys.length<=sizeLine) :
  Inv X pins σ (upd H s.heap.objs.size (.lst ys)) { s with heap:=s.heap.push { cls:=.type "list",data:=.seq its.toArray },toks:=t' }:=
 I.laid (fun _ _ q=>bz _ q) (aX _) ⟨hz,its,0,hv,cR _ rfl⟩
theorem Inv.fresh (I:Inv X pins σ H s):H s.heap.objs.size=none:=I.hok.fresh (aX _)
theorem Inv.lstM (I:Inv X pins σ H s)(hH:H l=some (.lst xs)):xs.length<=sizeLine/\∃(its:List Value) (n:Nat),Vals xs its/\xs.length=its.length/\s.heap.get? l=some { cls:=.type "list",data:=.seq its.toArray n }:=by
 obtain⟨z,its,n,r,e⟩:=I.hok l _ hH;exact⟨z,its,n,r,r.length,e⟩
theorem xV (h:n<=sizeLine):Builtin.List.listTooLong n=false:=by
 unfold Builtin.List.listTooLong;exact decide_eq_false (by omega)
end
section
variable {X:Cx}
def fc:V->List V->Hp->VK->Prop:=fun x vs H Q=>∃l xs y,x=.ref l/\vs=[y]/\H l=some (.lst xs)/\xs.length<sizeLine/\Q .non (upd H l (.lst (xs++[y])))
theorem sd:t5 X "list.append" fc:=by
 intro pins s σ H x vs v us Q I rx rv h;obtain⟨l,xs,y,rfl,rfl,hH,hz,q⟩:=h;cases rx;obtain⟨u,rfl,ru⟩:=rv.one;obtain⟨z,its,n,r,hl,e⟩:=I.lstM hH;refine call_meets F.slot_list_append ⟨_,e,rfl⟩ F.entry_list_append (F.args_list_append_2 _ _) (PySem.list_append l its.toArray n u (by rw[List.size_toArray]; omega)) ⟨e,?_⟩;refine⟨.non,_,I.lset (its':=its++[u]) hH e (by simp) (r.append (.cons ru .nil)) ?_,rfl,q⟩;rw[List.length_append,List.length_singleton];omega
theorem vn (xs:List α)(k:Nat):(List.replicate k xs).flatten.length=k * xs.length:=by
 induction k with
 | zero=>simp
 | succ k ih=>rw[List.replicate_succ,List.flatten_cons,List.length_append,ih,Nat.succ_mul,Nat.add_comm]
end
section
variable {prog:Program}{w:World}{A:Around}{E:Value->Shared->Prop}{s:Shared}
end
section
variable {X:Cx}
end
end L2
namespace Att
open PySem PySem.W PySem.Calls PyProof.Rows
theorem Br:∀(ns:List Int) (vs:List Value),WellAll P h vs (ns.map WData.int)->IntsAre vs ns:=by
 intro ns;induction ns with
 | nil=>
  intro vs w;rw[List.map_nil] at w;cases w;exact .nil
 | cons n ns ih=>
  intro vs w;rw[List.map_cons] at w;cases w with
  | cons a b=>
   cases a;exact .cons _ _ (ih _ b)
theorem BZ {l:OpenLaw}{n:Nat}(hn:l.most=some n){P:Params}{h:Heap}{args:List WData}{vals:List Value}
  (hpre:l.row.toRowW.claim.pre args=true)(hwl:WellAll P h vals args) :
  ∃a vs ns,vals=[Value.ref a]/\args=[WData.list (ns.map WData.int)]/\h.get? a=some { cls:=.type "list",data:=.seq vs.toArray }/\IntsAre vs ns/\ns.length<=n:=by
 have hsh:WShape.hasAll [] args [.list .int]=true:=(pre_splitW hpre).1;have hc:l.pre.holds [] { args:=args }=true:=(pre_splitW hpre).2;obtain⟨d,r,rfl,h1,h2⟩:=hasAllW_cons hsh;obtain rfl:=hasAllW_nil h2;obtain⟨xs,rfl,h3⟩:=hasW_list h1;obtain⟨ns,rfl⟩:=items_int h3;have hlen:ns.length<=n:=by
  unfold OpenLaw.pre at hc;have h4:(WTm.not (.lt (.lit (.int (n:Int))) (.len (.arg 0)))).holds [] { args:=[.list (ns.map .int)] }=true:=by
   have h4:=(holds_andW hc).1;rw[hn] at h4;exact h4
  have h5:=condW_of h4 (w_not (w_lt w_lit (w_len_list (w_arg rfl))));rw[List.length_map] at h5;refine Nat.le_of_not_lt fun q=>?_;have q':(n:Int)<((ns.length:Nat):Int):=by omega
  first
   | (rw[decide_eq_true q'] at h5; exact absurd h5 (by decide))
   | (simp at h5; omega)
 cases hwl with
 | cons w1 w2=>
  cases w2;cases w1 with
  | list ho hall=>exact⟨_,_,ns,rfl,rfl,ho,Br ns _ hall,hlen⟩
theorem wU (l:OpenLaw)(args:List WData):l.row.toRowW.claim.post args (.bool true) args=true:=
 postW_of (r:=l.row.toRowW) (X:=(true == true))
  (show WShape.has [] (.bool true) .bool=true by first | rfl | decide | simp[WShape.has,WShape.arms,WShape.armsAll])
  (show (WTm.eq .res (.lit (.bool true))).value [] { args:=args,res:=some (.bool true),after:=args }=some (.bool (true == true)) from w_eq_bool (w_res rfl) w_lit) rfl
theorem attach_call {l:OpenLaw}{n:Nat}{q:Program}{loose:List Str}{XP:(Str->Option Value)->Heap->Prop}{YP:World->Heap->Prop}{d:DefRec}
  (hn:l.most=some n)(hdf:d.params.defaults=[])
  (call:∀(w:World) (s₀ s₁:Shared) (mg mb:Str->Option Value) (fa:Addr) (o:Obj) (pm cd doc:Value) (a:Addr) (vs:List Value) (ns:List Int),
   Ground q loose [] XP w s₀ mg mb s₁.heap->YP w s₁.heap ->
   s₁.heap.get? fa=some o->o.data=.func (docDef d.name d.params d.body d.scope pm cd doc)->s₁.heap.CodeRec cd d.name->mg d.name=some (.ref fa) ->
   s₁.heap.get? a=some { cls:=.type "list",data:=.seq vs.toArray }->IntsAre vs ns->ns.length<=n->s₁.gens = #[] ->
   codeAny (model l.prog w) callerA (.call (.ref fa) ⟨[.ref a],[]⟩) (fun r s'=>r=.ok (.ret (.bool true))/\OldK s₁.heap s'.heap/\s'.os=s₁.os/\AllBare s'.gens) s₁) :
  WalkO q loose XP YP l.row.toRowW d [] (fun f vs=>PySem.call f vs):=by
 intro w s₀ s₁ mg mb G Y fa o pm cd doc dV kV ho hd hcd hD hmg hg args vals as hpre hlay hrd hwl hlo;obtain rfl:dV=.none:=Dflts.none hD hdf;obtain rfl:kV=.none:=Dflts.noKw hD;obtain⟨a,vs,ns,rfl,rfl,hobj,hints,hlen⟩:=BZ hn hpre hwl;refine enter_call (codeAny_mono (call w s₀ s₁ mg mb fa o pm cd doc a vs ns G Y ho (fd_plain hd) hcd hmg hobj hints hlen hg) fun r s' hq=>?_);obtain⟨rfl,h2,h3,h4⟩:=hq;exact⟨.inl ⟨.bool true,.bool true,[],rfl,fun _=>rfl,.bool true,wU l _,fun _=>⟨List.Pairwise.nil,fun _ hm=>(nomatch hm)⟩⟩,h2,h3,h4⟩
section
variable {prog:Program}{w:World}{A:Around}{E:Value->Shared->Prop}{s:Shared}{K:Frag}
end
end Att
namespace L2
open PySem PySem.Spec PyProof.Rows
theorem vG:∀{vs:List Value} {ns:List Int},IntsAre vs ns->Vals (ns.map V.int) vs
 | _,_,.nil=>.nil
 | _,_,.cons n t h=>.cons ⟨t,rfl⟩ (vG h)
def jy (H:Hp):Prop:=∀b,H b=none\/∃o xs,H b=some (.frz o (.lst xs))
theorem Ev {P:Program}{w:World}{K:aG}{mg mb:Str->Option Value}{CX:fM}{k:Nat}{fa a:Addr}{fd:FuncData}{x:Str}{sp:Sp}{s₁:Shared}{vs:List Value}{ns:List Int}
  (KX:K.In s₁.heap)(hns:s₁.heap.Ns mainGlobals mg)(hb:s₁.heap.Ns builtinsNs mb)(hbb:∀x:Str,x ≠ "__name__" -> mb x=bootBuiltins x)(hlim:s₁.heap.NoLimit)(hg:s₁.gens = #[])
  (ha:s₁.heap.get? a=some { cls:=.type "list",data:=.seq vs.toArray })(hi:IntsAre vs ns)(hl:ns.length<=sizeLine)(hr:Room k callerA)
  (F:∀base:Heap,K.In base->base.Ns mainGlobals mg->FnOk P w K mg base CX k fa fd [x] sp)(hbind:∀(s:Shared) (u:Value),BindsTo s fd ⟨[u],[]⟩ [(x,u)])
  (hsp:∀H:Hp,jy H->SqL K H a (ns.map V.int)->sp [.ref a] H (fun v _=>v=.bl true) fun _ _ _=>False)
  (hCX:∀H e s',CX [] H s₁ (fun _ _ _=>False) e s'->False) :
  codeAny (model P w) callerA (.call (.ref fa) ⟨[.ref a],[]⟩) (fun r s'=>r=.ok (.ret (.bool true))/\OldK s₁.heap s'.heap/\s'.os=s₁.os/\AllBare s'.gens) s₁:=by
 have rv:=vG hi;have lenV:=hi.length;have core:∀H:Hp,jy H->SqL K H a (ns.map V.int)->HOk P w H s₁.heap->(∀b,H b≠none->b=a)->(H a≠none->K.lookup a=none) ->
   codeAny (model P w) callerA (.call (.ref fa) ⟨[.ref a],[]⟩) (fun r s'=>r=.ok (.ret (.bool true))/\OldK s₁.heap s'.heap/\s'.os=s₁.os/\AllBare s'.gens) s₁:=by
  intro H hO hS hok hA hK;have base_of:∀{b:Addr} {o:Obj},s₁.heap.get? b=some o->H b=none->(dN s₁.heap H).get? b=some o:=fun e n=>xu e n;have noA:∀{b:Addr} {o:Obj} {es:Array DictEntry} {ep:Nat},s₁.heap.get? b=some o->o.data=.dict es ep->H b=none:=fun {b o es ep} e d=>by
   cases q:H b with
   | none=>rfl
   | some u=>
    have e':b=a:=hA b (by rw[q]; simp);subst e';rw[ha] at e; cases e;have d':Data.seq vs.toArray _=Data.dict es ep:=d;cases d'
  have nsK:∀{b:Addr} {m:Str->Option Value},s₁.heap.Ns b m->(dN s₁.heap H).Ns b m:=fun {b m} ⟨o,es,ep,e,d,r⟩=>⟨o,es,ep,base_of e (noA e d),d,r⟩
  have hKb:K.In (dN s₁.heap H):=fun b o e=>base_of (KX b o e) (by
   cases q:H b with
   | none=>rfl
   | some u=>
    have e':b=a:=hA b (by rw[q]; simp);subst e';rw[hK (by rw[q]; simp)] at e; cases e)
  have hM:Mod K mg (dN s₁.heap H):=⟨hKb,nsK hns,⟨mb,nsK hb,hbb⟩,let ⟨mc,h1,h2⟩:=hlim; ⟨mc,nsK h1,h2⟩⟩
  have e0:Env0 P w K mg (dN s₁.heap H) callerA [] s₁ H:=⟨rfl,hM,fun b o e=>AW e,Nat.le_of_eq (Dg _ _),trivial,fun b hb=>absurd (show b∈([]:List Addr) from hb) (by simp),hok,.of_eq hg⟩
  refine codeAny_mono ((F _ hKb (nsK hns)).run callerA [] s₁ H ⟨[.ref a],[]⟩ [.ref a] [.ref a] _ _ hr e0 (hbind s₁ (.ref a)) (.cons rfl .nil) (hsp H hO hS)) fun r s' h=>?_;cases r with
  | error e=>exact (hCX H e s' h).elim
  | ok fl=>
   cases fl with
   | next=>exact False.elim h
   | brk=>exact False.elim h
   | cont=>exact False.elim h
   | ret u=>
    obtain⟨v,H',os,bare,un,hok',r',q⟩:=h;have q':v=.bl true:=q;subst q';obtain rfl:u=Value.bool true:=r';refine⟨rfl,OldK.of_keep fun b o e=>?_,os,bare⟩;cases q:H b with
    | none=>exact un.keep b o e q (by intro z; exact absurd (show b∈([]:List Addr) from z) (by simp)) (by simp)
    | some u=>
     rcases hO b with z | ⟨ob,xs,z⟩
     ·rw[q] at z; cases z
     ·have z2:=un.frzs b ob _ z;obtain⟨e1,_⟩:=hok b _ z;obtain⟨e2,_⟩:=hok' b _ z2;rw[e] at e1; cases e1;exact e2
 cases hk:K.lookup a with
 | some o=>
  have e:=KX a o hk;rw[ha] at e;cases e;refine core (fun _=>none) (fun _=>.inl rfl) (.inr ⟨_,vs.toArray,_,hk,rfl,rfl,rfl,by rw[List.size_toArray,lenV]; exact hl,by simpa using rv⟩) (fun b u z=>by have z':(none:Option HO)=some u:=z; cases z') (fun b z=>absurd rfl z) fun z=>absurd rfl z
 | none=>
  refine core (fun b=>if b=a then some (.frz { cls:=.type "list",data:=.seq vs.toArray } (.lst (ns.map V.int))) else none) (fun b=>?_) (.inl (.inr ⟨{ cls:=.type "list",data:=.seq vs.toArray },if_pos rfl⟩)) (fun b u z=>?_) (fun b z=>?_) fun _=>hk
  ·by_cases hb:b=a
   ·exact .inr ⟨_,_,if_pos hb⟩
   ·exact .inl (if_neg hb)
  ·by_cases hb:b=a
   ·have z':=(if_pos hb).symm.trans z;cases z';subst hb;exact⟨ha,by rw[List.length_map]; exact hl,vs,_,rv,ha⟩
   ·have z':=(if_neg hb).symm.trans z;cases z'
  ·by_cases hb:b=a
   ·exact hb
   ·exact absurd (if_neg hb) z
end L2
namespace L2
open PySem PySem.Spec PyProof.Rows
end L2
namespace L2
open PySem PySem.Spec PyProof.Rows
noncomputable def bI (s:Stmt)(j:Nat):Stmt:=match s with
 | .ClassDef _ _ _ body _ _ _ _ _ _ _=>body.getD j (.Pass ⟨0,0,0,0⟩)
 | _=>.Pass ⟨0,0,0,0⟩
noncomputable def aj (s:Stmt):Arguments:=match s with
 | .FunctionDef _ a _ _ _ _ _ _ _ _=>a
 | _=>{ posonlyargs:=[],args:=[],vararg:=none,kwonlyargs:=[],kw_defaults:=[],kwarg:=none,defaults:=[] }
noncomputable def av (s:Stmt):List Stmt:=match s with
 | .FunctionDef _ _ b _ _ _ _ _ _ _=>b
 | _=>[]
noncomputable def bA (s:Stmt):Scope:=match s with
 | .FunctionDef _ _ _ _ _ _ sc _ _ _=>sc
 | _=>{ kind:=.function,names:=[],isGenerator:=false,isCoroutine:=false }
abbrev E0:St->XK:=fun _ _ _ _=>False
section
variable {P:Program}{w:World}{K:aG}{mg:Str->Option Value}{base:Heap}
end
theorem oV (h:n<=1000):n<sizeLine:=Nat.lt_of_le_of_lt h (by decide)
section
variable {X:Cx}
end
def Same (H H':Hp):Prop:=∀b o,H b=some o->H' b=some o
theorem Same.trans (a:Same H H1)(b:Same H1 H2):Same H H2:=fun c o h=>b c o (a c o h)
theorem Same.free (e:Same H H')(h:H' l=Option.none):H l=Option.none:=by
 cases q:H l with
 | none=>rfl
 | some o=>
  rw[e l o q] at h;cases h
theorem Same.seq {K:aG}{H H':Hp}{a:Addr}{xs:List V}(e:Same H H')(h:SqL K H a xs):SqL K H' a xs:=by
 rcases h with (h | ⟨o,h⟩) | h
 ·exact .inl (.inl (e _ _ h))
 ·exact .inl (.inr ⟨o,e _ _ h⟩)
 ·exact .inr h
end L2
end
section
namespace L2
open PySem PySem.W Builtin Builtin.ObjectAttr
structure Fly (h:Heap)(e T:Addr)(fl:Value):Prop where
 ex:∃oe vs oT ts,h.get? e=some oe/\oe.data=.fields vs/\vs[1]? = some (.ref T)/\h.get? T=some oT/\oT.data=.fields ts/\ts[3]? = some fl
 ne:T≠e
structure XStep (fr:List Addr)(e:Addr)(ch:List Addr)(h h':Heap):Prop where
 size:h.objs.size<=h'.objs.size
 keep:∀b o,h.get? b=some o->b≠e->b∉fr->b∉ch->h'.get? b=some o
 slot:∀b o,h.get? b=some o->b≠e->b∈fr->b∉ch->∃sl,h'.get? b=some { o with slots:=sl }
 exc:∀oe vs,h.get? e=some oe->oe.data=.fields vs->∃vs':Array Value,h'.get? e=some { oe with data:=.fields vs' }/\vs'.size=vs.size/\vs'[0]? = vs[0]?
 there:∀b o,h.get? b=some o->b≠e->∃o',h'.get? b=some o'
theorem AM {o:Obj}{vs:Array Value}(hd:o.data=.fields vs)(f:Array Value->Array Value):o.mapFields f={ o with data:=.fields (f vs) }:=by
 obtain⟨c,d,dt,sl⟩:=o; subst hd; rfl
theorem XStep.trans (a:XStep fr e ch h1 h2)(b:XStep fr e ch h2 h3):XStep fr e ch h1 h3 where
 size:=br a.size b.size
 keep:=fun c o z n1 n2 n3=>b.keep c o (a.keep c o z n1 n2 n3) n1 n2 n3
 slot:=fun c o z n1 n2 n3=>by
  obtain⟨sl,z1⟩:=a.slot c o z n1 n2 n3;obtain⟨sl',z2⟩:=b.slot c _ z1 n1 n2 n3;exact⟨sl',z2⟩
 exc:=fun oe vs z hd=>by
  obtain⟨v1,z1,e1,e2⟩:=a.exc oe vs z hd;obtain⟨v2,z2,e3,e4⟩:=b.exc _ v1 z1 rfl;exact⟨v2,z2,e3.trans e1,e4.trans e2⟩
 there:=fun c o z n1=>by
  obtain⟨o1,z1⟩:=a.there c o z n1;exact b.there c o1 z1 n1
theorem XStep.mono (a:XStep fr e ch h1 h2)(hf:∀b∈fr,b∈fr')(hc:∀b∈ch,b∈ch'):XStep fr' e ch' h1 h2 where
 size:=a.size
 keep:=fun c o z n1 n2 n3=>a.keep c o z n1 (fun q=>n2 (hf c q)) fun q=>n3 (hc c q)
 slot:=fun c o z n1 n2 n3=>by
  by_cases q:c∈fr
  ·exact a.slot c o z n1 q fun q=>n3 (hc c q)
  ·exact⟨o.slots,a.keep c o z n1 q fun q=>n3 (hc c q)⟩
 exc:=a.exc
 there:=a.there
section
variable {M:Model}{A:Around}{E:Value->Shared->Prop}{s:Shared}{base:Heap}{env:Env}{outer:List Env}{L e T:Addr}{Q:Unit->Shared->Prop}
theorem nG {oe:Obj}{vs:Array Value}{i:Nat}{x:Value}(he:s.heap.get? e=some oe)(hd:oe.data=.fields vs)(hi:i<vs.size)
  (hQ:∀h',h'.objs.size=s.heap.objs.size->h'.get? e=some { oe with data:=.fields (vs.setIfInBounds i x) }->(∀b,b≠e->h'.get? b=s.heap.get? b)->Q () { s with heap:=h' }):wpAny M A (setField (.ref e) i x) Q E s:=by
 refine wpAny_setField he hd hi (hQ _ (Heap.size_after_update ..) ?_ fun b hb=>Heap.get?_update_other _ _ (Ne.symm hb));rw[<-AM hd (fun ws=>ws.setIfInBounds i x)];exact Heap.get?_update_self _ he (Obj.isFreed_of_fields (Obj.data_mapFields hd _))
theorem sO (hfr:A.frames=some (env::outer))(hl:s.heap.FunFrames base (env::outer))(hf:env.frame=some L)
  (he:s.heap.get? e=some oe)(hd:oe.data=.fields vs)(hz:1<vs.size)
  (hQ:∀h',Fly h' e s.heap.objs.size (rawInt L)->XStep ((env::outer).filterMap (·.frame)) e [] s.heap h'->Q () { s with heap:=h' }) :
  wpAny M A (do let a <-frameOf env; let pl <-entryPlaceOf L hadNext; let b <-EntryCells.newEntry head a .none (rawInt L) .none pl; setField (.ref e) 1 b) Q E s:=by
 have nfr:e∉(env::outer).filterMap (·.frame):=fun hm=>by
  obtain⟨_,o,ho,hnf⟩:=hl.mem hm;rw[he] at ho;cases ho;exact hnf vs hd
 refine af (wpAny_frameOf_fun hfr hl hf fun h1 so=>af (wpAny_entryPlaceOf fun pl hpl=>?_));have z1:h1.get? e=some oe:=(so.2.1 e nfr).trans he;unfold EntryCells.newEntry newFields;refine af (wpAny_newObj_type ?_ (hpl.sizeOk5 _ _ _ _ _));generalize hto:({ cls:=.type "traceback",dict:=none,data:=.fields ([head,.ref L,.none,rawInt L,.none]++(if pl.isEmpty then List.replicate 6 Value.none else pl)).toArray }:Obj)=to;have dto:to.data=.fields ([head,.ref L,.none,rawInt L,.none]++(if pl.isEmpty then List.replicate 6 Value.none else pl)).toArray:=by rw[<-hto]
 have nft:to.isFreed=false:=Obj.isFreed_of_fields dto;refine nG (bz _ z1) hd hz fun h2 sz2 g2 k2=>?_;have lte:e<h1.objs.size:=bn z1;have gT:h2.get? h1.objs.size=some to:=(k2 _ (Nat.ne_of_gt lte)).trans (cR _ nft);have sz1:h1.objs.size=s.heap.objs.size:=so.1;rw[<-sz1] at hQ;refine hQ h2 ⟨⟨_,_,to,_,g2,rfl,by simp[hz],gT,dto,by simp⟩,Nat.ne_of_gt lte⟩ ⟨?_,fun b o z n1 n2 _=>?_,fun b o z n1 _ _=>?_,fun o ws z hw=>?_,fun b o z n1=>?_⟩
 ·rw[sz2];show s.heap.objs.size<=(h1.push to).objs.size;rw[Heap.size_push,sz1];omega
 ·rw[k2 b n1];exact bz _ ((so.2.1 b n2).trans z)
 ·obtain⟨sl,q⟩:=so.2.2 b o z;exact⟨sl,by rw[k2 b n1]; exact bz _ q⟩
 ·rw[he] at z;cases z;rw[hd] at hw;cases hw;exact⟨_,g2,by simp,by rw[Array.getElem?_setIfInBounds_ne (by decide)]⟩
 ·obtain⟨sl,q⟩:=so.2.2 b o z;exact⟨_,by rw[k2 b n1]; exact bz _ q⟩
theorem sJ (hfr:A.frames=some (env::outer))(hl:s.heap.FunFrames base (env::outer))(hf:env.frame=some L)(he:s.heap.get? e=some oe)(hd:oe.data=.fields vs)(h1:vs[1]? = some .none)
  (hQ:∀h',Fly h' e s.heap.objs.size (rawInt L)->XStep ((env::outer).filterMap (·.frame)) e [] s.heap h'->Q () { s with heap:=h' }):wpAny M A (noteFrame (.ref e) env) Q E s:=by
 unfold noteFrame;simp only[hf];refine af (wpAny_field he hd h1 ?_);rw[if_neg (by decide)];exact sO hfr hl hf he hd (Array.getElem?_eq_some_iff.mp h1).1 hQ
theorem rH (hfr:A.frames=some (env::outer))(hl:s.heap.FunFrames base (env::outer))(hf:env.frame=some L)(F:Fly s.heap e T .none)
  (hQ:∀h',Fly h' e s.heap.objs.size (rawInt L)->XStep ((env::outer).filterMap (·.frame)) e [T] s.heap h'->Q () { s with heap:=h' }):wpAny M A (noteFrame (.ref e) env) Q E s:=by
 obtain⟨⟨oe,vs,oT,ts,he,hd,h1,hT,hdT,h3⟩,hne⟩:=F;unfold noteFrame;simp only[hf];refine af (wpAny_field he hd h1 ?_);rw[if_pos (show (Value.ref T != Value.none)=true from by simp)];refine af (wpAny_field hT hdT h3 ?_);rw[if_neg (show ¬((Value.none == rawInt L)=true) from by simp[rawInt])];refine af (nG hT hdT (Array.getElem?_eq_some_iff.mp h3).1 fun h1' sz1 g1 k1=>?_);have nT:∀b o,s.heap.get? b=some o->(∀vs,o.data≠.fields vs)->b≠T:=fun b o hb hnf z=>by
  rw[z,hT] at hb;cases hb;exact hnf ts hdT
 have st:XStep ((env::outer).filterMap (·.frame)) e [T] s.heap h1':=⟨Nat.le_of_eq sz1.symm,fun b o z _ _ n=>by rw[k1 b (by simpa using n)]; exact z,fun b o z _ _ n=>⟨o.slots,by rw[k1 b (by simpa using n)]; exact z⟩,
  fun o ws z hw=>⟨ws,by rw[k1 e (Ne.symm hne),z,<-hw],rfl,rfl⟩,fun b o z _=>by
   by_cases q:b=T
   ·rw[q]; exact⟨_,g1⟩
   ·exact⟨o,by rw[k1 b q]; exact z⟩⟩
 refine sO (base:=base) (s:={ s with heap:=h1' }) hfr (hl.of_keeps fun b o hb hnf=>⟨o,by rw[k1 b (nT b o hb hnf)]; exact hb,rfl⟩) hf (by rw[k1 e (Ne.symm hne)]; exact he) hd (Array.getElem?_eq_some_iff.mp h1).1 fun h2 F2 st2=>?_;rw[show ({ s with heap:=h1' }:Shared).heap.objs.size=s.heap.objs.size from sz1] at F2;exact hQ h2 F2 (st.trans (st2.mono (fun _ z=>z) fun _ z=>nomatch z))
theorem ly (F:Fly s.heap e T fl)(hQ:∀h',Fly h' e T .none->XStep [] e [T] s.heap h'->Q () { s with heap:=h' }):wpAny M A (setFlight (.ref e) none) Q E s:=by
 obtain⟨⟨oe,vs,oT,ts,he,hd,h1,hT,hdT,h3⟩,hne⟩:=F;unfold setFlight;refine af (wpAny_field he hd h1 ?_);rw[if_pos (show (Value.ref T != Value.none)=true from by simp)];refine nG hT hdT (Array.getElem?_eq_some_iff.mp h3).1 fun h' sz g k=>?_;refine hQ h' ⟨⟨oe,vs,_,_,by rw[k e (Ne.symm hne)]; exact he,hd,h1,g,rfl,by simp[(Array.getElem?_eq_some_iff.mp h3).1]⟩,hne⟩ ⟨Nat.le_of_eq sz.symm,fun b o z _ _ n=>by rw[k b (by simpa using n)]; exact z,(fun b o z _ n _=>nomatch n),
  fun o ws z hw=>⟨ws,by rw[k e (Ne.symm hne),z,<-hw],rfl,rfl⟩,fun b o z _=>?_⟩
 by_cases q:b=T
 ·rw[q]; exact⟨_,g⟩
 ·exact⟨o,by rw[k b q]; exact z⟩
theorem BB (hfr:A.frames=some (env::outer))(hl:s.heap.FunFrames base (env::outer))(hf:env.frame=some L)(he:s.heap.get? e=some oe)(hd:oe.data=.fields vs)(h1:vs[1]? = some .none)
  (hQ:∀h',Fly h' e s.heap.objs.size .none->XStep ((env::outer).filterMap (·.frame)) e [s.heap.objs.size] s.heap h'->Q () { s with heap:=h' }):wpAny M A (leaving env (.ref e)) Q E s:=by
 unfold leaving;refine af (sJ hfr hl hf he hd h1 fun h2 F2 s2=>ly (s:={ s with heap:=h2 }) F2 fun h3 F3 s3=>?_);exact hQ h3 F3 ((s2.mono (fun _ z=>z) fun _ z=>nomatch z).trans (s3.mono (fun _ z=>nomatch z) fun _ z=>z))
theorem yG (hfr:A.frames=some (env::outer))(hl:s.heap.FunFrames base (env::outer))(hf:env.frame=some L)(F:Fly s.heap e T .none)
  (hQ:∀h',Fly h' e s.heap.objs.size .none->XStep ((env::outer).filterMap (·.frame)) e [T,s.heap.objs.size] s.heap h'->Q () { s with heap:=h' }):wpAny M A (leaving env (.ref e)) Q E s:=by
 unfold leaving;refine af (rH hfr hl hf F fun h2 F2 s2=>ly (s:={ s with heap:=h2 }) F2 fun h3 F3 s3=>?_);exact hQ h3 F3 ((s2.mono (fun _ z=>z) fun _ z=>by simp at z; simp[z]).trans (s3.mono (fun _ z=>nomatch z) fun _ z=>by simp at z; simp[z]))
end
noncomputable abbrev bo:List Value:=[.type "ValueError",.type "Exception",.type "BaseException",.type "object"]
structure XO (K:Frag)(C:Addr)(tl:List Addr):Prop where
 obj:∃(nm q:Str) (N:Addr) (bs:List Value) (sn:List Str) (sub:List Value) (ab:Bool) (col:Option Bool) (dd:Option Addr) (k0 k1 k2 k3 k5:Option Value),
  K.lookup C=some (excClassObj nm q C N bs (tl.map Value.ref++bo) true sn sub ab col dd k0 k1 k2 k3 k5 "ValueError.__new__")
structure XC (K:Frag)(C:Addr)(fI:Value)(tl:List Addr):Prop extends XO K C tl where
 init:findIn K (.ref C) "__init__" = some (some fI)
 fn:isFn K fI=true\/fI=.builtin "ValueError.__init__"
 sa:findIn K (.ref C) "__setattr__" = some (some (.builtin "object.__setattr__"))
 ga:findIn K (.ref C) "__getattribute__" = some (some (.builtin "BaseException.__getattribute__"))
 gh:findIn K (.ref C) "__getattr__" = some none
section
variable {prog:Program}{w:World}{A:Around}{E:Value->Shared->Prop}{s:Shared}{K:Frag}{C x:Addr}{fI:Value}{tl:List Addr}{mA:Str->Option Value}{name:Str}{v:Value}
theorem tM (self:Value)(what:Str)(l:List Value):∀tl:List Addr,refuseLoop self what (tl.map Value.ref++l)=refuseLoop self what l
 | []=>rfl
 | a::r=>by
  rw[List.map_cons,List.cons_append,refuseLoop_ref];exact tM self what l r
theorem mR (I:h.Inst x C mA):∃ox od,InstAt h x ox C od:=by
 obtain⟨o,hx,hc,hn,hd⟩:=I;have hn':notCls o=true:=by
  unfold notCls;cases q:o.data <;> first | rfl | (exact absurd q (hn _))
 rcases hd with ⟨e,_⟩ | ⟨d,e,_,o',es,ep,ho,_⟩
 ·exact⟨o,none,hx,hc,hn',by rw[e]; trivial⟩
 ·exact⟨o,some o',hx,hc,hn',by rw[e]; exact ho⟩
theorem yK (T:XC K C fI tl)(X:K.In s.heap)(hna:findIn K (.ref C) name=some none)(I:s.heap.Inst x C mA)(hw:Within mA ns)(hsz:ns.length<sizeLine)
  (hq:∀h' tk',h'.Inst x C (fun y=>if y=name then some v else mA y)->s.heap.objs.size<=h'.objs.size ->
   (∀b o,b≠x->(∀o₀ dx,s.heap.get? x=some o₀->o₀.dict=some dx->b≠dx)->s.heap.get? b=some o->h'.get? b=some o) ->
   (∀o₀,s.heap.get? x=some o₀->∃o₁,h'.get? x=some o₁/\o₁.data=o₀.data/\((∃dx,o₀.dict=some dx/\o₁.dict=some dx)\/(o₀.dict=none/\o₁.dict=some s.heap.objs.size)))->Q () { s with heap:=h',toks:=tk' }) :
  wpAny (model prog w) A (setAttr (.ref x) name v) Q E s:=by
 obtain⟨ox,od,J⟩:=mR I;have SF:=PySem.F.store_ValueError;obtain⟨nm,q,N,bs,sn,sub,ab,col,dd,k0,k1,k2,k3,k5,lk⟩:=T.obj;have hC:=X _ _ lk;have hcont:(Value.ref C::(tl.map Value.ref++bo)).contains (.type "object")=true:=by
  rw[List.contains_cons,List.contains_append];rw[show bo.contains (.type "object")=true from by decide +kernel,Bool.or_true,Bool.or_true]
 have iso:Looks (model prog w) s.heap (isInstance (.ref x) (.type "object")) true:=J.type.andThen fun A' Q' E' s' k q'=>by
  obtain⟨h1,g1,d1,t1,o1⟩:=s';refine wpAny_isSubtype_exc (k _ _ hC) ?_;rw[hcont]; exact q'
 have J':=J;have X':=X;obtain⟨hp,g,d,tk,os⟩:=s;refine set_plain X J T.sa (codeAny_call_builtin SF.slot.plain SF.entry (@check_slot (model prog w) _ _ _ "object.__setattr__" "object" "__setattr__" (.ref x) [.str name tk,v] [] _ SF.kind SF.split iso (SF.args (.ref x) (.str name tk) v) ?_));have hpass:=SF.passes (.ref x);obtain⟨o,hx,hc,hnc,hd⟩:=I;unfold Builtin.«object.__setattr__»;repeat (first | rw[refuse_eq] | (rw[refuseLoop_ref,tM,hpass]) | (with_reducible refine wpAny_loadPart_at hx ?_; rw[hc]) | with_reducible refine wpAny_mroOf_exc hC ?_ | with_reducible refine (looks_findIn X hna).here ?_ | wp_step)
 change K.In hp at X;show wpAny _ _ _ _ _ ⟨hp,g,d,tk+1,os⟩;refine (looks_findIn X hna).at ?_;repeat (first | (with_reducible refine wpAny_loadPart_at hx ?_; rw[hc]) | with_reducible refine wpAny_loadPart_at hC ?_ | wp_step)
 rcases hd with ⟨hdn,hmA⟩ | ⟨dx,hdx,hne,hns⟩
 ·rw[hdn,if_neg (by simp[typeHasDict])];split
  ·rename_i z;cases z
  split
  ·rename_i c z;exact absurd z (hnc c)
  ·have lt:x<hp.objs.size:=bn hx;have hx1:(hp.push { cls:=.type "dict",data:=.dict #[] }).get? x=some o:=bz _ hx;refine af (wpAny_alloc' (af (wpAny_update' hx1 (ay ?_))));generalize hh2:((hp.push { cls:=.type "dict",data:=.dict #[] }).update x fun o=>{ cls:=o.cls,dict:=some hp.objs.size,data:=o.data,slots:=o.slots })=h2;have gd:h2.get? hp.objs.size=some { cls:=.type "dict",data:=.dict #[] }:=by
    rw[<-hh2];exact (Heap.get?_update_other _ _ (cH lt)).trans (Heap.get?_push_at rfl rfl)
   have gx:h2.get? x=some { cls:=o.cls,dict:=some hp.objs.size,data:=o.data,slots:=o.slots }:=by
    rw[<-hh2];refine Heap.get?_update_self _ hx1 ?_;have fr:=(Heap.get?_some_iff.mp hx).2;obtain⟨_,_,dt,_⟩:=o;cases dt <;> first | rfl | exact fr
   have gb:∀b ob,b≠x->hp.get? b=some ob->h2.get? b=some ob:=fun b ob nb z=>by
    rw[<-hh2];exact (Heap.get?_update_other _ _ (Ne.symm nb)).trans (bz _ z)
   have sz2:h2.objs.size=hp.objs.size+1:=by rw[<-hh2,Heap.size_after_update,Heap.size_push]
   have nd:h2.Ns1 hp.objs.size (fun _=>none):=Heap.Ns1.of_empty ⟨_,#[],_,gd,rfl,fun e he=>absurd he (by simp),fun _=>rfl⟩;show wpAny _ _ (storeInDict hp.objs.size (.str name tk) name v) _ _ _;unfold storeInDict newKeyGuard;refine af (ay (af (wpAny_nsSet1 nd fun h3 n3 s3=>?_)));obtain⟨oD,esD,epD,hoD,hdD,hcD⟩:=n3.count (Within.cons name v Within.nil);refine af (wpAny_lookBehind hoD (by rw[hdD]; exact pastItsLine_dict (br hcD (by rw[List.length_cons,List.length_nil,sizeLine_eq]; omega))) ?_);wp_walk
   have gx3:=(s3.2 x (cH lt)).trans gx;refine hq h3 _ ⟨_,gx3,hc,hnc,.inr ⟨hp.objs.size,rfl,Nat.ne_of_gt lt,?_⟩⟩ (by rw[s3.1,sz2]; exact Nat.le_succ _) (fun b ob nb _ z=>?_) fun o₀ z=>?_
   ·obtain⟨o',es,ep,e1,e2,e3,eu,e4⟩:=n3;exact⟨o',es,ep,e1,e2,e3,eu,fun y=>by rw[e4 y]; by_cases hy:y=name <;> simp[hy,hmA]⟩
   ·exact (s3.2 b (cH (bn z))).trans (gb b ob nb z)
   ·obtain rfl:o=o₀:=bO (hx.symm.trans z);exact⟨_,gx3,rfl,.inr ⟨hdn,rfl⟩⟩
 ·rw[hdx];refine ay ?_;show wpAny _ _ (storeInDict dx (.str name tk) name v) _ _ _;unfold storeInDict newKeyGuard;refine af (ay (af (wpAny_nsSet1 hns fun h3 n3 s3=>?_)));obtain⟨oD,esD,epD,hoD,hdD,hcD⟩:=n3.count (Within.cons name v hw);refine af (wpAny_lookBehind hoD (by rw[hdD]; exact pastItsLine_dict (br hcD (by rw[List.length_cons]; omega))) ?_);wp_walk
  have gx3:=(s3.2 x (Ne.symm hne)).trans hx;refine hq h3 _ ⟨o,gx3,hc,hnc,.inr ⟨dx,hdx,hne,n3⟩⟩ (Nat.le_of_eq s3.1.symm) (fun b ob _ hbd z=>(s3.2 b (hbd o dx hx hdx)).trans z) fun o₀ z=>?_;obtain rfl:o=o₀:=bO (hx.symm.trans z);exact⟨o,gx3,rfl,.inl ⟨dx,hdx,hdx⟩⟩
end
section
variable {prog:Program}{w:World}{A:Around}{E:Value->Shared->Prop}{s:Shared}{K:Frag}{C x:Addr}{fI:Value}{tl:List Addr}{mA:Str->Option Value}{name:Str}{v:Value}
theorem rF (T:XC K C fI tl)(X:K.In s.heap)(J:InstAt s.heap x ox C od)(hB:bo.contains (.type B)=true):Looks M s.heap (isInstance (.ref x) (.type B)) true:=by
 obtain⟨nm,q,N,bs,sn,sub,ab,col,dd,k0,k1,k2,k3,k5,lk⟩:=T.obj;have hC:=X _ _ lk;have hcont:(Value.ref C::(tl.map Value.ref++bo)).contains (.type B)=true:=by rw[List.contains_cons,List.contains_append,hB,Bool.or_true,Bool.or_true]
 exact J.type.andThen fun A' Q' E' s' k q'=>by
  obtain⟨h1,g1,d1,t1,o1⟩:=s';refine wpAny_isSubtype_exc (k _ _ hC) ?_;rw[hcont]; exact q'
theorem xJ (T:XC K C fI tl)(X:K.In s.heap)(hna:findIn K (.ref C) name=some none)(I:s.heap.Inst x C mA)(hv:mA name=some v)(hh:handedOut v=pure v)
  (hq:Q v { s with toks:=s.toks+1 }):wpAny (model prog w) A (getAttr (.ref x) name expr) Q E s:=by
 obtain⟨ox,od,J⟩:=mR I;have FA:=PySem.F.excAttr_ValueError;have iso:=rF (M:=model prog w) T X J (B := "BaseException") (by decide +kernel);have f3:=FA.ga.bind (.ref x);have hx0:(expr&&onTheHeap (Value.builtin "BaseException.__getattribute__"))=false:=by cases expr <;> rfl
 have hx2:(Value.builtin "BaseException.__getattribute__" == Value.builtin "object.__getattribute__")=false:=by decide +kernel
 have hx1:(onTheHeap (Value.ref C)&&Value.builtin "BaseException.__getattribute__" == Value.builtin "object.__getattribute__")=false:=by rw[hx2]; rfl
 obtain⟨nm,q,N,bs,sn,sub,ab,col,dd,k0,k1,k2,k3,k5,lk⟩:=T.obj;have hC:=X _ _ lk;obtain⟨o,hx,hc,hnc,hd⟩:=I;obtain⟨hp,g,d,tk,os⟩:=s;change K.In hp at X;change hp.get? x=some o at hx;have ga:∀{t:Nat} {Q':Option Value->Shared->Prop} {E':Value->Shared->Prop} {A':Around},Q' (some (.builtin "BaseException.__getattribute__")) ⟨hp,g,d,t,os⟩->wpAny (model prog w) A' (typeLookup (.ref C) "__getattribute__") Q' E' ⟨hp,g,d,t,os⟩:=fun z=>(looks_findIn X T.ga).at z;have gh:∀{t:Nat} {Q':Option Value->Shared->Prop} {E':Value->Shared->Prop} {A':Around},Q' none ⟨hp,g,d,t,os⟩->wpAny (model prog w) A' (typeLookup (.ref C) "__getattr__") Q' E' ⟨hp,g,d,t,os⟩:=fun z=>(looks_findIn X T.gh).at z;have gn:∀{t:Nat} {Q':Option Value->Shared->Prop} {E':Value->Shared->Prop} {A':Around},Q' none ⟨hp,g,d,t,os⟩->wpAny (model prog w) A' (typeLookup (.ref C) name) Q' E' ⟨hp,g,d,t,os⟩:=fun z=>(looks_findIn X hna).at z;unfold getAttr getAttrBy;repeat (any_goals (first | assumption | (with_reducible refine wpAny_loadPart_at hx ?_; rw[hc]) | with_reducible refine ga ?_ | with_reducible refine gh ?_ | wp_step))
 refine codeAny_call_builtin FA.ga.plain F.entry_bexc_ga (@check_slot (model prog w) _ _ _ "BaseException.__getattribute__" "BaseException" "__getattribute__" (.ref x) [.str name tk] [] _ (by decide +kernel) (by decide +kernel) iso (F.args_bexc_ga _ _) ?_);rcases hd with ⟨_,hmA⟩ | ⟨dx,hdx,hne,hns⟩
 ·rw[hmA name] at hv; cases hv
 unfold Builtin.«object.__getattribute__»;repeat (any_goals (first | assumption | (with_reducible refine wpAny_loadPart_at hx ?_; rw[hc]) | with_reducible refine wpAny_loadPart_at hC ?_ | with_reducible refine gn ?_ | wp_step))
 split
 ·rename_i c z;exact absurd z (hnc c)
 unfold instanceDict;repeat (any_goals (first | assumption | (with_reducible refine wpAny_loadPart_at hx ?_; rw[hc]) | with_reducible refine wpAny_loadPart_at hC ?_ | wp_step))
 rw[hdx];repeat (any_goals (first | assumption | (with_reducible refine wpAny_nsGet hns.ns ?_; rw[hv]) | wp_step))
end
section
variable {prog:Program}{w:World}{A:Around}{E:Value->Shared->Prop}{s:Shared}{K:Frag}{C x:Addr}{fI:Value}{tl:List Addr}{mA:Str->Option Value}{name:Str}{v:Value}
theorem BI {rest:List Value}{o:Obj}{vs:Array Value}{Q:Value->Shared->Prop}(T:XC K C fI tl)(X:K.In s.heap)(hx:s.heap.get? x=some o)(hc:o.cls=.ref C)(hd:o.data=.fields vs)(hz:0<vs.size)(hr:rest.length<=sizeLine)
  (hq:∀h',s.heap.objs.size<=h'.objs.size->(∀b ob,b≠x->s.heap.get? b=some ob->h'.get? b=some ob)->(∃a0,h'.get? x=some { o with data:=.fields (vs.setIfInBounds 0 a0) })->Q .none { s with heap:=h' }) :
  wpAny (model prog w) A (call (.builtin "ValueError.__init__") (.ref x::rest)) Q E s:=by
 have F:=PySem.F.excBase_ValueError;obtain⟨nm,q,N,bs,sn,sub,ab,col,dd,k0,k1,k2,k3,k5,lk⟩:=T.obj;have hC:=X _ _ lk;have hcont:(Value.ref C::(tl.map Value.ref++bo)).contains (.type "ValueError")=true:=by
  rw[List.contains_cons,List.contains_append,show bo.contains (.type "ValueError")=true from by decide +kernel,Bool.or_true,Bool.or_true]
 obtain⟨hp,g,d,tk,os⟩:=s;have hshort:=F.noStar;have h0:vs[0]? = some vs[0]:=by simp[hz]
 refine wpAny_call (codeAny_call_builtin F.init.plain F.initEntry ?_);simp only[checkBuiltinCall,F.initKind,F.initSplit,F.initRow];repeat (first | (with_reducible refine wpAny_loadPart_at hx ?_; rw[hc]) | with_reducible refine wpAny_loadPart_at hC ?_ | (with_reducible refine wpAny_isSubtype_exc hC ?_; rw[hcont]) | wp_step)
 refine wpAny_onRaise ?_;rw[show ∀(a b:String) (n:Nat),Bind.check ⟨.positional, "*", "ValueError",.self,[⟨"args",.varPos,false⟩]⟩ a b n (List.map (fun x=>x.fst) ({ pos:=Value.ref x::rest }:Args).kw)=pure () from fun a b n=>check_star_args _ _ _ _ _ _];refine ay ?_;show wpAny _ _ (newTuple rest >>= fun t=>Builtin.BaseException.bexcPut (.ref x) 0 t >>= fun _=>ret .none) _ _ _;refine af (wpAny_newTuple (af ?_) hr);unfold Builtin.BaseException.bexcPut;refine af (wpAny_field (bz _ hx) hd h0 (af (nG (bz _ hx) hd hz fun h2 sz2 g2 k2=>?_)));have fin:Q .none ⟨h2,g,d,tk,os⟩:=hq h2 (by rw[sz2]; show hp.objs.size<=(hp.push _).objs.size; rw[Heap.size_push]; exact Nat.le_succ _) (fun b ob nb z=>by rw[k2 b nb]; exact bz _ z) ⟨_,g2⟩;cases vs[0] <;> (repeat (first | exact fin | wp_step))
end
theorem kr (C:Addr)(tl:List Addr)(n:String):(Value.ref C::(tl.map Value.ref++bo)).contains (.type n)=bo.contains (.type n):=by
 rw[List.contains_cons,List.contains_append];have h1:((Value.type n) == (Value.ref C))=false:=by rfl
 have h2:(tl.map Value.ref).contains (.type n)=false:=by
  induction tl with
  | nil=>rfl
  | cons a r ih=>rw[List.map_cons,List.contains_cons,ih]; rfl
 rw[h1,h2,Bool.false_or,Bool.false_or]
section
variable {prog:Program}{w:World}{A:Around}{E:Value->Shared->Prop}{s:Shared}{K:Frag}{C:Addr}{fI:Value}{tl:List Addr}
theorem AK {rest:List Value}{R:Result->Shared->Prop}(T:XC K C fI tl)(X:K.In s.heap)(hrest:rest.length<=sizeLine)
  (hq:R (.ok (.ret (.ref (s.heap.objs.size+1)))) { s with heap:=(s.heap.push { cls:=.type "tuple",data:=.seq rest.toArray }).push { cls:=.ref C,data:=.fields #[.ref s.heap.objs.size,.none,.none,.none,.bool false,.none] } }) :
  codeAny (model prog w) A (.builtin "ValueError.__new__" ⟨.ref C::rest,[]⟩) R s:=by
 have F:=PySem.F.excBase_ValueError;obtain⟨nm,q,N,bs,sn,sub,ab,col,dd,k0,k1,k2,k3,k5,lk⟩:=T.obj;have hC:=X _ _ lk;have cB:(Value.ref C::(tl.map Value.ref++bo)).contains (.type "ValueError")=true:=by rw[kr]; decide +kernel
 have cA:(Value.ref C::(tl.map Value.ref++bo)).contains (.type "AttributeError")=false:=by rw[kr]; decide +kernel
 have cN:(Value.ref C::(tl.map Value.ref++bo)).contains (.type "NameError")=false:=by rw[kr]; decide +kernel
 obtain⟨h,g,d,t,os⟩:=s;have ends:=F.ends;refine codeAny_builtinAt F.entry ?_;unfold Builtin.«BaseException.__new__»;refine wpAt_bind ?_;show wpAt _ _ _ (stack >>= _) _ _ _;refine wpAt_bind (wpAt_stack fun p below=>wpAt_of_wpAny ?_);wp_walk
 refine wpAt_of_wpAny ?_;rw[F.owner];repeat (first | with_reducible refine wpAny_madeHere_exc F.canon hC ?_ | with_reducible refine wpAny_loadPart_at hC ?_ | (with_reducible refine wpAny_isSubtype_exc hC ?_; first | rw[cB] | rw[cA] | rw[cN]) | wp_step)
 show R _ _;rw[Heap.size_push];exact hq
theorem zn {rest:List Value}{M:Model}{Q:Unit->Shared->Prop}(T:XC K C fI tl)(X:K.In s.heap)(hq:Q () s):wpAny M A (checkBuiltinCall "ValueError.__new__" ⟨.ref C::rest,[]⟩) Q E s:=by
 have F:=PySem.F.excBase_ValueError;obtain⟨nm,q,N,bs,sn,sub,ab,col,dd,k0,k1,k2,k3,k5,lk⟩:=T.obj;have hC:=X _ _ lk;have cB:(Value.ref C::(tl.map Value.ref++bo)).contains (.type "ValueError")=true:=by rw[kr]; decide +kernel
 have star:=F.noStar;obtain⟨h,g,d,t,os⟩:=s;simp only[checkBuiltinCall,F.newKind,F.newSplit,F.newRow];repeat (first | refine wpAny_loadPart_at hC ?_ | (refine wpAny_isSubtype_exc hC ?_; rw[cB]) | refine wpAny_staticBase_exc hC ?_ | refine wpAny_madeBy_exc hC ?_ | simp only[bne_self_eq_false,Bool.false_eq_true,if_false] | wp_step)
 exact hq
theorem wu {rest:List Value}{Q:Fin->Shared->Prop}(T:XC K C fI tl)(X:K.In s.heap)(hrest:rest.length<=sizeLine)
  (hq:∀h' e,Heap.MadeExcOf s.heap h' e (.ref C) rest->s.heap.objs.size<=e->wpAny (model prog w) A (call fI (.ref e::rest)) (fun r s'=>r=.none/\Q (.done (.ret (.ref e))) s') E { s with heap:=h' }) :
  wpAny (model prog w) A (Builtin.«type.__call__» ⟨.ref C::rest,[]⟩) Q E s:=by
 have F:=PySem.F.excBase_ValueError;have T':=T;have X':=X;obtain⟨nm,q,N,bs,sn,sub,ab,col,dd,k0,k1,k2,k3,k5,lk⟩:=T.obj;have hC:=X _ _ lk;have self:(Value.ref C::(tl.map Value.ref++bo)).contains (.ref C)=true:=by simp
 obtain⟨h,g,d,t,os⟩:=s;change K.In h at X;repeat (first | with_reducible refine wpAny_loadPart_at hC ?_ | with_reducible refine wpAny_madeBy_exc hC ?_ | wp_step)
 refine codeAny_call_builtin_code (Code.quiet_builtin _ F.quiet) (zn T' X' (AK T' X' hrest ?_));show wpAny _ _ _ _ _ ⟨(h.push { cls:=.type "tuple",data:=.seq rest.toArray }).push { cls:=.ref C,data:=.fields #[.ref h.objs.size,.none,.none,.none,.bool false,.none] },g,d,t,os⟩;generalize hto:({ cls:=.type "tuple",data:=.seq rest.toArray }:Obj)=to;generalize heo:({ cls:=.ref C,data:=.fields #[.ref h.objs.size,.none,.none,.none,.bool false,.none] }:Obj)=eo;have kp:∀b o,h.get? b=some o->((h.push to).push eo).get? b=some o:=fun b o z=>bz _ (bz _ z);have he1:((h.push to).push eo).get? (h.objs.size+1)=some eo:=by subst heo; subst hto; heap_get
 have ht1:((h.push to).push eo).get? h.objs.size=some to:=by subst hto; exact bz _ (Heap.get?_push_at rfl rfl)
 have ec:eo.cls=.ref C:=by rw[<-heo]
 have X2:K.In ((h.push to).push eo):=X.keeps kp;unfold isInstance;repeat (first | (with_reducible refine wpAny_loadPart_at he1 ?_; rw[ec]) | (with_reducible refine wpAny_isSubtype_exc (kp _ _ hC) ?_; rw[self]) | wp_step)
 show wpAny _ _ (typeLookup (.ref C) _) _ _ _;have bd:∀Q':Value×List Value->Shared->Prop,Q' (fI,[.ref (h.objs.size+1)]) ⟨(h.push to).push eo,g,d,t,os⟩->wpAny (model prog w) A (bindSpecial fI (.ref (h.objs.size+1))) Q' E ⟨(h.push to).push eo,g,d,t,os⟩:=fun Q' q=>by
  rcases T.fn with hb | hb
  ·unfold bindSpecial;refine af ((looks_typeIn X2 (beq_iff_eq.mp hb)).at ?_);rw[if_pos (by decide)];exact ay q
  ·subst hb;exact wpAny_of_eq (F.init.bind _) q
 refine (looks_findIn X2 T.init).at (wpAny_holding (af (bd _ ?_)));refine (af (wpAny_mono (hq _ (h.objs.size+1) ⟨kp,Heap.get?_none_of_le (Nat.le_succ _),h.objs.size,by rw[heo]; exact he1,Heap.get?_none_of_le (aX _),by rw[hto]; exact ht1⟩ (Nat.le_succ _)) (fun r s' hr=>?_) fun _ _ x=>x));obtain⟨rfl,hQ⟩:=hr;wp_walk
 exact hQ
theorem vV {rest:List Value}{Q:Value->Shared->Prop}(T:XC K C fI tl)(X:K.In s.heap)(hrest:rest.length<=sizeLine)
  (hq:∀h' e,Heap.MadeExcOf s.heap h' e (.ref C) rest->s.heap.objs.size<=e->wpAny (model prog w) (A.under (.builtin "type.__call__" ⟨.ref C::rest,[]⟩)) (call fI (.ref e::rest)) (fun r s'=>r=.none/\Q (.ref e) s') E { s with heap:=h' }) :
  wpAny (model prog w) A (call (.ref C) rest) Q E s:=by
 obtain⟨nm,q,N,bs,sn,sub,ab,col,dd,k0,k1,k2,k3,k5,lk⟩:=T.obj;have hC:=X _ _ lk;have X':=X;obtain⟨h,g,d,t,os⟩:=s;have a1:=tc_lookup;have a2:=tc_bind (.ref C);have a3:(⟨h,g,d,t,os⟩:Shared).TypeIs (.ref C) "type":=⟨_,hC,rfl⟩
 refine wpAny_call (codeAny_of_tree ?_);show wpAny _ _ (callAny (.ref C) _) _ _ _;repeat (any_goals (first | assumption | with_reducible refine wpAny_loadPart_at hC ?_ | wp_step))
 exact⟨rfl,codeAny_call_builtin_at (Code.quiet_builtin _ (by decide +kernel)) entry_typeCall (wpAny_check_type_call_sub hC (wu T X' hrest hq))⟩
end
section
variable {M:Model}{A:Around}{E:Value->Shared->Prop}{s:Shared}{env:Env}{K:Frag}{C:Addr}{tl:List Addr}
theorem yP (hh:A.handled=none)
  (h:wpAny M A x (fun v s₁=>∃(e C:Addr) (tl:List Addr) (oe:Obj) (vs:Array Value),v=.ref e/\XO K C tl/\s₁.heap.get? e=some oe/\oe.cls=.ref C/\oe.data=.fields vs/\vs[1]? = some .none/\K.In s₁.heap/\E (.ref e) s₁) E s) :
  wpAny M A (raiseStmt env (some x) none) Q E s:=by
 unfold raiseStmt;refine af (wpAny_mono h (fun v s₁ h₁=>?_) fun _ _ x=>x);obtain⟨e,C,tl,oe,vs,rfl,T,he,hc,hd,h1,X,hE⟩:=h₁;obtain⟨nm,q,N,bs,sn,sub,ab,col,dd,k0,k1,k2,k3,k5,lk⟩:=T.obj;have hC:=X _ _ lk;obtain⟨hp,g,d,tk,os⟩:=s₁;have hcB:(Value.ref C::(tl.map Value.ref++bo)).contains (.type "BaseException")=true:=by rw[kr]; decide +kernel
 obtain⟨oc,od,odt,osl⟩:=oe;cases hd;cases hc;repeat (any_goals (first | assumption | with_reducible refine wpAny_loadPart_at he ?_ | with_reducible refine wpAny_loadPart_at hC ?_ | (with_reducible refine wpAny_isSubtype_exc hC ?_; rw[hcB]) | with_reducible refine wpAny_field he rfl h1 ?_ | wp_step))
 exact wpAny_raiseNew_none hh hE
theorem DT (he:s.heap.get? e=some oe)(hc:oe.cls=.ref C)(X:K.In s.heap)(T:XO K C tl)(Y:XO K D tlD)
  (hQ:Q ((Value.ref C::(tl.map Value.ref++bo)).contains (.ref D)) s):wpAny M A (excMatches (.ref e) (.ref D)) Q E s:=by
 obtain⟨nm,q,N,bs,sn,sub,ab,col,dd,k0,k1,k2,k3,k5,lk⟩:=T.obj;obtain⟨nm',q',N',bs',sn',sub',ab',col',dd',k0',k1',k2',k3',k5',lk'⟩:=Y.obj;have hC:=X _ _ lk;have hD:=X _ _ lk';obtain⟨hp,g,d,tk,os⟩:=s;have hcB:(Value.ref D::(tlD.map Value.ref++bo)).contains (.type "BaseException")=true:=by rw[kr]; decide +kernel
 have nt:isSubtype (.type "type") (.type "tuple")=pure false:=by rw[isSubtype_type]; kernel_rfl
 have hT:(⟨hp,g,d,tk,os⟩:Shared).TypeIs (.ref D) "type":=⟨_,hD,rfl⟩
 unfold excMatches;repeat (any_goals (first | assumption | with_reducible refine wpAny_loadPart_at hD ?_ | (with_reducible refine wpAny_loadPart_at he ?_; rw[hc]) | (with_reducible refine wpAny_isSubtype_exc hD ?_; rw[hcB]) | with_reducible refine wpAny_isSubtype_exc hC ?_ | wp_step))
 cases hh:(Value.ref C::(tl.map Value.ref++bo)).contains (.ref D) with
 | true=>
  rw[hh] at hQ;repeat (any_goals (first | assumption | wp_step))
 | false=>
  rw[hh] at hQ;repeat (any_goals (first | assumption | wp_step))
end
end L2
end
section
namespace L2
open PySem PySem.Spec PyProof.Rows
noncomputable def bY (env:Env)(names:List (Str×NameKind))(acc:List (Str×Addr)):List (Str×Addr):=
 names.foldl (fun cs x=>if x.2 == NameKind.free then (x.1,(env.cells.lookup x.1).getD 0)::cs else cs) acc
theorem vW {α β:Type}{f:α->β->Sem (ForInStep β)}(g:β->α->β):∀(l:List α) (c:β),(∀x∈l,∀c,f x c=pure (.yield (g c x)))->forIn l c f=pure (l.foldl g c)
 | [],_,_=>rfl
 | x::r,c,h=>by
  rw[List.forIn_cons,h x List.mem_cons_self c,pure_bind];exact vW g r (g c x) fun y hy=>h y (bw _ hy)
theorem pd:∀(names:List (Str×NameKind)) (acc:List (Str×Addr)),(∀y∈names,y.2=NameKind.free->∃c,env.cells.lookup y.1=some c)->(∀x c,acc.lookup x=some c->env.cells.lookup x=some c) ->
  (∀x c,(bY env names acc).lookup x=some c->env.cells.lookup x=some c)/\(∀y∈names,y.2=NameKind.free->∃c,(bY env names acc).lookup y.1=some c)/\∀x c,acc.lookup x=some c->∃c',(bY env names acc).lookup x=some c'
 | [],acc,_,ha=>⟨ha,(fun _ h=>nomatch h),fun x c h=>⟨c,h⟩⟩
 | (n,k)::r,acc,hf,ha=>by
  by_cases hk:k=NameKind.free
  ·subst hk;obtain⟨c,hc⟩:=hf (n,.free) bD rfl;have e:bY env ((n,NameKind.free)::r) acc=bY env r ((n,c)::acc):=by
    have hc':env.cells.lookup n=some c:=hc;show bY env r (if (NameKind.free == NameKind.free)=true then (n,(env.cells.lookup n).getD 0)::acc else acc)=_;rw[if_pos (by decide),hc'];rfl
   rw[e];obtain⟨h1,h2,h3⟩:=pd r ((n,c)::acc) (fun y hy=>hf y (bw _ hy)) fun x d h=>by
    rw[List.lookup_cons] at h;split at h
    ·rename_i hx;have hx':x=n:=by simpa using hx
     cases h;rw[hx'];exact hc
    ·exact ha x d h
   refine⟨h1,fun y hy hyf=>?_,fun x d h=>?_⟩
   ·rcases bN hy with rfl | hy
    ·exact h3 n c (by rw[List.lookup_cons]; simp)
    ·exact h2 y hy hyf
   ·by_cases hx:x=n
    ·subst hx;exact h3 x c (by rw[List.lookup_cons]; simp)
    ·refine h3 x d ?_;rw[List.lookup_cons,show (x == n)=false from by simpa using hx];exact h
  ·have e:bY env ((n,k)::r) acc=bY env r acc:=by
    show bY env r (if (k == NameKind.free)=true then (n,(env.cells.lookup n).getD 0)::acc else acc)=_;rw[if_neg (by simpa using hk)]
   rw[e];obtain⟨h1,h2,h3⟩:=pd r acc (fun y hy=>hf y (bw _ hy)) ha;refine⟨h1,fun y hy hyf=>?_,h3⟩;rcases bN hy with rfl | hy
   ·exact absurd hyf hk
   ·exact h2 y hy hyf
theorem sS {scope:Scope}{env:Env}(hf:∀y∈scope.names,y.2=NameKind.free->∃c,env.cells.lookup y.1=some c) :
  ∃cl,closureFor scope env=pure cl/\(∀x c,cl.lookup x=some c->env.cells.lookup x=some c)/\∀y∈scope.names,y.2=NameKind.free->∃c,cl.lookup y.1=some c:=by
 obtain⟨h1,h2,_⟩:=pd (env:=env) scope.names [] hf (fun _ _ h=>nomatch h);refine⟨bY env scope.names [],?_,h1,h2⟩;simp only[closureFor];rw[vW (fun cs x=>if x.2 == NameKind.free then (x.1,(env.cells.lookup x.1).getD 0)::cs else cs) scope.names [] fun x hx c=>?_]
 ·rfl
 ·obtain⟨n,kind⟩:=x;by_cases hk:kind=NameKind.free
  ·subst hk;obtain⟨a,ha⟩:=hf (n,.free) hx rfl;have ha':env.cells.lookup n=some a:=ha;simp only[show (NameKind.free == NameKind.free)=true from by decide,if_true,cellOf,ha'];rfl
  ·have hb:(kind == NameKind.free)=false:=by simpa using hk
   simp only[hb,Bool.false_eq_true,if_false]
noncomputable def aP (X:Cx)(N':List Str)(scope:Scope)(cl:List (Str×Addr))(C:Addr)(s:Shared)(H:Hp)(fp:List Addr)(E:Value->Shared->Prop):Cx:=
 { X with N:=N',s₀:=s,H₀:=H,env:=compEnvC scope cl C X.env,outer:=X.stack,stack:=X.stack,ex:=fp,fn:=fun x=>scope.names.lookup x == some .cell,pn:=[],xe:=E }
noncomputable def compOk (sc:Scope)(N N':List Str)(caps:List (Option Nat))(scope:Scope):Bool:=
 scope.kind == .function&&scope.names.all (fun y=>(y.2 != .cell||scope.names.lookup y.1 == some .cell)&&(y.2 != .local||scope.names.lookup y.1 == some .local)&&(y.2 != .free||(sc.names.lookup y.1 == some .cell||sc.names.lookup y.1 == some .free))) &&
 caps.length == N'.length&&decide N'.Nodup&&(caps.zip N').all fun p=>match p.1 with
  | none=>true
  | some j=>N[j]? == some p.2&&scope.names.lookup p.2 == some .free
structure CompS (sc:Scope)(N N':List Str)(caps:List (Option Nat))(scope:Scope):Prop where
 kind:scope.kind=.function
 cells:∀y∈scope.names,y.2=.cell->scope.names.lookup y.1=some .cell
 locs:∀y∈scope.names,y.2=.local->scope.names.lookup y.1=some .local
 free:∀y∈scope.names,y.2=.free->sc.names.lookup y.1=some .cell\/sc.names.lookup y.1=some .free
 len:caps.length=N'.length
 nd:N'.Nodup
 cap:∀(i j:Nat) (x:Str),caps[i]? = some (some j)->N'[i]? = some x->N[j]? = some x/\scope.names.lookup x=some .free
theorem CompS.of (h:compOk sc N N' caps scope=true):CompS sc N N' caps scope:=by
 unfold compOk at h;simp only[Bool.and_eq_true,List.all_eq_true,beq_iff_eq,decide_eq_true_eq] at h;obtain⟨⟨⟨⟨hk,hn⟩,hl⟩,hnd⟩,hc⟩:=h;refine⟨?_,fun y hy e=>?_,fun y hy e=>?_,fun y hy e=>?_,hl,hnd,fun i j x h1 h2=>?_⟩
 ·cases hh:scope.kind <;> rw[hh] at hk <;> first | rfl | (exact absurd hk (by decide))
 ·have:=(hn y hy).1.1;rw[e] at this;simpa using this
 ·have:=(hn y hy).1.2;rw[e] at this;simpa using this
 ·have:=(hn y hy).2;rw[e] at this;simpa using this
 ·have hz:(caps.zip N')[i]? = some (some j,x):=by rw[List.getElem?_zip_eq_some]; exact⟨h1,h2⟩
  have:=hc _ (List.mem_of_getElem? hz);simpa using this
noncomputable def gJ (σ:St):Option Nat->Option V
 | none=>none
 | some j=>(σ[j]?).join
section
variable {prog:Program}{w:World}{A:Around}{R:Result->Shared->Prop}{s:Shared}
theorem zG (I:Nat->Shared->Prop)
  (turn:∀n s,I n s->wpAny (model prog w) A (pyNext it) (fun r s₁=>match r with
   | none=>R (.ok .next) s₁
   | some v=>wpAny (model prog w) A (letOwnedTupleGo target it v) (fun _ s₀=>wpAny (model prog w) A (assign target env v) (fun _ s₂=>
     wpAny (model prog w) A (forIn ifs true fun c r=>if r=true then do let ok <-isTrue c env (eval c env); pure (ForInStep.yield ok) else pure (ForInStep.yield r)) (fun ok s₃=>
      if ok=true then wpAny (model prog w) A (eval elt env) (fun x s₄=>
       wpAny (model prog w) A (call (.builtin "list.append") [acc,x]) (fun _ s₅=>∃m,m<n/\I m s₅) (notedBy (model prog w) A env fun e s'=>R (.error e) s') s₄) (notedBy (model prog w) A env fun e s'=>R (.error e) s') s₃
      else ∃m,m<n/\I m s₃) (notedBy (model prog w) A env fun e s'=>R (.error e) s') s₂) (notedBy (model prog w) A env fun e s'=>R (.error e) s') s₀) (notedBy (model prog w) A env fun e s'=>R (.error e) s') s₁) (notedBy (model prog w) A env fun e s'=>R (.error e) s') s)
  (n:Nat)(h:I n s) :
  codeAny (model prog w) A (.compLoop (.ListComp elt [⟨target,iter,ifs,0⟩] scope pos) 0 it acc env) R s:=by
 refine codeAny_loop rfl I (fun n s hI=>?_) n h;show wpAny _ A ((compTurn (.ListComp elt [⟨target,iter,ifs,0⟩] scope pos) 0 it acc env).onRaise (fun x=>do noteFrame x env; theTreesLotGoes x)) _ _ s;refine wpAny_noted ?_;rw[compTurn_list];refine af (wpAny_standAt (af (wpAny_mono (turn n s hI) (fun r s₁ h₁=>?_) fun _ _ h'=>h')));cases r with
 | none=>exact ay h₁
 | some v=>
  refine af (wpAny_mono h₁ (fun _ s₀ h₀=>?_) fun _ _ h'=>h');refine af (wpAny_mono h₀ (fun _ s₂ h₂=>af (wpAny_mono h₂ (fun ok s₃ h₃=>?_) fun _ _ h'=>h')) fun _ _ h'=>h');cases ok with
  | false=>exact ay ⟨rfl,h₃⟩
  | true=>
   exact af (af (wpAny_mono h₃ (fun x s₄ h₄=>af (wpAny_mono h₄ (fun _ s₅ h₅=>ay (ay ⟨rfl,h₅⟩)) fun _ _ h'=>h')) fun _ _ h'=>h'))
end
def PTs (X:Cx)(ifs:List Expr)(t:TT):Prop:=
 ∀(pins:List (Addr×Obj)) (s:Shared) (σ:St) (H:Hp) (Q:Bool->Hp->Prop),Inv X pins σ H s->t σ H Q ->
  wpAny (model X.prog X.w) X.A (forIn ifs true fun c r=>if r=true then do let ok <-isTrue c X.env (eval c X.env); pure (ForInStep.yield ok) else pure (ForInStep.yield r)) (TP X pins σ Q) X.xe s
def fX:TT:=fun _ H Q=>Q true H
theorem AG:PTs X [] fX:=fun _ _ _ H _ I h=>wpAny_tests_nil ⟨H,I,h⟩
theorem yS (h:PT X c t):PTs X [c] t:=fun pins s σ H Q I hq=>wpAny_tests_one (h pins s σ H Q I hq)
theorem PTs.nox (h:PTs X.nox ifs t):PTs X ifs t:=fun pins s σ H Q I hw=>
 wpAny_mono (h pins s σ H Q (I.wish _) hw) (fun _ _ ⟨H',I',q⟩=>⟨H',I'.unwish,q⟩) fun _ _ f=>f.elim
theorem PG.nox (h:PG X.nox tg t):PG X tg t:=fun pins s σ H v u Q I r hw=>
 wpAny_mono (h pins s σ H v u Q (I.wish _) r hw) (fun _ _ ⟨σ',H',I',q⟩=>⟨σ',H',I'.unwish,q⟩) fun _ _ f=>f.elim
def iD (J:It)(l:Addr)(g:TG)(tt:TT)(te:TE)(Q:VK)(σ0:St)(H:Hp):Prop:=
 ∃W:Nat->Nat->List V->St->Hp->Prop,(∃m,W 0 m [] σ0 (upd H l (.lst [])))/\∀i m ys σ H,W i m ys σ H ->
  (J.stop i H/\Q (.ref l) H)\/(J.go i H/\∃N:List V->St->Hp->Prop,(∀ys σ' H',N ys σ' H'->∃m',m'<m/\W (i+1) m' ys σ' H') /\
   ∀x H',J.yld i H x H'->g x σ H' fun σ2 H3=>tt σ2 H3 fun c H4=>if c=true then te σ2 H4 fun v H5=>∃ys',H5 l=some (.lst ys')/\ys'.length<sizeLine/\N (ys'++[v]) σ2 (upd H5 l (.lst (ys'++[v]))) else N ys σ2 H4)
def eT (wi:TI)(caps:List (Option Nat))(g:TG)(tt:TT)(te:TE):TE:=fun σ H Q=>wi σ H fun J H1=>∀l,H1 l=none->iD J l g tt te Q (caps.map (gJ σ)) H1
section
variable {X:Cx}{elt iter tg:Expr}{ifs:List Expr}{scope:Scope}{pos:Pos}{wi:TI}{g:TG}{tt:TT}{te:TE}{N':List Str}{caps:List (Option Nat)}
theorem pp :
  ∀k,(relabel scope env).names.lookup x=some k->scope.names.lookup x=some k\/(k=.cell/\scope.names.lookup x=some .free):=by
 have go:∀(g:Str×NameKind->Str×NameKind),(∀p,g p=p\/(p.2=.free/\g p=(p.1,.cell)))->∀(names:List (Str×NameKind)) k,(names.map g).lookup x=some k->names.lookup x=some k\/(k=.cell/\names.lookup x=some .free):=by
  intro g hg names;induction names with
  | nil=>intro k h; exact nomatch h
  | cons p r ih=>
   intro k h;rw[List.map_cons] at h;obtain⟨n,kn⟩:=p;rcases hg (n,kn) with e | ⟨e1,e2⟩
   ·rw[e,List.lookup_cons] at h;rw[List.lookup_cons];cases hx:x == n with
    | true=>rw[hx] at h; exact .inl h
    | false=>rw[hx] at h; exact ih k h
   ·rw[e2,List.lookup_cons] at h;rw[List.lookup_cons];cases hx:x == n with
    | true=>
     rw[hx] at h;have e1':kn=.free:=e1;rw[e1'];exact .inr ⟨(bO h).symm,rfl⟩
    | false=>rw[hx] at h; exact ih k h
 refine go _ (fun p=>?_) scope.names;obtain⟨n,k⟩:=p;by_cases hb:(k == NameKind.free&&env.scope.kind == .function&&env.kindOf n == some .cell)=true
 ·refine .inr ⟨?_,if_pos hb⟩;simp only[Bool.and_eq_true,beq_iff_eq] at hb;exact hb.1.1
 ·exact .inl (if_neg hb)
theorem nA:∀(names:List (Str×NameKind)) (n:Nat) (acc:List (Str×Addr)),(∀y∈names,y.2=.cell->y.1≠x)->(cellsFrom n names acc).lookup x=acc.lookup x
 | [],_,_,_=>rfl
 | (m,k)::r,n,acc,h=>by
  have hr:=fun y hy=>h y (bw _ hy);unfold cellsFrom;split
  ·rename_i hk;rw[nA r _ _ hr,List.lookup_cons,show (x == m)=false from by simpa using fun e=>h (m,k) List.mem_cons_self (by simpa using hk) (Eq.symm e)]
  ·exact nA r n acc hr
theorem pk {x:Str}{lo:Nat}:∀(names:List (Str×NameKind)) (n:Nat) (acc:List (Str×Addr)),lo<=n->(∃c,acc.lookup x=some c/\lo<=c)->∃c,(cellsFrom n names acc).lookup x=some c/\lo<=c
 | [],_,_,_,h=>h
 | (m,k)::r,n,acc,hn,h=>by
  unfold cellsFrom;split
  ·refine pk r (n+1) _ (by omega) ?_;rw[List.lookup_cons];cases x == m with
   | true=>exact⟨n,rfl,hn⟩
   | false=>exact h
  ·exact pk r n acc hn h
theorem mP {x:Str}{lo:Nat}:∀(names:List (Str×NameKind)) (n:Nat) (acc:List (Str×Addr)),lo<=n->(x,NameKind.cell)∈names->∃c,(cellsFrom n names acc).lookup x=some c/\lo<=c
 | (m,k)::r,n,acc,hn,h=>by
  unfold cellsFrom;rcases bN h with e | h
  ·cases e;rw[if_pos (by decide)];refine pk r (n+1) _ (by omega) ⟨n,?_,hn⟩;rw[List.lookup_cons]; simp
  ·split
   ·exact mP r _ _ (by omega) h
   ·exact mP r _ _ hn h
structure CfOk (P:Str->Addr->Prop)(lo:Nat)(h:Heap)(cs:List (Str×Addr)):Prop where
 src:∀x c,cs.lookup x=some c->P x c\/(lo<=c/\h.IsCell c none)
 inj:∀x y c,cs.lookup x=some c->cs.lookup y=some c->x=y
 lt:∀x c,cs.lookup x=some c->c<h.objs.size
theorem oH {P:Str->Addr->Prop}{lo:Nat}:∀(names:List (Str×NameKind)) (h:Heap) (acc:List (Str×Addr)),lo<=h.objs.size->CfOk P lo h acc->CfOk P lo (pushCells h names) (cellsFrom h.objs.size names acc)
 | [],_,_,_,x=>x
 | (m,k)::r,h,acc,hlo,x=>by
  unfold pushCells cellsFrom;split
  ·have:=oH (P:=P) (lo:=lo) r (h.push { cls:=.type "cell",data:=.cell none }) ((m,h.objs.size)::acc) (by rw[Heap.size_push]; omega) ⟨fun y c e=>?_,fun y z c e e'=>?_,fun y c e=>?_⟩
   ·rwa [Heap.size_push] at this
   ·rw[List.lookup_cons] at e;cases hy:y == m with
    | true=>rw[hy] at e; cases e; exact .inr ⟨hlo,_,cR _ rfl,rfl⟩
    | false=>rw[hy] at e; exact (x.src y c e).imp id fun q=>⟨q.1,q.2.keeps fun b o e=>bz _ e⟩
   ·rw[List.lookup_cons] at e e';cases hy:y == m with
    | true=>
     rw[hy] at e; cases e;cases hz:z == m with
     | true=>rw[beq_iff_eq] at hy hz; rw[hy,hz]
     | false=>rw[hz] at e'; exact absurd (x.lt z _ e') (Nat.lt_irrefl _)
    | false=>
     rw[hy] at e;cases hz:z == m with
     | true=>rw[hz] at e'; cases e'; exact absurd (x.lt y _ e) (Nat.lt_irrefl _)
     | false=>rw[hz] at e'; exact x.inj y z c e e'
   ·rw[Heap.size_push];rw[List.lookup_cons] at e;cases hy:y == m with
    | true=>rw[hy] at e; cases e; exact Nat.lt_succ_self _
    | false=>rw[hy] at e; exact Nat.lt_succ_of_lt (x.lt y c e)
  ·exact oH r h acc hlo x
structure CsOk (X:Cx)(scope:Scope)(n:Nat)(h:Heap)(cs:List (Str×Addr)):Prop where
 src:∀x c,cs.lookup x=some c->X.env.cells.lookup x=some c\/(n<=c/\h.IsCell c none)
 inj:∀x y c,cs.lookup x=some c->cs.lookup y=some c->x=y
 has:∀x,(scope.names.lookup x=some .cell\/scope.names.lookup x=some .free)->∃c,cs.lookup x=some c
 fr:∀x c,scope.names.lookup x=some .free->cs.lookup x=some c->X.env.cells.lookup x=some c
 own:∀x c,scope.names.lookup x=some .cell->cs.lookup x=some c->n<=c
theorem CsOk.mk' {X:Cx}{sc:Scope}{N N':List Str}{caps:List (Option Nat)}{scope:Scope}{pins:List (Addr×Obj)}{σ:St}{H:Hp}{s:Shared}{cl:List (Str×Addr)}{c0:Value}(S:CompS sc N N' caps scope)(I:Inv X pins σ H s)
  (h1:∀x c,cl.lookup x=some c->X.env.cells.lookup x=some c)(h2:∀y∈scope.names,y.2=NameKind.free->∃c,cl.lookup y.1=some c) :
  CsOk X scope s.heap.objs.size (pushCells (s.heap.push { cls:=c0,data:=.dict #[] }) scope.names) (cellsFrom (s.heap.objs.size+1) scope.names cl):=by
 have ok:=oH (P:=fun x c=>X.env.cells.lookup x=some c) (lo:=s.heap.objs.size) scope.names (s.heap.push { cls:=c0,data:=.dict #[] }) cl (by rw[Heap.size_push]; omega)
  ⟨fun x c e=>.inl (h1 x c e),fun x y c e e'=>I.ok.inj x y c (h1 x c e) (h1 y c e'),fun x c e=>by
   obtain⟨v,o,ho,_⟩:=I.cell x c (h1 x c e);rw[Heap.size_push];exact Nat.lt_succ_of_lt (bn ho)⟩
 rw[Heap.size_push] at ok;have nf:∀x,scope.names.lookup x=some .free->∀y∈scope.names,y.2=.cell->y.1≠x:=fun x e y hy hk z=>by
  have:=S.cells y hy hk;rw[z,e] at this; cases this
 refine⟨ok.src,ok.inj,fun x h=>?_,fun x c e h=>?_,fun x c e h=>?_⟩
 ·rcases h with e | e
  ·obtain⟨c,q,_⟩:=mP (lo:=0) scope.names (s.heap.objs.size+1) cl (Nat.zero_le _) (PySem.mem_of_lookup e);exact⟨c,q⟩
  ·obtain⟨c,q⟩:=h2 _ (PySem.mem_of_lookup e) rfl;exact⟨c,(nA _ _ _ (nf x e)).trans q⟩
 ·rw[nA _ _ _ (nf x e)] at h;exact h1 x c h
 ·obtain⟨c',q,l⟩:=mP (lo:=s.heap.objs.size) scope.names (s.heap.objs.size+1) cl (Nat.le_succ _) (PySem.mem_of_lookup e);rw[h] at q; cases q;exact l
theorem v6
  (h:Q (newEnv scope s.heap.objs.size globals (cellsFrom (s.heap.objs.size+1) scope.names closure) qual none .none (some around) builtinsNs) { s with heap:=pushCells (s.heap.push { cls:=.type "dict",data:=.dict #[] }) scope.names }) :
  wpAny M A (newFunctionEnv scope globals closure [] qual none .none (some around)) Q E s:=by
 simp only[newFunctionEnv,Option.isSome_some,if_true];refine af (wpAny_alloc ?_);refine af (wpAny_layCells _ (fun name kind cells=>by cases hkc:kind == NameKind.cell <;> simp) _ _ _ _ ?_);rw[show ({ s with heap:=s.heap.push { cls:=.type "dict",data:=.dict #[] } }:Shared).heap.objs.size=s.heap.objs.size+1 from Heap.size_push ..];exact af (ay (ay h))
theorem Db (E:Value->Shared->Prop)(S:CompS X.env.scope X.N N' caps scope)(I:Inv X pins σ H s)(hC:s.heap.objs.size<=C)
 (O:CsOk X scope s.heap.objs.size h1 cl)(hf:∀b∈fp,ck X pins H b/\b<s.heap.objs.size) :
    (aP X N' scope cl C s H fp E).Ok where
  mod:=I.ok.mod
  kind:=S.kind
  glob:=I.ok.glob
  blt:=I.ok.blt
  above:=hC
  inj:=O.inj
  has:=fun x hx=>by
    have hx':(relabel scope X.env).names.lookup x=some .cell\/(relabel scope X.env).names.lookup x=some .free:=hx;refine O.has x ?_;rcases hx' with q | q
    · exact (pp _ q).imp id fun z=>z.2
    · rcases pp _ q with z | z
      · exact .inr z
      · exact absurd z.1 (by decide)
  cab:=fun x c z e=>O.own x c (by
    have z':(scope.names.lookup x == some NameKind.cell)=true:=z;simpa using z') e
  hd:=I.ok.hd
  frames:=I.ok.frames
  stk:=.inl rfl
  exf:=fun b hb=>⟨cH (dR (hf b hb).2 hC),fun x c e=>(O.src x c e).elim (fun q=>(hf b hb).1.2.2.2.2.1 x c q) fun q z=>absurd (z ▸ (hf b hb).2) (Nat.not_lt.mpr q.1)⟩
  bs:=I.bs
  bsz:=br I.ok.bsz I.sz
  noex:=fun b o e hb=>by
    rcases (hf b hb).1.2.2.2.1 with z | z
    · exact I.ok.noex b o e z
    · exact absurd (dR (bn e) (br I.ok.bsz z)) (Nat.lt_irrefl _)
  exfs:=fun b hb z=>by
    rcases bN (I.stkSub b z) with e | e
    · exact (hf b hb).1.2.1 e
    · exact (hf b hb).1.2.2.1 e
  funs:=I.stack
  frf:=I.stkFree
theorem Cq (E:Value->Shared->Prop)(S:CompS X.env.scope X.N N' caps scope)(I:Inv X pins σ H s)
  (O:CsOk X scope s.heap.objs.size h1 cl)(hf:∀b∈fp,ck X pins H b/\b<s.heap.objs.size)
  (hns:h1.Ns s.heap.objs.size m)(hk:∀b o,s.heap.get? b=some o->h1.get? b=some o) :
  Inv (aP X N' scope cl s.heap.objs.size s H fp E) [] (caps.map (gJ σ)) H { s with heap:=h1,toks:=tk } where
 ok:=Db E S I (aX _) O hf
 os:=rfl
 bare:=I.bare
 base:=Un.kept hk
 loc:=by
  refine⟨m,hns,fun i x v e1 e2 e3=>?_⟩;rw[List.getElem?_map] at e2;cases ec:caps[i]? with
  | none=>rw[ec] at e2; cases e2
  | some oc=>
   rw[ec] at e2;cases oc with
   | none=>cases e2
   | some j=>
    have e2':(σ[j]?).join=some v:=bO e2;have e4:σ[j]? = some (some v):=by
     cases q:σ[j]? with
     | none=>rw[q] at e2'; cases e2'
     | some o=>rw[q] at e2'; cases o with
      | none=>cases e2'
      | some v'=>cases e2'; rfl
    obtain⟨hN,hfr⟩:=S.cap i j x ec e1;have hkd:X.env.kindOf x=some .cell\/X.env.kindOf x=some .free:=S.free _ (PySem.mem_of_lookup hfr) rfl;obtain⟨m0,_,hl⟩:=I.loc;obtain⟨u,r,l⟩:=hl j x v hN e4 (hkd.elim (fun z=>.inr (.inl z)) fun z=>.inr (.inr z));refine⟨u,r,?_⟩;rcases l with ⟨z,_⟩ | ⟨_,c,hc,hcell⟩
    ·rcases hkd with q | q <;> rw[q] at z <;> cases z
    ·obtain⟨c',hc'⟩:=O.has x (.inr hfr);have:c'=c:=by
      have:=O.fr x c' hfr hc';rw[hc] at this; exact (bO this).symm
     subst this;have e3':(relabel scope X.env).names.lookup x=some .local\/(relabel scope X.env).names.lookup x=some .cell\/(relabel scope X.env).names.lookup x=some .free:=e3;refine .inr ⟨?_,c',hc',?_⟩
     ·rcases e3' with q | q | q
      ·rcases pp _ q with z | z
       ·rw[hfr] at z; cases z
       ·exact absurd z.1 (by decide)
      ·exact .inl q
      ·exact .inr q
     ·obtain⟨o,ho,hd⟩:=hcell;exact⟨o,hk _ o ho,hd⟩
 cell:=fun x c e=>by
  rcases O.src x c e with q | q
  ·obtain⟨v,o,ho,hd⟩:=I.cell x c q;exact⟨v,o,hk _ o ho,hd⟩
  ·exact⟨none,q.2⟩
 free:=I.hok.fresh (aX _)
 freeC:=fun x c e=>(O.src x c e).elim (I.freeC x c) fun q=>I.hok.fresh q.1
 pin:=fun p hp=>absurd (show p∈([]:List (Addr×Obj)) from hp) (by simp)
 hok:=I.hok.kept hk
 len:=by rw[List.length_map]; exact S.len
theorem vX {pins:List (Addr×Obj)}{σ:St}{H:Hp}{s:Shared}{cl:List (Str×Addr)}{it:Addr}{fp:List Addr}{tn:Nat->Heap->Prop}{J:It}{Q:VK}{RR:Value->Addr->Result->Shared->Prop}
  (hc:X.calm=true)(S:CompS X.env.scope X.N N' caps scope)(I:Inv X pins σ H s)
  (c1:∀x c,cl.lookup x=some c->X.env.cells.lookup x=some c)(c2:∀y∈scope.names,y.2=NameKind.free->∃c,cl.lookup y.1=some c)
  (T:Turn X.prog X.w X.K tg J fp it tn)(t0:tn 0 s.heap)(hf:∀b∈fp,ck X pins H b)
  (hg:∀cl C s H fp,PG (aP X N' scope cl C s H fp fun _ _=>False) tg g)(ht:∀cl C s H fp,PTs (aP X N' scope cl C s H fp fun _ _=>False) ifs tt)(he:∀cl C s H fp,PE (aP X N' scope cl C s H fp fun _ _=>False) elt te)
  (hw:∀l,H l=none->iD J l g tt te Q (caps.map (gJ σ)) H)
  (hR:∀l C s' H' m,Inv X pins σ H' s'->ck X pins H' C->s'.heap.Ns C m->Q (.ref l) H'->RR (.ref l) C (.ok .next) s') :
  wpAny (model X.prog X.w) X.A (newList []) (fun acc s₃=>wpAny (model X.prog X.w) X.A (newFunctionEnv scope X.env.globals cl [] X.env.qual none .none (some X.env)) (fun cenv s₄=>
   codeAny (model X.prog X.w) X.A (.compStart (.ListComp elt [⟨tg,iter,ifs,0⟩] scope pos) 0 (.ref it) acc { cenv with scope:=relabel scope X.env }) (RR acc cenv.locals) s₄) X.xe s₃) X.xe s:=by
 refine wpAny_newObj_type (v6 ?_);dsimp only;have I3:Inv X pins σ (upd H s.heap.objs.size (.lst [])) { s with heap:=s.heap.push { cls:=.type "list",dict:=none,data:=.seq ([]:List Value).toArray } }:=
  I.laid (t':=s.toks) (fun b u e=>bz _ e) (aX _) ⟨Nat.zero_le _,[],0,.nil,cR _ rfl⟩
 have hl0:H s.heap.objs.size=none:=I.hok.fresh (aX _);have lt0:∀b∈fp,b<s.heap.objs.size:=fun b hb=>by
  obtain⟨o,e,_⟩:=T.obj 0 _ t0 b hb;exact bn e
 obtain⟨W,⟨m0,w0⟩,turn⟩:=hw s.heap.objs.size hl0;generalize hH2:s.heap.push { cls:=.type "list",dict:=none,data:=.seq ([]:List Value).toArray }=H2 at I3 ⊢;have hC:H2.objs.size=s.heap.objs.size+1:=by rw[<-hH2,Heap.size_push]
 have O:=CsOk.mk' (c0:=.type "dict") S I3 c1 c2;have hns₁:(pushCells (H2.push { cls:=.type "dict",data:=.dict #[] }) scope.names).Ns H2.objs.size fun _=>none:=(Heap.Ns.new H2 (.type "dict")).keeps (pushCells_keeps _ _);have old:∀b o,H2.get? b=some o->(pushCells (H2.push { cls:=.type "dict",data:=.dict #[] }) scope.names).get? b=some o:=fun b o e=>pushCells_keeps _ _ b o (bz _ e);dsimp only at O;generalize pushCells (H2.push { cls:=.type "dict",data:=.dict #[] }) scope.names=h₁ at O hns₁ old ⊢;generalize hcs:cellsFrom (H2.objs.size+1) scope.names cl=cs at O ⊢;have old0:∀b o,s.heap.get? b=some o->h₁.get? b=some o:=fun b o e=>old b o (hH2 ▸ bz _ e);have hf3:∀b∈fp,ck X pins (upd H s.heap.objs.size (.lst [])) b/\b<H2.objs.size:=fun b hb=>
  ⟨⟨by rw[aZ (Nat.ne_of_lt (lt0 b hb))]; exact (hf b hb).1,(hf b hb).2⟩,by rw[hC]; exact Nat.lt_succ_of_lt (lt0 b hb)⟩
 have Er:Value->Shared->Prop:=notedBy (model X.prog X.w) X.A (compEnvC scope cs H2.objs.size X.env) fun e s'=>RR (.ref s.heap.objs.size) H2.objs.size (.error e) s';have loop:∀s₃:Shared,s₃={ s with heap:=h₁,toks:=s.toks } ->
   codeAny (model X.prog X.w) X.A (.compLoop (.ListComp elt [⟨tg,iter,ifs,0⟩] scope pos) 0 (.ref it) (.ref s.heap.objs.size) (compEnvC scope cs H2.objs.size X.env))
    (RR (.ref s.heap.objs.size) H2.objs.size) s₃:=by
  rintro s₃ rfl;have I4:=Cq (N':=N') (caps:=caps) (tk:=s.toks) (notedBy (model X.prog X.w) X.A (compEnvC scope cs H2.objs.size X.env) fun e s'=>RR (.ref s.heap.objs.size) H2.objs.size (.error e) s') S I3 O hf3 hns₁ old;generalize hX':aP X N' scope cs H2.objs.size { s with heap:=H2 } (upd H s.heap.objs.size (.lst [])) fp (notedBy (model X.prog X.w) X.A (compEnvC scope cs H2.objs.size X.env) fun e s'=>RR (.ref s.heap.objs.size) H2.objs.size (.error e) s')=X' at I4;have hg':PG X' tg g:=by rw[<-hX']; exact PG.nox (hg cs H2.objs.size { s with heap:=H2 } (upd H s.heap.objs.size (.lst [])) fp)
  have ht':PTs X' ifs tt:=by rw[<-hX']; exact PTs.nox (ht cs H2.objs.size { s with heap:=H2 } (upd H s.heap.objs.size (.lst [])) fp)
  have he':PE X' elt te:=by rw[<-hX']; exact PE.nox (he cs H2.objs.size { s with heap:=H2 } (upd H s.heap.objs.size (.lst [])) fp)
  have eP:X'.prog=X.prog:=by rw[<-hX']; rfl
  have eW:X'.w=X.w:=by rw[<-hX']; rfl
  have eK:X'.K=X.K:=by rw[<-hX']; rfl
  have eA:X'.A=X.A:=by rw[<-hX']; rfl
  have eC:X'.calm=true:=by rw[<-hX']; exact hc
  have eE:X'.env=compEnvC scope cs H2.objs.size X.env:=by rw[<-hX']; rfl
  have eX:X'.xe=notedBy (model X.prog X.w) X.A (compEnvC scope cs H2.objs.size X.env) fun e s'=>RR (.ref s.heap.objs.size) H2.objs.size (.error e) s':=by rw[<-hX']; rfl
  have stat:∀{H':Hp},(∀b∈fp,H' b=none)->∀b∈fp,ck X' [] H' b:=fun {H'} hn b hb=>by
   obtain⟨f0,f1,f2,f3,f4,f5⟩:=hf b hb;refine⟨hn b hb,?_,?_,.inl ?_,fun x c e=>?_,fun p hp=>?_⟩
   ·rw[eE]; exact cH (by show b<H2.objs.size; rw[hC]; exact Nat.lt_succ_of_lt (lt0 b hb))
   ·intro z;have z':b∈eL X.stack:=by rw[<-hX'] at z; exact z
    rcases bN (I.stkSub b z') with e | e
    ·exact f1 e
    ·exact f2 e
   ·rw[<-hX']; exact hb
   ·rw[eE] at e; exact (O.src x c e).elim (f4 x c) fun q z=>absurd (z ▸ lt0 b hb) (Nat.not_lt.mpr (br (by rw[hC]; exact Nat.le_succ _) q.1))
   ·have:p∈([]:List (Addr×Obj)):=by rw[<-hX'] at hp; exact hp
    exact absurd this (by simp)
  refine zG (fun n s'=>∃i ys σ' H',Inv X' [] σ' H' s'/\tn i s'.heap/\(∀b∈fp,H' b=none)/\W i n ys σ' H') ?_ m0
   ⟨0,[],_,_,I4,T.keep 0 _ _ t0 fun b _ o e=>old0 b o e,fun b hb=>(hf3 b hb).1.1,w0⟩
  rintro n s5 ⟨i,ys,σ5,H5,I5,tn5,fr5,w5⟩;rw[<-eX];rcases turn i n ys σ5 H5 w5 with ⟨stop,q⟩ | ⟨go,N,hN,step⟩
  ·have d:=T.done X' eP eW eK eC i [] s5 σ5 H5 X'.xe I5 (stat fr5) tn5 stop;rw[eA] at d;refine aB d fun r s6 hZz=>?_;obtain⟨hr,I6⟩:=hZz;subst hr;have u:Un (eL X.stack) fp (upd H s.heap.objs.size (.lst [])) H5 H2 s6.heap:=by
    have:=I6.base;rw[<-hX'] at this; exact this
   have hok6:HOk X.prog X.w H5 s6.heap:=by have:=I6.hok; rw[eP,eW] at this; exact this
   have os6:s6.os=s.os:=by have:=I6.os; rw[<-hX'] at this; exact this
   have I7:Inv X pins σ H5 s6:=I3.call' (ch:=fp) os6 u hok6 I6.bare fun b hb=>by
    obtain⟨f0,f1,f2,f3,f4,f5⟩:=hf b hb;exact⟨f3,f1,f4,f5⟩
   obtain⟨m6,n6,_⟩:=I6.loc;have fC:H5 H2.objs.size=none:=by have:=I6.free; rw[eE] at this; exact this
   rw[eE] at n6;exact hR _ _ s6 H5 m6 I7 (I3.fpOk (aX _) fC) n6 q
  ·have d:=T.item X' eP eW eK eC i [] s5 σ5 H5 X'.xe I5 (stat fr5) tn5 go;rw[eA] at d;refine aB d fun r s6 hZz=>?_;obtain⟨u,hr,h6⟩:=hZz;subst hr;refine aB h6 fun _ s7 hZz=>?_;obtain⟨x,H7,I7,r7,y7,tn7,fr7⟩:=hZz;have I7':=I7.pinned (stat fr7) (T.obj _ _ tn7);have ag:=hg' _ s7 σ5 H7 x u _ I7' r7 (step x H7 y7);rw[eP,eW,eA,eE] at ag;refine aB ag fun _ s8 hZz=>?_;obtain⟨σ8,H8,I8,q8⟩:=hZz;have at':=ht' _ s8 σ8 H8 _ I8 q8;rw[eP,eW,eA,eE] at at';have again:∀{s9:Shared} {σ9:St} {H9:Hp} {ys9:List V},Inv X' ([]++cJ fp s7.heap) σ9 H9 s9->N ys9 σ9 H9->∃m,m<n/\∃i ys σ' H',Inv X' [] σ' H' s9/\tn i s9.heap/\(∀b∈fp,H' b=none)/\W i m ys σ' H':=fun {s9 σ9 H9 ys9} I9 n9=>by
    obtain⟨m',hm,w9⟩:=hN ys9 σ9 H9 n9;refine⟨m',hm,i+1,ys9,σ9,H9,I9.unpinned,T.keep _ _ _ tn7 fun b hb o e=>(I9.pin (b,o) (bR _ (bR _ (kq hb e)))).1,fun b hb=>?_,w9⟩;obtain⟨o,e,dd⟩:=T.obj _ _ tn7 b hb;exact (I9.pin (b,o) (bR _ (bR _ (kq hb e)))).2.1
   refine aB at' fun ok s9 hZz=>?_;obtain⟨H9,I9,q9⟩:=hZz;cases ok with
   | false=>
    rw[if_neg (by decide)] at q9 ⊢;exact again I9 q9
   | true=>
    rw[if_pos rfl] at q9 ⊢;have ae:=he' _ s9 σ8 H9 _ I9 q9;rw[eP,eW,eA,eE] at ae;refine aB ae fun y s10 hZz=>?_;obtain⟨v,H10,I10,r10,q10⟩:=hZz;obtain⟨ys',hy,hz,hn⟩:=q10;have aa:=sd (X:=X') _ s10 σ8 H10 (.ref s.heap.objs.size) [v] (.ref s.heap.objs.size) [y] (fun _ H'=>N (ys'++[v]) σ8 H') I10 rfl (.cons r10 .nil) ⟨_,ys',v,rfl,rfl,hy,hz,hn⟩;rw[eP,eW,eA] at aa;exact aB aa fun _ s11 ⟨_,H11,I11,_,q11⟩=>again I11 q11
 exact codeAny_compStart_list (loop _ rfl) (T.self _ 0 _ _ _ (T.keep 0 _ _ t0 fun b _ o e=>old0 b o e) (loop _ rfl))
theorem Du (hc:X.calm=true)(hS:compOk X.env.scope X.N N' caps scope=true)(hi:PI X tg iter wi)
  (hg:∀cl C s H fp,PG (aP X N' scope cl C s H fp fun _ _=>False) tg g)(ht:∀cl C s H fp,PTs (aP X N' scope cl C s H fp fun _ _=>False) ifs tt)(he:∀cl C s H fp,PE (aP X N' scope cl C s H fp fun _ _=>False) elt te)
  (hs:∀x,foldedSetIterable iter X.env x=pure x:=by intro _; rfl) :
  PE X (.ListComp elt [⟨tg,iter,ifs,0⟩] scope pos) (eT wi caps g tt te):=by
 intro pins s σ H Q I h;have S:=CompS.of hS;obtain⟨cl,hcl,c1,c2⟩:=sS (scope:=scope) (env:=X.env) fun y hy hyf=>I.ok.has y.1 (S.free y hy hyf);rw[eval_ListComp];refine wpAny_comprehension_free (use:=none) rfl hs hcl S.kind S.locs (aB (hi pins s σ H _ I h) fun v s1 h1=>aB h1 fun itv s2 h2=>?_);obtain⟨it,fp,tn,J,H2,rfl,I2,T,t0,f2,hw⟩:=h2;refine vX (RR:=fun acc C=>compPost (model X.prog X.w) X.A X.xe none (EP X pins σ Q) acc C) hc S I2 c1 c2 T t0 f2 hg ht he hw ?_;intro l C s' H' m I' fC hn q;refine⟨m,hn,fun h' hs'=>?_⟩;obtain⟨f0,f1,f3,f4,f5,f6⟩:=fC;have I'':Inv X pins σ H' { s' with heap:=h' }:=I'.turned (t':=s'.toks) (it:=C) (fun b o hb e=>hs'.extBut b o hb e) f0 f1 f4 f5 f6;exact⟨.ref l,H',I'',rfl,q⟩
theorem xb (hc:X.calm=true)(hS:compOk X.env.scope X.N N' caps scope=true)(hN:X.N.Nodup)(hx:X.N[i]? = some x)(hl:Loc X.env.scope x)(hi:PI X tg iter wi)
  (hg:∀cl C s H fp,PG (aP X N' scope cl C s H fp fun _ _=>False) tg g)(ht:∀cl C s H fp,PTs (aP X N' scope cl C s H fp fun _ _=>False) ifs tt)(he:∀cl C s H fp,PE (aP X N' scope cl C s H fp fun _ _=>False) elt te)
  (hsw:swapsWith (.ListComp elt [⟨tg,iter,ifs,0⟩] scope pos) (some (.Name x pos')) spos.line X.env=pure true)(hf:X.fn x=true\/X.env.scope.names.lookup x=some .local:=by first | exact .inl rfl | exact .inr rfl | assumption)
  (hs:∀x,foldedSetIterable iter X.env x=pure x:=by intro _; rfl) :
  PS X (.Assign [.Name x pos'] (.ListComp elt [⟨tg,iter,ifs,0⟩] scope pos) spos) (fR (eT wi caps g tt te) (da i)):=by
 intro pins s σ H D I h;have S:=CompS.of hS;obtain⟨cl,hcl,c1,c2⟩:=sS (scope:=scope) (env:=X.env) fun y hy hyf=>I.ok.has y.1 (S.free y hy hyf);rw[exec_Assign_Name_used _ _ _ _ hsw];refine af (wpAny_standAt (af ?_));show wpAny _ X.A (do let _ <-comprehension (.ListComp elt [⟨tg,iter,ifs,0⟩] scope pos) scope X.env _ (newList []) false (eval iter X.env) (some (assign (.Name x pos') X.env))) _ _ s;refine af (wpAny_mono (wpAny_comprehension_free (use:=some (assign (.Name x pos') X.env)) (Q:=fun _ s'=>SP X pins D .next s') rfl hs hcl S.kind S.locs
  (aB (hi pins s σ H _ I h) fun v s1 h1=>aB h1 fun itv s2 h2=>?_)) (fun _ s' hq=>ay (ay hq)) fun _ _ e=>e)
 obtain⟨it,fp,tn,J,H2,rfl,I2,T,t0,f2,hw⟩:=h2;refine vX (RR:=fun acc C=>compPost (model X.prog X.w) X.A X.xe (some (assign (.Name x pos') X.env)) (fun _ s'=>SP X pins D .next s') acc C) hc S I2 c1 c2 T t0 f2 hg ht he hw ?_;intro l C s' H' m I' fC hn q;show wpAny _ X.A (assign (.Name x pos') X.env (.ref l)) _ _ s';have oC:=hn;obtain⟨o,es,ep,ho,hd,_⟩:=oC;have I1:Inv X (pins++cJ [C] s'.heap) σ H' s':=I'.pinned (fp:=[C]) (fun b hb=>by rw[List.mem_singleton.mp hb]; exact fC) fun b hb=>by
  rw[List.mem_singleton.mp hb];exact⟨o,ho,fun v z=>by rw[hd] at z; cases z⟩
 refine aB (oW (i:=i) hN hx hl hf _ s' σ H' (.ref l) (.ref l) D.nx I1 rfl q) fun _ s2 hZz=>?_;obtain⟨σ2,H2',I2',q2⟩:=hZz;have hC2:s2.heap.get? C=some o:=(I2'.pin (C,o) (bR _ (bR _ (kq (List.mem_singleton.mpr rfl) ho)))).1;have nC2:H2' C=none:=(I2'.pin (C,o) (bR _ (bR _ (kq (List.mem_singleton.mpr rfl) ho)))).2.1;have hn2:s2.heap.Ns C m:=by
  obtain⟨o',es',ep',ho',r'⟩:=hn;rw[ho] at ho'; cases ho';exact⟨o,es',ep',hC2,r'⟩
 refine⟨m,hn2,fun h' hs'=>?_⟩;obtain⟨f0,f1,f3,f4,f5,f6⟩:=fC;have I'':Inv X pins σ2 H2' { s2 with heap:=h' }:=(I2'.unpinned).turned (t':=s2.toks) (it:=C) (fun b o hb e=>hs'.extBut b o hb e) nC2 f1 f4 f5 f6;exact⟨σ2,H2',I'',q2⟩
end
noncomputable def cX (P:Program)(w:World):fM:=fun outer H s E e s'=>∃(a T C:Addr) (fs:List (Str×V)) (H':Hp),e=.ref a/\s'.os=s.os/\AllBare s'.gens/\Un (eL outer) [] H H' s.heap s'.heap/\HOk P w H' s'.heap /\
 H' a=some (.exc C false fs)/\Fly s'.heap a T .none/\H' T=none/\s.heap.objs.size<=T/\E (.ref a) none H'
section
variable {X:Cx}{pins:List (Addr×Obj)}{σ:St}{H:Hp}{s:Shared}
theorem Inv.fsFree (I:Inv X pins σ H s):∀b∈X.fs,H b=none:=fun b hb=>by
 obtain⟨_,o,ho,_⟩:=I.ok.funs.mem hb;exact I.base.free b o ho (I.ok.frf b hb) fun z=>I.ok.exfs b z hb
theorem Inv.xstep {a C:Addr}{nw:Bool}{fs:List (Str×V)}{fr ch:List Addr}{h':Heap}(I:Inv X pins σ H s)(ha:H a=some (.exc C nw fs))(st:XStep fr a ch s.heap h')(hfr:∀b∈fr,b=X.env.locals\/b∈X.fs)
  (hch:∀b∈ch,H b=none/\X.s₀.heap.objs.size<=b/\b≠X.env.locals/\(∀x c,X.env.cells.lookup x=some c->c≠b)/\∀p∈X.pn++pins,p.1≠b) :
  Inv X pins σ (upd H a (.exc C false fs)) { s with heap:=h' }:=by
 have aN:∀b,H b=none->b≠a:=fun b n z=>by rw[z,ha] at n; cases n
 have frN:∀b∈fr,H b=none:=fun b hb=>by
  rcases hfr b hb with z | z
  ·rw[z]; exact I.free
  ·exact I.fsFree b z
 have tr:∀b o,H b=some o->b∉fr/\b∉ch:=fun b o e=>⟨(fun z=>by rw[frN b z] at e; cases e),(fun z=>by rw[(hch b z).1] at e; cases e)⟩
 have up:∀b o,H b=some o->b≠a->(upd H a (.exc C false fs)) b=some o:=fun b o e n=>by rw[aZ n]; exact e
 refine I.step (g':=s.gens) (d':=s.drawn) (t':=s.toks) (ch:=ch) (fun b hb=>⟨.inr (hch b hb).2.1,(hch b hb).2.2⟩) (fun b o n1 n2 n3 e n=>?_) (fun b o n1 n2 n3 e n=>?_) (fun b o _ _ n=>by rw[aZ (aN b n)]; exact n)
  (fun b o n3 e=>?_) (fun b xs e=>up b _ e fun z=>by rw[z,ha] at e; cases e) (fun b o u e=>up b _ e fun z=>by rw[z,ha] at e; cases e) (fun b ps e=>⟨#[],?_⟩) (fun m hm=>?_) (fun b o e=>?_) I.bare
 ·exact st.keep b o e (aN b n) (fun z=>(hfr b z).elim n1 n2) n3
 ·by_cases z:b∈fr
  ·exact st.slot b o e (aN b n) z n3
  ·exact⟨o.slots,st.keep b o e (aN b n) z n3⟩
 ·by_cases z:b=a
  ·subst z;obtain⟨_,o',vs,e',_,hd,_⟩:=I.hok b _ ha;obtain⟨vs',e2,_⟩:=st.exc o' vs e' hd;exact⟨_,e2⟩
  ·exact st.there b o e z
 ·rw[up b _ e fun z=>by rw[z,ha] at e; cases e]; simp
 ·obtain⟨o,es,ep,ho,r⟩:=hm;have n:=aN _ I.free;have nc:X.env.locals∉ch:=fun z=>(hch _ z).2.2.1 rfl;by_cases z:X.env.locals∈fr
  ·obtain⟨sl,e⟩:=st.slot _ o ho n z nc;exact⟨_,es,ep,e,r⟩
  ·exact⟨o,es,ep,st.keep _ o ho n z nc,r⟩
 ·by_cases hb:b=a
  ·subst hb;rw[bu] at e;cases e;obtain⟨z,o',vs,e',c1,c2,c3,c4,q⟩:=I.hok b _ ha;obtain⟨vs',e2,sz,_⟩:=st.exc o' vs e' c2;refine⟨z,_,vs',e2,c1,rfl,sz.trans c3,(fun w=>nomatch w),?_⟩;rcases q with q | ⟨dx,d1,d2,d3,mA,⟨od,es,ep,e3,c⟩,r⟩
   ·exact .inl q
   ·exact .inr ⟨dx,d1,up dx _ d2 d3,d3,mA,⟨od,es,ep,st.keep dx od e3 d3 (tr dx _ d2).1 (tr dx _ d2).2,c⟩,r⟩
  ·rw[aZ hb] at e;refine (I.hok b o e).stay (fun c u hc q=>?_) (fun c q=>up c _ q fun z=>by rw[z,ha] at q; cases q) fun c xs q=>up c _ q fun z=>by rw[z,ha] at q; cases q
   rcases hc with z | z
   ·subst z;exact st.keep c u q hb (tr c _ e).1 (tr c _ e).2
   ·exact st.keep c u q (fun y=>by rw[y,ha] at z; cases z) (tr c _ z).1 (tr c _ z).2
theorem Inv.newAt (I:Inv X pins σ H s)(hb:s.heap.objs.size<=b):H b=none/\X.s₀.heap.objs.size<=b/\b≠X.env.locals/\(∀x c,X.env.cells.lookup x=some c->c≠b)/\∀p∈X.pn++pins,p.1≠b:=by
 obtain⟨f0,f1,f2,f3,f4,f5⟩:=I.fpOk hb (I.hok.fresh hb);exact⟨f0,br I.sz hb,f1,f4,f5⟩
theorem Inv.sinceAt (I:Inv X pins σ H s)(I':Inv X pins σ' H' s')(hb:s.heap.objs.size<=b)(hn:H' b=none):H' b=none/\X.s₀.heap.objs.size<=b/\b≠X.env.locals/\(∀x c,X.env.cells.lookup x=some c->c≠b)/\∀p∈X.pn++pins,p.1≠b:=by
 obtain⟨f0,f1,f2,f3,f4⟩:=I.newAt hb;exact⟨hn,f1,f2,f3,f4⟩
def ma (X:Cx)(E:St->XK):Prop:=∀(pins:List (Addr×Obj)) (σ:St) (H:Hp) (s:Shared) (a C:Addr) (fs:List (Str×V)),Inv X pins σ H s->H a=some (.exc C true fs)->E σ (.ref a) none (upd H a (.exc C false fs))->X.xe (.ref a) s
end
theorem passN:aQ (cX P w) X (fun _ _ _ _=>False):=fun _ _ _ _ _ _ _ h=>by
 obtain⟨_,_,_,_,_,_,_,_,_,_,_,_,_,_,z⟩:=h;exact z.elim
section
variable {P:Program}{w:World}{K:aG}{mg:Str->Option Value}{base:Heap}{N:List Str}{qual:Str}{scope:Scope}{f:Addr}{cd:Value}{A:Around}{outer:List Env}{s:Shared}{H:Hp}{E:XK}
theorem passF:aQ (cX P w) (dX (cX P w) P w K mg base N qual scope f cd A outer s H E) (fun _=>E):=by
 intro pins σ H1 s1 e s' I1 hcx;obtain⟨a,T,C,fs,H2,rfl,os,bare,un,hok,ha,fly,nT,lT,q⟩:=hcx;have I2:=I1.call' (ch:=[]) os un hok bare fun b z=>absurd z (by simp);show wpAny _ _ (leaving _ (.ref a)) _ _ s';refine yG (base:=base) I2.ok.frames I2.stack rfl fly fun h' F' st=>?_;have I3:=I2.xstep ha st (fun b hb=>bN (I2.stkSub b hb)) fun b hb=>by
  rcases bN hb with z | z
  ·rw[z]; exact I1.sinceAt I2 lT nT
  ·rw[List.mem_singleton.mp z]; exact I2.newAt (aX _)
 have e:upd H2 a (.exc C false fs)=H2:=by
  funext b
  by_cases z:b=a
  ·subst z; rw[bu,ha]
  ·rw[aZ z]
 rw[e] at I3;exact⟨a,_,C,fs,H2,rfl,I3.os,I3.bare,I3.base,I3.hok,ha,F',(I2.newAt (aX _)).1,br I1.sz (br (Nat.le_of_lt_succ (Nat.lt_succ_of_le (by
  have:=I2.sz;have h1:s1.heap.objs.size<=s'.heap.objs.size:=by
   obtain⟨m,hn,_⟩:=I1.loc;exact br lT (Nat.le_of_lt (by obtain⟨⟨_,_,_,_,_,_,_,z,_⟩,_⟩:=fly; exact bn z))
  exact h1))) (aX _)),q⟩
theorem kc:ma (dX (cX P w) P w K mg base N qual scope f cd A outer s H E) (fun _=>E):=by
 intro pins σ H1 s1 a C fs I1 ha q;obtain⟨_,o,vs,e,c1,c2,c3,c4,_⟩:=I1.hok a _ ha;show wpAny _ _ (leaving _ (.ref a)) _ _ s1;refine BB (base:=base) I1.ok.frames I1.stack rfl e c2 (c4 rfl) fun h' F' st=>?_;have I3:=I1.xstep ha st (fun b hb=>bN (I1.stkSub b hb)) fun b hb=>by
  rw[List.mem_singleton.mp hb]; exact I1.newAt (aX _)
 have nT:(upd H1 a (.exc C false fs)) s1.heap.objs.size=none:=by
  rw[aZ (fun z=>by have:=I1.hok.lt ha; rw[<-z] at this; exact Nat.lt_irrefl _ this)];exact (I1.newAt (aX _)).1
 exact⟨a,_,C,fs,_,rfl,I3.os,I3.bare,I3.base,I3.hok,bu,F',nT,I1.sz,q⟩
end
section
variable {X:Cx}{e:Expr}{te:TE}{pos:Pos}{E:St->XK}
def eH (K:aG)(te:TE)(E:St->XK):TS:=fun _ σ H=>te σ H fun v H1=>∃(a C:Addr) (tl:List Addr) (fs:List (Str×V)),v=.ref a/\H1 a=some (.exc C true fs)/\XO K C tl/\E σ (.ref a) none (upd H1 a (.exc C false fs))
theorem ua (hc:X.calm=true)(hx:ma X E)(he:PE X e te):PS X (.Raise (some e) none pos) (eH X.K te E):=by
 intro pins s σ H D I h;have go:wpAny (model X.prog X.w) X.A (raiseStmt X.env (some (do let v <-eval e X.env; standAt pos; pure v)) none) (SP X pins D) X.xe s:=by
  refine yP (K:=X.K) (I.ok.hd hc) (af (aB (he pins s σ H _ I h) fun u s1 ⟨v,H1,I1,r1,q1⟩=>af (wpAny_standAt (ay ?_))));obtain⟨a,C,tl,fs,rfl,ha,T,q⟩:=q1;obtain rfl:u=Value.ref a:=r1;obtain⟨_,o,vs,e1,c1,c2,c3,c4,_⟩:=I1.hok a _ ha;exact⟨a,C,tl,o,vs,rfl,T,e1,c1,c2,c4 rfl,I1.kIn,hx pins σ H1 s1 a C fs I1 ha q⟩
 rw[arm_exec_Raise];exact af (wpAny_standAt go)
end
section
variable {X:Cx}{k:Nat}{f C W:Addr}{tl:List Addr}{fd:FuncData}{ps:List Str}{sp:Sp}{dvs:List V}{ds:List Value}{E:St->XK}{x m:Str}{p pos apos:Pos}{e o:Expr}{es:List Expr}{ta tv:TE}{t:TA}
def dI (C:Addr)(sp:Sp)(dvs:List V)(E:St->XK)(t:TA):TE:=fun σ H Q=>t σ H fun vs H1=>vs.length<=100/\∀x,H1 x=none ->
 sp (.ref x::(vs++dvs)) (upd H1 x (.exc C true [])) (fun v H2=>v=.non/\Q (.ref x) H2) (E σ)
theorem vw (T:XC X.K C (.ref f) tl)(F:FnOk X.prog X.w X.K X.mg X.base (cX X.prog X.w) k f fd ps sp)(hr:Room (k+1) X.A)(hb:Binds X.K fd ps ds)(hd:Vals dvs ds)
  (hx:aQ (cX X.prog X.w) X E)(I:Inv X pins σ H s)(r:Vals vs us)(hl100:vs.length<=100)
  (h:∀x,H x=none->sp (.ref x::(vs++dvs)) (upd H x (.exc C true [])) (fun v H2=>v=.non/\Q (.ref x) H2) (E σ)) :
  wpAny (model X.prog X.w) X.A (call (.ref C) us) (EP X pins σ Q) X.xe s:=by
 have hlen:us.length<=sizeLine:=by rw[<-r.length]; exact Nat.le_of_lt (oV (by omega))
 refine vV T I.kIn hlen fun h' a hm la=>?_;have hq:=h a (I.hok.fresh la);obtain⟨tt,ea,nt,et⟩:=hm.there;have I2:Inv X pins σ (upd H a (.exc C true [])) { s with heap:=h' }:=I.laid (t':=s.toks) hm.keeps la ⟨Nat.zero_le _,_,_,ea,rfl,rfl,rfl,fun _=>rfl,.inl ⟨rfl,rfl⟩⟩;have r2:Vals (V.ref a::(vs++dvs)) (Value.ref a::(us++ds)):=.cons rfl (r.append hd);have hl:(Value.ref a::us++ds).length=ps.length:=by
  have e:=r2.length;rw[F.len _ _ _ _ hq] at e;exact e.symm
 refine wpAny_call (codeAny_mono (F.run _ X.stack _ _ ⟨Value.ref a::us,[]⟩ (Value.ref a::(us++ds)) _ _ (E σ) (hr.make C us []) (I2.env0.make C us []) (hb _ (Value.ref a::us) I2.kIn hl) r2 hq) fun rr s' hq'=>?_);cases rr with
 | error e=>exact hx pins σ _ _ e s' I2 hq'
 | ok fl=>
  cases fl with
  | ret u=>
   obtain⟨v,H',I3,rv,ev,q3⟩:=I2.after hq';subst ev;exact⟨rv,⟨V.ref a,H',I3,rfl,q3⟩⟩
  | next=>exact False.elim hq'
  | brk=>exact False.elim hq'
  | cont=>exact False.elim hq'
theorem DK (T:XC X.K C (.ref f) tl)(hkp:PySem.W.keepIn X.K (.ref C)=true)(F:FnOk X.prog X.w X.K X.mg X.base (cX X.prog X.w) k f fd ps sp)(hr:Room (k+1) X.A)(hg:Gl X x)(hm:X.mg x=some (.ref C))(hb:Binds X.K fd ps ds)(hd:Vals dvs ds)(hx:aQ (cX X.prog X.w) X E)
  (ha:PA X (e::es) t)(hdb:(x == ("__debug__" : Str))=false:=by decide)(he:starEach (e::es) X.env=(false,eval e X.env)::starEach es X.env:=by rfl)(hpl:(backTo pos (starEach es X.env)).any (·.1)=false:=by rfl) :
  PE X (.Call (.Name x p) (e::es) [] pos) (dI C sp dvs E t):=by
 intro pins s σ H Q I h;refine wpAny_Call_Name_kw (gr I hg hm ?_ hdb);refine PySem.W.callWith_K (h₀:=X.base) I.ok.mod.kin hkp (aB (ha pos pins s σ H _ I h) fun us s1 ⟨vs,H1,I1,r,q⟩=>⟨I1.kIn,?_⟩) he hpl;exact vw T F hr hb hd hx I1 r q.1 q.2
theorem xR (T:XC X.K C (.ref f) tl)(hkp:PySem.W.keepIn X.K (.ref C)=true)(F:FnOk X.prog X.w X.K X.mg X.base (cX X.prog X.w) k f fd ps sp)(hr:Room (k+1) X.A)(hg:Gl X x)(hm:X.mg x=some (.ref C))(hb:Binds X.K fd ps ds)(hd:Vals dvs ds)(hx:aQ (cX X.prog X.w) X E)
  (hdb:(x == ("__debug__" : Str))=false:=by decide):PE X (.Call (.Name x p) [] [] pos) (dI C sp dvs E dZ):=by
 intro pins s σ H Q I h;refine wpAny_Call_Name_kw (gr I hg hm ?_ hdb);exact PySem.W.callWith_K0 I.kIn hkp (vw (us:=[]) T F hr hb hd hx I .nil h.1 h.2)
theorem Inv.inst (I:Inv X pins σ H s)(ha:H a=some (.exc C nw fs)):∃mA,s.heap.Inst a C mA/\(∀f,RelO (fs.lookup f) (mA f))/\PySem.Within mA (fs.map (·.1)):=by
 obtain⟨_,o,vs,e,c1,c2,c3,c4,q⟩:=I.hok a _ ha;have nc:∀c,o.data≠.cls c:=fun c z=>by rw[c2] at z; cases z
 rcases q with ⟨d0,rfl⟩ | ⟨dx,d1,d2,d3,mA,n,r,wi⟩
 ·exact⟨fun _=>none,⟨o,e,c1,nc,.inl ⟨d0,fun _=>rfl⟩⟩,fun f=>True.intro,PySem.Within.nil⟩
 ·exact⟨mA,⟨o,e,c1,nc,.inr ⟨dx,d1,d3,n⟩⟩,r,wi⟩
def lO (K:aG)(ta:TE)(f:Str):TE:=fun σ H Q=>ta σ H fun x H1=>∃(a C:Addr) (fI:Value) (tl:List Addr) (nw:Bool) (fs:List (Str×V)) (v:V),x=.ref a/\H1 a=some (.exc C nw fs)/\XC K C fI tl/\NoAttr K C f/\fs.lookup f=some v/\Q v H1
theorem Ek (he:PE X e ta)(hb:attributeBase e m X.env (eval e X.env)=eval e X.env):PE X (.Attribute e m pos) (lO X.K ta m):=by
 intro pins s σ H Q I h;refine vD hb (aB (he pins s σ H _ I h) fun u s1 hZz=>?_);obtain⟨x,H1,I1,r1,q1⟩:=hZz;obtain⟨a,C,fI,tl,nw,fs,v,rfl,ha,T,n,l,q⟩:=q1;obtain rfl:u=Value.ref a:=r1;obtain⟨mA,J,rel,_⟩:=I1.inst ha;have rv:=rel m;rw[l] at rv;obtain⟨w',e',rw'⟩:=RelO.some_of rv;exact xJ T I1.kIn n J e' (PySem.W.handedOut_of (vc rw')) ⟨v,H1,I1.tok _,rw',q⟩
def gc (K:aG)(ta tv:TE)(f:Str):TS:=fun D σ H=>tv σ H fun y H1=>ta σ H1 fun x H2=>∃(a C:Addr) (fI:Value) (tl:List Addr) (nw:Bool) (fs:List (Str×V)),x=.ref a/\H2 a=some (.exc C nw fs)/\XC K C fI tl/\NoAttr K C f/\fs.length<100 /\
 ∀H3:Hp,H3 a=some (.exc C nw (putF f y fs))->(∀b o,b≠a->H2 b=some o->H3 b=some o)->D.nx σ H3
theorem ET (I:Inv X pins σ H s)(ha:H a=some (.exc C nw fs))(T:XC X.K C fI tl)
  (n:NoAttr X.K C m)(hl:fs.length<100)(ry:RelV y u)(h:∀s' H',Inv X pins σ H' s'->H' a=some (.exc C nw (putF m y fs))->(∀b o,b≠a->H b=some o->H' b=some o)->Q () s') :
  wpAny (model X.prog X.w) A (setAttr (.ref a) m u) Q E' s:=by
 obtain⟨_,o,vs,e,c1,c2,c3,c4,q⟩:=I.hok a _ ha;obtain⟨mA,J,rel,wi⟩:=I.inst ha;have lt:a<s.heap.objs.size:=bn e;refine yK T I.kIn n J wi (by rw[List.length_map]; exact oV (by omega)) fun h' tk J' sz kp ob=>?_;obtain⟨o1,e1,d1,dd⟩:=ob o e;obtain⟨o2,e2,cl2,_,dc⟩:=J';obtain rfl:o1=o2:=bO (e1.symm.trans e2);obtain⟨d,hd1,hd2,hd3,hold,hnew⟩:∃d,o1.dict=some d/\d≠a/\h'.Ns1 d (fun z=>if z=m then some u else mA z)/\(H d=some (.own a)\/H d=none)/\(∀b ob,b≠a->b≠d->s.heap.get? b=some ob->h'.get? b=some ob):=by
  rcases dc with ⟨z,_⟩ | ⟨d,z1,z2,z3⟩
  ·rcases dd with ⟨dx,_,w⟩ | ⟨_,w⟩ <;> rw[w] at z <;> cases z
  ·refine⟨d,z1,z2,z3,?_,fun b ob nb nd zb=>kp b ob nb (fun o0 dx g1 g2=>?_) zb⟩
   ·rcases dd with ⟨dx,w1,w2⟩ | ⟨_,w⟩
    ·rw[w2] at z1; cases z1;rcases q with ⟨q1,_⟩ | ⟨dy,q1,q2,_⟩
     ·rw[q1] at w1; cases w1
     ·rw[q1] at w1; cases w1; exact .inl q2
    ·rw[w] at z1; cases z1;exact .inr (I.hok.fresh (aX _))
   ·obtain rfl:o=o0:=bO (e.symm.trans g1);rcases dd with ⟨dy,w1,w2⟩ | ⟨w1,_⟩
    ·rw[w1] at g2; cases g2; rw[w2] at z1; cases z1; exact nd
    ·rw[w1] at g2; cases g2
 have tr:∀b ob,H b=some ob->b≠a->ob≠.own a->b≠d:=fun b ob z _ ne w=>by
  rw[w] at z;rcases hold with w1 | w1 <;> rw[w1] at z <;> cases z
  exact ne rfl
 have up:∀b ob,H b=some ob->b≠a->(upd (upd H d (.own a)) a (.exc C nw (putF m y fs))) b=some ob:=fun b ob z nb=>by
  rw[aZ nb];by_cases w:b=d
  ·subst w;rcases hold with w1 | w1 <;> rw[w1] at z
   ·rw[bu]; exact z
   ·cases z
  ·rw[aZ w]; exact z
 have unt:∀b,H b=none->s.heap.get? b≠none->b≠a/\b≠d:=fun b z w=>by
  refine⟨(fun v=>by rw[v,ha] at z; cases z),fun v=>?_⟩;rcases dd with ⟨dx,w1,w2⟩ | ⟨_,w2⟩
  ·rw[hd1] at w2; cases w2;rcases q with ⟨q1,_⟩ | ⟨dy,q1,q2,_⟩
   ·rw[q1] at w1; cases w1
   ·rw[q1] at w1; cases w1; rw[v,q2] at z; cases z
  ·rw[hd1] at w2; cases w2;exact w (by rw[v]; exact Heap.get?_none_of_le (aX _))
 have some_ne:∀{b:Addr} {ob:Obj},s.heap.get? b=some ob->s.heap.get? b≠none:=fun z w=>by rw[z] at w; cases w
 refine h _ _ (I.un (H':=upd (upd H d (.own a)) a (.exc C nw (putF m y fs))) (h':=h') (t':=tk) ⟨fun b ob z nb _ _=>?_,fun b ob z nb _ _=>?_,fun b ob z nb _=>?_,fun b ob z _=>?_,fun b xs z=>?_,fun b ob v z=>?_,fun b ps z=>⟨#[],?_⟩⟩ fun b ob z=>?_) bu fun b ob nb z=>up b ob z nb
 ·obtain⟨n1,n2⟩:=unt b nb (some_ne z);exact hnew b ob n1 n2 z
 ·obtain⟨n1,n2⟩:=unt b nb (some_ne z);exact⟨ob.slots,hnew b ob n1 n2 z⟩
 ·obtain⟨n1,n2⟩:=unt b nb (some_ne z);rw[aZ n1,aZ n2]; exact nb
 ·by_cases n1:b=a
  ·rw[n1]; exact⟨_,e1⟩
  ·by_cases n2:b=d
   ·obtain⟨od,_,_,w,_⟩:=hd3;rw[n2]; exact⟨od,w⟩
   ·exact⟨ob,hnew b ob n1 n2 z⟩
 ·exact up b _ z fun v=>by rw[v,ha] at z; cases z
 ·exact up b _ z fun v=>by rw[v,ha] at z; cases z
 ·rw[up b _ z fun v=>by rw[v,ha] at z; cases z]; simp
 ·by_cases n1:b=a
  ·subst n1;rw[bu] at z;cases z;refine⟨by have:=pe m y fs; omega,o1,vs,e1,cl2,by rw[d1]; exact c2,c3,c4,.inr ⟨d,hd1,by rw[aZ hd2,bu],hd2,_,hd3,fun g=>?_,fun g hg=>?_⟩⟩
   ·show RelO ((putF m y fs).lookup g) (if g=m then some u else mA g);rw[pZ];by_cases w:g=m
    ·rw[if_pos w,if_pos w]; exact ry
    ·rw[if_neg w,if_neg w]; exact rel g
   ·by_cases w:g=m
    ·rw[w]; exact (ls m y fs).1
    ·refine (ls m y fs).2 g (wi g fun v=>hg ?_);show (if g=m then some u else mA g)=none;rw[if_neg w]; exact v
  ·rw[aZ n1] at z;by_cases n2:b=d
   ·subst n2;rw[bu] at z;cases z;obtain⟨od,_,_,w,_⟩:=hd3;exact⟨od,w⟩
   ·rw[aZ n2] at z;have nown:ob≠.own a\/ob=.own a:=by
     by_cases w:ob=.own a
     ·exact .inr w
     ·exact .inl w
    refine (I.hok b ob z).stay (fun c v hc w=>?_) (fun c w=>up c _ w fun v=>by rw[v,ha] at w; cases w) fun c xs w=>up c _ w fun v=>by rw[v,ha] at w; cases w
    rcases hc with w1 | w1
    ·subst w1; exact hnew c v n1 n2 w
    ·refine hnew c v (fun x=>by rw[x,ha] at w1; cases w1) (fun x=>?_) w;rw[x] at w1;rcases hold with w2 | w2 <;> rw[w2] at w1 <;> cases w1
     exact n1 rfl
theorem xU (ha:PE X o ta)(hv:PE X e tv)(hs:swapsWith e (some (.Attribute o m pos')) pos.line X.env=pure false):PS X (.Assign [.Attribute o m pos'] e pos) (gc X.K ta tv m):=by
 intro pins s σ H D I h;refine plainObj_wpAny_Assign_Attribute (aB (hv pins s σ H _ I h) fun u s1 ⟨y,H1,I1,ry,q⟩=>aB (ha pins s1 σ H1 _ I1 q) fun ov s2 hZz=>?_) hs;obtain⟨x,H2,I2,rx,q2⟩:=hZz;obtain⟨a,C,fI,tl,nw,fs,rfl,ea,T,n,l,k⟩:=q2;obtain rfl:ov=Value.ref a:=rx;exact ET I2 ea T n l ry fun s3 H3 I3 g1 g2=>⟨σ,H3,I3,k H3 g1 g2⟩
structure XInit (K:aG)(W:Addr):Prop where
 sp:PySem.W.specialIn K (.ref W) "__getattribute__" = some (some (.builtin "type.__getattribute__"))
 rd:PySem.W.readsIn K W (.type "type")=true
 fd:PySem.W.findCls K (.ref W) (.type "type") "__init__" = some (.val (.builtin "ValueError.__init__"))
def eD (K:aG)(t:TA):TE:=fun σ H Q=>t σ H fun vs H1=>∃(a C:Addr) (fI:Value) (tl:List Addr) (nw:Bool) (fs:List (Str×V)) (rest:List V),vs=.ref a::rest/\rest.length<=100/\H1 a=some (.exc C nw fs)/\XC K C fI tl/\Q .non H1
theorem vR (I:Inv X pins σ H s)(ha:H a=some (.exc C nw fs))(T:XC X.K C fI tl)(hl:us.length<=100)
  (h:∀s',Inv X pins σ H s'->Q .none s'):wpAny (model X.prog X.w) A (call (.builtin "ValueError.__init__") (.ref a::us)) Q E' s:=by
 obtain⟨z0,o,vs,e,c1,c2,c3,c4,q⟩:=I.hok a _ ha;refine BI T I.kIn e c1 c2 (by omega) (Nat.le_of_lt (oV (by omega))) fun h' sz kp hZz=>?_;obtain⟨a0,e1⟩:=hZz;have aN:∀b,H b=none->b≠a:=fun b n z=>by rw[z,ha] at n; cases n
 have Hs:upd H a (.exc C nw fs)=H:=by
  funext b
  by_cases z:b=a
  ·subst z; rw[bu,ha]
  ·rw[aZ z]
 have J:=I.write (x:=a) (e:=a) (o:=.exc C nw fs) (h':=h') (t':=s.toks) (by rw[ha]; exact True.intro) (.inl rfl) (fun b u nb z=>kp b u nb z) ⟨_,e1⟩ (by
  rw[Hs];refine⟨z0,_,_,e1,c1,rfl,by rw[Array.size_setIfInBounds]; exact c3,fun w=>by rw[Array.getElem?_setIfInBounds_ne (by decide)]; exact c4 w,?_⟩;rcases q with q | ⟨dx,d1,d2,d3,mA,⟨od,es,ep,e3,c⟩,r⟩
  ·exact .inl q
  ·exact .inr ⟨dx,d1,d2,d3,mA,⟨od,es,ep,kp dx od d3 e3,c⟩,r⟩)
 rw[Hs] at J;exact h _ J
def jS (C:Addr):TE:=fun _ H Q=>∀x,H x=none->Q (.ref x) (upd H x (.exc C true []))
theorem ya (T:XC X.K C (.builtin "ValueError.__init__") tl)(hkp:PySem.W.keepIn X.K (.ref C)=true)(hg:Gl X x)(hm:X.mg x=some (.ref C))(hdb:(x == ("__debug__" : Str))=false:=by decide):PE X (.Call (.Name x p) [] [] pos) (jS C):=by
 intro pins s σ H Q I h;refine wpAny_Call_Name_kw (gr I hg hm ?_ hdb);refine PySem.W.callWith_K0 I.kIn hkp (vV T I.kIn (Nat.zero_le _) fun h' a hm la=>?_);obtain⟨tt,ea,nt,et⟩:=hm.there;have I2:Inv X pins σ (upd H a (.exc C true [])) { s with heap:=h' }:=I.laid (t':=s.toks) hm.keeps la ⟨Nat.zero_le _,_,_,ea,rfl,rfl,rfl,fun _=>rfl,.inl ⟨rfl,rfl⟩⟩;exact vR I2 bu T (Nat.zero_le _) fun s' I'=>⟨rfl,.ref a,_,I',rfl,h a (I.hok.fresh la)⟩
theorem AC (XI:XInit X.K W)(hg:Gl X x)(hm:X.mg x=some (.ref W))(ha:PA X (e::es) t)(hdb:(x == ("__debug__" : Str))=false:=by decide)
  (hst:starEach (e::es) X.env=(false,eval e X.env)::starEach es X.env:=by rfl)(hpl:(backTo pos (starEach es X.env)).any (·.1)=false:=by rfl)
  (ht:eval (.Call (.Attribute (.Name x xp) "__init__" apos) (e::es) [] pos) X.env=(do
   let ov <-eval (.Name x xp) X.env
   standAt apos.atName
   let (f,first) <-holding [ov] (getMethod ov "__init__" pl)
   callWith pos f first (backTo pos (starEach (e::es) X.env)) (backToKw pos (keywordEach [] X.env))):=by rfl) :
  PE X (.Call (.Attribute (.Name x xp) "__init__" apos) (e::es) [] pos) (eD X.K t):=by
 intro pins s σ H Q I h;refine PySem.W.methodCall_KW (pl:=pl) (gr I hg hm ?_ hdb) ht;refine PySem.W.method_cls I.kIn XI.sp (PySem.W.cls_value I.kIn XI.rd XI.fd rfl ?_);refine PyProof.Rows.callWith_builtin1 (aB (ha pos pins _ σ H _ (I.tok _) h) fun us s1 hZz=>?_) hst hpl;obtain⟨vs,H1,I1,r1,q1⟩:=hZz;obtain⟨a,C,fI,tl,nw,fs,rest,rfl,hl,ea,T,q⟩:=q1;cases r1 with
 | @cons _ u _ us' ru rr=>
  obtain rfl:u=Value.ref a:=ru;exact vR I1 ea T (by rw[<-rr.length]; exact hl) fun s2 I2=>⟨.non,H1,I2,rfl,q⟩
end
noncomputable abbrev Cx.tryCx (X:Cx)(xe:Value->Shared->Prop)(pn:List (Addr×Obj)):Cx:={ X with xe:=xe,pn:=pn }
noncomputable abbrev Cx.markCx (X:Cx)(a:Addr):Cx:={ X with A:=X.A.mark (some (.ref a)),calm:=false,xe:=fun _ _=>False }
section
variable {X:Cx}{pins:List (Addr×Obj)}{σ:St}{H:Hp}{s:Shared}
theorem Inv.try (I:Inv X pins σ H s)(xe:Value->Shared->Prop):Inv (X.tryCx xe (X.pn++pins)) [] σ H s:=
 ⟨⟨I.ok.mod,I.ok.kind,I.ok.glob,I.ok.blt,I.ok.above,I.ok.inj,I.ok.has,I.ok.cab,I.ok.hd,I.ok.frames,I.ok.stk,I.ok.exf,I.ok.bs,I.ok.bsz,I.ok.noex,I.ok.exfs,I.ok.funs,I.ok.frf⟩,
  I.os,I.bare,I.base,I.loc,I.cell,I.free,I.freeC,fun p hp=>I.pin p (by simpa using hp),I.hok,I.len⟩
theorem Inv.untry (I:Inv (X.tryCx xe (X.pn++pins)) pins' σ H s):Inv X pins σ H s:=
 ⟨⟨I.ok.mod,I.ok.kind,I.ok.glob,I.ok.blt,I.ok.above,I.ok.inj,I.ok.has,I.ok.cab,I.ok.hd,I.ok.frames,I.ok.stk,I.ok.exf,I.ok.bs,I.ok.bsz,I.ok.noex,I.ok.exfs,I.ok.funs,I.ok.frf⟩,
  I.os,I.bare,I.base,I.loc,I.cell,I.free,I.freeC,fun p hp=>I.pin p (dP _ hp),I.hok,I.len⟩
theorem Inv.mark (I:Inv X pins σ H s)(a:Addr):Inv (X.markCx a) pins σ H s:=
 ⟨⟨I.ok.mod,I.ok.kind,I.ok.glob,I.ok.blt,I.ok.above,I.ok.inj,I.ok.has,I.ok.cab,(fun z=>nomatch z),I.ok.frames,I.ok.stk,I.ok.exf,I.ok.bs,I.ok.bsz,I.ok.noex,I.ok.exfs,I.ok.funs,I.ok.frf⟩,
  I.os,I.bare,I.base,I.loc,I.cell,I.free,I.freeC,I.pin,I.hok,I.len⟩
theorem Inv.unmark (c:X.calm=true->X.A.handled=none)(I:Inv (X.markCx a) pins σ H s):Inv X pins σ H s:=
 ⟨⟨I.ok.mod,I.ok.kind,I.ok.glob,I.ok.blt,I.ok.above,I.ok.inj,I.ok.has,I.ok.cab,c,I.ok.frames,I.ok.stk,I.ok.exf,I.ok.bs,I.ok.bsz,I.ok.noex,I.ok.exfs,I.ok.funs,I.ok.frf⟩,
  I.os,I.bare,I.base,I.loc,I.cell,I.free,I.freeC,I.pin,I.hok,I.len⟩
theorem Inv.gone (I:Inv X pins σ H s)(hN:X.N.Nodup)(hi:X.N[i]? = some n)
  (hm:∀(i:Nat) (x:Str) (v:V),X.N[i]? = some x->σ[i]? = some (some v)->mZ X.env.scope x->∃u,RelV v u/\Look X.env s.heap m x u)
  (hn:h'.Ns X.env.locals (fun x=>if x=n then v else m x))(sb:Heap.SameBut X.env.locals s.heap h'):Inv X pins (σ.set i none) H { s with heap:=h',toks:=t' }:=by
 have neL:∀b o,X.s₀.heap.get? b=some o->b≠X.env.locals:=fun b o e=>cH (dR (bn e) I.ok.above);have tr:∀b o,H b=some o->b≠X.env.locals:=fun b o e z=>by rw[z,I.free] at e; cases e
 have cellK:∀x c,X.env.cells.lookup x=some c->∀w,s.heap.IsCell c w->h'.IsCell c w:=fun x c e w ⟨o,ho,hd⟩=>⟨o,(sb.2 c (I.cne x c e)).trans ho,hd⟩
 refine⟨I.ok,I.os,I.bare,⟨fun b o e n1 n2 n3=>?_,fun b o e n1 n2 n3=>?_,fun b o e n1 n3=>I.base.free b o e n1 n3,fun b o e n3=>?_,I.base.tups,I.base.frzs,I.base.tbls⟩,⟨_,hn,fun j x w e1 e2 e3=>?_⟩,fun x c e=>?_,I.free,I.freeC,fun p hp=>?_,fun b o e=>?_,by rw[List.length_set]; exact I.len⟩
 ·exact (sb.2 b (neL b o e)).trans (I.base.keep b o e n1 n2 n3)
 ·obtain⟨sl,z⟩:=I.base.slot b o e n1 n2 n3;exact⟨sl,(sb.2 b (neL b o e)).trans z⟩
 ·obtain⟨o',z⟩:=I.base.there b o e n3;exact⟨o',(sb.2 b (neL b o e)).trans z⟩
 ·have ij:i≠j:=fun z=>by
   subst z;by_cases q:i < σ.length
   ·rw[List.getElem?_set_self q] at e2; cases e2
   ·rw[List.getElem?_eq_none (by rw[List.length_set]; omega)] at e2; cases e2
  rw[List.getElem?_set_ne ij] at e2;have xn:x≠n:=fun z=>ij (mW hN hi (by rw[<-z]; exact e1));obtain⟨u,r,l⟩:=hm j x w e1 e2 e3;refine⟨u,r,?_⟩;rcases l with ⟨k1,k2⟩ | ⟨k1,c,k2,k3⟩
  ·exact .inl ⟨k1,by show (if x=n then v else m x)=some u; rw[if_neg xn]; exact k2⟩
  ·exact .inr ⟨k1,c,k2,cellK x c k2 _ k3⟩
 ·obtain⟨w,z⟩:=I.cell x c e;exact⟨w,cellK x c e w z⟩
 ·obtain⟨z1,z2,z3,z4,z5⟩:=I.pin p hp;exact⟨(sb.2 p.1 z3).trans z1,z2,z3,z4,z5⟩
 ·refine (I.hok b o e).stay (fun c u hc q=>(sb.2 c ?_).trans q) (fun _ q=>q) fun _ _ q=>q;rcases hc with z | z
  ·rw[z]; exact tr b o e
  ·exact tr c _ z
end
def eR (K:aG)(W:Addr)(i:Nat)(ts:TS)(D:Ends):St->XK:=fun σ v _ H=>∃(a C:Addr) (tl:List Addr) (fs:List (Str×V)),v=.ref a/\H a=some (.exc C false fs)/\XO K C tl/\W∈C::tl /\
 ts { nx:=fun σ2 H2=>D.nx (σ2.set i none) H2,rt:=D.rt,bk:=fun σ2 H2=>D.bk (σ2.set i none) H2,ct:=fun σ2 H2=>D.ct (σ2.set i none) H2 } (σ.set i (some (.ref a))) H
def jZ (K:aG)(W:Addr)(i:Nat)(tb:(St->XK)->TS)(ts:TS):TS:=fun D σ H=>tb (eR K W i ts D) D σ H
section
variable {X:Cx}{W:Addr}{tlW:List Addr}{i:Nat}{n cls:Str}{np hpos pos:Pos}{body suite:List Stmt}{b₀:Stmt}{tb:(St->XK)->TS}{ts:TS}
theorem y3 (h:W∈C::tl):(Value.ref C::(tl.map Value.ref++bo)).contains (.ref W)=true:=by
 rw[List.contains_iff_mem];rcases bN h with z | z
 ·rw[z]; exact bD
 ·exact bw _ (dP _ (List.mem_map.mpr ⟨W,z,rfl⟩))
theorem vk (I:Inv X pins σ H s)(hN:X.N.Nodup)(hi:X.N[i]? = some n)(hn:X.env.scope.names.lookup n=some .local)
  (XW:XO X.K W tlW)(hg:Gl X cls)(hm:X.mg cls=some (.ref W))(hs:∀a,PSs (X.markCx a) (b₀::suite) ts)(ha:H a=some (.exc C false fs))(XCo:XO X.K C tl)(hW:W∈C::tl)(F:Fly s.heap a T .none)(fT:H T=none/\X.s₀.heap.objs.size<=T/\T≠X.env.locals/\(∀x c,X.env.cells.lookup x=some c->c≠T)/\∀p∈X.pn++pins,p.1≠T)
  (q:ts { nx:=fun σ2 H2=>D.nx (σ2.set i none) H2,rt:=D.rt,bk:=fun σ2 H2=>D.bk (σ2.set i none) H2,ct:=fun σ2 H2=>D.ct (σ2.set i none) H2 } (σ.set i (some (.ref a))) H)
  (hdb:(cls == ("__debug__" : Str))=false) :
  wpAny (model X.prog X.w) X.A (handleBy (.ref a) X.env [.ExceptHandler (some (.Name cls np)) (some n) (b₀::suite) hpos]) (SP X pins D) X.xe s:=by
 refine wpAny_handleBy_cons (codeAny_handlers_test ?_) (by intro z; cases z);have Im:=I.mark a;refine gr (X:=X.markCx a) Im hg hm ?_ hdb;obtain⟨_,o,vs,e,c1,_⟩:=I.hok a _ ha;refine DT e c1 I.kIn XCo XW ?_;rw[y3 hW];refine codeAny_handlers_suite_as (ly F fun h1 F1 st1=>?_);have I1:=Im.xstep ha st1 (fun _ z=>nomatch z) fun b hb=>by rw[List.mem_singleton.mp hb]; exact fT
 have e1:upd H a (.exc C false fs)=H:=by
  funext b
  by_cases z:b=a
  ·subst z; rw[bu,ha]
  ·rw[aZ z]
 rw[e1] at I1;refine oF (X:=X.markCx a) I1 hN hi (.inl hn) (r:=rfl) (v:=.ref a) (fun s2 I2=>?_) (.inr hn);refine wpAny_mono (hs a _ s2 _ H _ I2 q) (fun f s3 h3=>?_) fun _ _ z=>z.elim;have fin:∀{σ3:St} {H3:Hp} {Q:Shared->Prop},Inv (X.markCx a) pins σ3 H3 s3->(∀s4,Inv X pins (σ3.set i none) H3 s4->Q s4)->wpAny (model X.prog X.w) X.A (do bindName X.env n .none; unbindBehindTheSuite X.env n hpos) (fun _ s4=>Q s4) X.xe s3:=fun {σ3 H3 Q} I3 hQ=>by
  have I3':=I3.unmark I.ok.hd;obtain⟨m,hns,hl⟩:=id I3'.loc;refine wpAny_nameGoes_keeps hn hns (by rw[I.ok.kind]; rfl) fun h' v hn' sb=>hQ _ (I3'.gone hN hi hl hn' sb)
 show wpAny _ X.A (do bindName X.env n .none; unbindBehindTheSuite X.env n hpos) (fun _ s4=>SP X pins D f s4) X.xe s3;cases f with
 | next=>obtain⟨σ3,H3,I3,q3⟩:=h3; exact fin I3 fun s4 I4=>⟨_,H3,I4,q3⟩
 | brk=>obtain⟨σ3,H3,I3,q3⟩:=h3; exact fin I3 fun s4 I4=>⟨_,H3,I4,q3⟩
 | cont=>obtain⟨σ3,H3,I3,q3⟩:=h3; exact fin I3 fun s4 I4=>⟨_,H3,I4,q3⟩
 | ret u=>obtain⟨v,σ3,H3,I3,r3,q3⟩:=h3; exact fin I3 fun s4 I4=>⟨v,_,H3,I4,r3,q3⟩
theorem EU (hN:X.N.Nodup)(hi:X.N[i]? = some n)(hn:X.env.scope.names.lookup n=some .local)(hfr:∃L outer,X.stack=X.env::outer/\X.env.frame=some L)(XW:XO X.K W tlW)(hg:Gl X cls)(hm:X.mg cls=some (.ref W))
  (hb:∀(xe:Value->Shared->Prop) (pn:List (Addr×Obj)) (Ec:St->XK),aQ (cX X.prog X.w) (X.tryCx xe pn) Ec->ma (X.tryCx xe pn) Ec->PassesOwn (model X.prog X.w) X.A X.env xe->PSs (X.tryCx xe pn) body (tb Ec))
  (hs:∀a,PSs (X.markCx a) (b₀::suite) ts)(hdb:(cls == ("__debug__" : Str))=false:=by decide) :
  PS X (.Try body [.ExceptHandler (some (.Name cls np)) (some n) (b₀::suite) hpos] [] [] pos) (jZ X.K W i tb ts):=by
 intro pins s σ H D I h;obtain⟨L,outer,hst,hL⟩:=hfr;refine wpAny_Try_except ?_;generalize hxe:(fun (e:Value) (s₁:Shared)=>wpAny (model X.prog X.w) X.A (noteFrame e X.env) (fun _ s₂=>wpAny (model X.prog X.w) X.A (setFlight e none) (fun _ s₃=>wpAny (model X.prog X.w) X.A (handleBy e X.env [.ExceptHandler (some (.Name cls np)) (some n) (b₀::suite) hpos]) (SP X pins D) X.xe s₃) X.xe s₂) X.xe s₁)=xe;have sub:∀b∈(X.env::outer).filterMap (·.frame),b=X.env.locals\/b∈X.fs:=fun b hb'=>by
  have:b∈eL X.stack:=by rw[hst]; exact hb'
  exact bN (I.stkSub b this)
 have pass:aQ (cX X.prog X.w) (X.tryCx xe (X.pn++pins)) (eR X.K W i ts D):=by
  intro pins' σ' H1 s1 e s' I1' hcx;obtain⟨a,T,C,fs,H2,rfl,os,bare,un,hok,ha,fly,nT,lT,a',C',tl,fs',eq,ha',xo,hW,q⟩:=hcx;cases eq;rw[ha] at ha';cases ha';have I1:Inv X pins σ' H1 s1:=I1'.untry;have I2:=I1.call' (ch:=[]) os un hok bare fun b z=>absurd z (by simp);show xe (.ref a) s';rw[<-hxe];have fr2:=I2.ok.frames;have st2:=I2.stack;rw[hst] at fr2 st2;refine rH (base:=X.base) fr2 st2 hL fly fun h3 F3 st3=>?_;have n2:=I2.newAt (b:=s'.heap.objs.size) (aX _);have I3:=I2.xstep ha st3 sub fun b hb'=>by rw[List.mem_singleton.mp hb']; exact I1.sinceAt I2 lT nT
  have e1:upd H2 a (.exc C false fs)=H2:=by
   funext b
   by_cases z:b=a
   ·subst z; rw[bu,ha]
   ·rw[aZ z]
  rw[e1] at I3;refine ly F3 fun h4 F4 st4=>?_;have I4:=I3.xstep ha st4 (fun _ z=>nomatch z) fun b hb'=>by rw[List.mem_singleton.mp hb']; exact n2
  rw[e1] at I4;exact vk I4 hN hi hn XW hg hm hs ha xo hW F4 n2 q hdb
 have rais:ma (X.tryCx xe (X.pn++pins)) (eR X.K W i ts D):=by
  intro pins' σ' H1 s1 a C fs I1' ha hE;obtain⟨a',C',tl,fs',eq,ha',xo,hW,q⟩:=hE;cases eq;rw[bu] at ha';cases ha';have I1:Inv X pins σ' H1 s1:=I1'.untry;obtain⟨_,o,vs,e,c1,c2,c3,c4,_⟩:=I1.hok a _ ha;show xe (.ref a) s1;rw[<-hxe];have fr2:=I1.ok.frames;have st2:=I1.stack;rw[hst] at fr2 st2;refine sJ (base:=X.base) fr2 st2 hL e c2 (c4 rfl) fun h3 F3 st3=>?_;have n2:=I1.newAt (b:=s1.heap.objs.size) (aX _);have I3:=I1.xstep ha st3 sub (fun _ z=>nomatch z);have nT:(upd H1 a (.exc C false fs)) s1.heap.objs.size=none:=by
   rw[aZ (fun z=>by have:=I1.hok.lt ha; rw[<-z] at this; exact Nat.lt_irrefl _ this)];exact n2.1
  refine ly F3 fun h4 F4 st4=>?_;have I4:=I3.xstep bu st4 (fun _ z=>nomatch z) fun b hb'=>by rw[List.mem_singleton.mp hb']; exact⟨nT,n2.2⟩
  rw[zB] at I4;exact vk I4 hN hi hn XW hg hm hs bu xo hW F4 ⟨nT,n2.2⟩ q hdb
 have own:PassesOwn (model X.prog X.w) X.A X.env xe:=by
  rw[<-hxe];exact PassesOwn.looking (K:=fun e s''=>wpAny (model X.prog X.w) X.A (setFlight e none) (fun _ s₃=>wpAny (model X.prog X.w) X.A (handleBy e X.env [.ExceptHandler (some (.Name cls np)) (some n) (b₀::suite) hpos]) (SP X pins D) X.xe s₃) X.xe s'')
 refine wpAny_mono (hb xe (X.pn++pins) _ pass rais own [] s σ H D (I.try xe) h) (fun f s1 h1=>?_) fun e s1 h1=>?_
 ·cases f with
  | next=>
   obtain⟨σ1,H1,I1,q1⟩:=h1;exact wpAny_execs_nil ⟨σ1,H1,I1.untry,q1⟩
  | brk=>obtain⟨σ1,H1,I1,q1⟩:=h1; exact⟨σ1,H1,I1.untry,q1⟩
  | cont=>obtain⟨σ1,H1,I1,q1⟩:=h1; exact⟨σ1,H1,I1.untry,q1⟩
  | ret u=>obtain⟨v,σ1,H1,I1,r1,q1⟩:=h1; exact⟨v,σ1,H1,I1.untry,r1,q1⟩
 ·exact h1
end
end L2
end
section
namespace L2
open PySem PySem.W Builtin Builtin.ObjectAttr
section
variable {prog:Program}{w:World}{A:Around}{E:Value->Shared->Prop}{s:Shared}{K:Frag}{C x:Addr}{fI:Value}{tl:List Addr}{mA:Str->Option Value}
structure XI (K:Frag)(C:Addr):Prop where
 ca:findIn K (.ref C) "__class__" = some (some (.builtin "object.__class__"))
 gt:specialIn K (.builtin "object.__class__") "__get__" = some (some (.builtin "getset_descriptor.__get__"))
 tk:takesIn K (.builtin "object.__class__")=some true
 mr:mroIn K C (.type "object")=some true
theorem An (T:XC K C fI tl)(Y:XI K C)(X:K.In s.heap)(J:InstAt s.heap x ox C od)
  (hq:Q (some (.ref C)) { s with toks:=s.toks+1 }):wpAny (model prog w) A (getAttr? (.ref x) "__class__") Q E s:=by
 have FA:=PySem.F.excAttr_ValueError;have iso:=rF (M:=model prog w) T X J (B := "BaseException") (by decide +kernel);have f3:=FA.ga.bind (.ref x);have hx2:(Value.builtin "BaseException.__getattribute__" == Value.builtin "object.__getattribute__")=false:=by decide +kernel
 have hx1:(onTheHeap (Value.ref C)&&Value.builtin "BaseException.__getattribute__" == Value.builtin "object.__getattribute__")=false:=by rw[hx2]; rfl
 obtain⟨nm,q,N,bs,sn,sub,ab,col,dd,k0,k1,k2,k3,k5,lk⟩:=T.obj;have hf:findObj K C od "__class__" = some (.bind (.builtin "getset_descriptor.__get__") (.builtin "object.__class__")):=by
  obtain⟨cd,hcl⟩:∃cd,clsIn K C=some cd:=by unfold clsIn; rw[lk]; exact⟨_,rfl⟩
  unfold findObj;rw[hcl,Option.bind_some,Y.ca,Option.bind_some];dsimp only;rw[Y.gt,Option.bind_some];dsimp only;rw[Y.tk];rfl
 have hC:=X _ _ lk;have J0:=J;obtain⟨hx,hc,_,_⟩:=J;obtain⟨hp,g,d,tk,os⟩:=s;change K.In hp at X;change InstAt hp x ox C od at J0;change hp.get? x=some ox at hx;have ga:∀{t:Nat} {Q':Option Value->Shared->Prop} {E':Value->Shared->Prop} {A':Around},Q' (some (.builtin "BaseException.__getattribute__")) ⟨hp,g,d,t,os⟩->wpAny (model prog w) A' (typeLookup (.ref C) "__getattribute__") Q' E' ⟨hp,g,d,t,os⟩:=fun z=>(looks_findIn X T.ga).at z;have gh:∀{t:Nat} {Q':Option Value->Shared->Prop} {E':Value->Shared->Prop} {A':Around},Q' none ⟨hp,g,d,t,os⟩->wpAny (model prog w) A' (typeLookup (.ref C) "__getattr__") Q' E' ⟨hp,g,d,t,os⟩:=fun z=>(looks_findIn X T.gh).at z;have gf:∀{t:Nat} {Q':Found->Shared->Prop} {E':Value->Shared->Prop} {A':Around},Q' (.bind (.builtin "getset_descriptor.__get__") (.builtin "object.__class__")) ⟨hp,g,d,t,os⟩->wpAny (model prog w) A' (find (.ref x) (.ref C) "__class__") Q' E' ⟨hp,g,d,t,os⟩:=fun z=>(looks_find X J0 hf).at z;unfold getAttr? getAttrBy? getAttrBy;repeat (any_goals (first | assumption | (with_reducible refine wpAny_loadPart_at hx ?_; rw[hc]) | with_reducible refine ga ?_ | with_reducible refine gh ?_ | wp_step))
 refine codeAny_call_builtin FA.ga.plain F.entry_bexc_ga (@check_slot (model prog w) _ _ _ "BaseException.__getattribute__" "BaseException" "__getattribute__" (.ref x) [.str "__class__" tk] [] _ (by decide +kernel) (by decide +kernel) iso (F.args_bexc_ga _ _) ?_);unfold Builtin.«object.__getattribute__»;repeat (any_goals (first | assumption | (with_reducible refine wpAny_loadPart_at hx ?_; rw[hc]) | with_reducible refine gf ?_ | wp_step))
 refine class_get (ox:=ox) (od:=od) X J0 Y.mr ?_;repeat (any_goals (first | assumption | wp_step))
end
section
variable {K:Frag}{C x:Addr}{fI:Value}{tl:List Addr}
theorem vi (T:XC K C fI tl)(Y:XI K C):KitX K (.ref x) (.ref C) (fun h=>∃ox od,InstAt h x ox C od) where
 ty:=fun _ _ _ ⟨_,_,J⟩=>J.type
 it:=fun _ _ X _=>by
  obtain⟨nm,q,N,bs,sn,sub,ab,col,dd,k0,k1,k2,k3,k5,lk⟩:=T.obj;intro A' Q' E' s' k q;unfold isType loadHead;exact af (wpAny_loadPart (k _ _ (X _ _ lk)) (ay q))
 ne:=fun h tp dd' its n sl X htp=>by
  obtain⟨nm,q,N,bs,sn,sub,ab,col,dd,k0,k1,k2,k3,k5,lk⟩:=T.obj;refine Bool.eq_false_iff.mpr fun z=>?_;have e:C=tp:=Value.ref.inj (beq_iff_eq.mp z);subst e;have z:=congrArg Obj.data (bO ((X _ _ lk).symm.trans htp));cases z
 ca:=fun X ⟨_,_,J⟩ k=>An T Y X J k
end
end L2
namespace L2
open PySem PySem.Spec PyProof.Rows
inductive TyX (K:aG) (H:Hp):V->Value->Prop where
 | old {x:V} {t:Value} (h:TyOf K H x t):TyX K H x t
 | exc {a C:Addr} {fI:Value} {tl:List Addr} {nw:Bool} {fs:List (Str×V)} (e:H a=some (.exc C nw fs)) (T:XC K C fI tl) (Y:XI K C):TyX K H (.ref a) (.ref C)
section
variable {X:Cx}
theorem xO (I:Inv X pins σ H s)(rx:RelV x u)(ty:TyX X.K H x t)(e:PySem.W.kitOne X.K t c=some b)(h:∀tk,Q (.bool b) { s with toks:=tk }) :
  wpAny (model X.prog X.w) A (call (.builtin "isinstance") [u,c]) Q E s:=by
 cases ty with
 | old ty=>exact iI I rx ty e h
 | @exc a C fI tl nw fs ea T Y=>
  cases (show u=Value.ref a from rx);obtain⟨mA,J,_,_⟩:=I.inst ea;exact PySem.W.kia_one (vi T Y) I.kIn (mR J) e (fun z=>nomatch z) h
noncomputable def valOf:V->Option Value
 | .ref a=>some (.ref a)
 | .ty n=>some (.type n)
 | _=>none
end
end L2
end
section
namespace L2
open PySem PySem.Spec PyProof.Rows
section
variable {X:Cx}{pins:List (Addr×Obj)}{σ:St}{H:Hp}{s:Shared}{h':Heap}
theorem Inv.turnedL {t':Nat}{fp:List Addr}(I:Inv X pins σ H s)(hf:∀b∈fp,ck X pins H b)(k:∀b o,b∉fp->s.heap.get? b=some o->h'.get? b=some o):Inv X pins σ H { s with heap:=h',toks:=t' }:=by
 have nf:∀b u,H b=some u->b∉fp:=fun b u e z=>by rw[(hf b z).1] at e; cases e
 refine I.step (g':=s.gens) (d':=s.drawn) (ch:=fp) (fun b hb=>⟨(hf b hb).2.2.2.1,(hf b hb).2.1,(hf b hb).2.2.2.2⟩) (fun b o _ _ hc e _=>k b o hc e) (fun b o _ _ hc e _=>⟨o.slots,k b o hc e⟩) (fun _ _ _ _ n=>n)
  (fun b o hc e=>⟨o,k b o hc e⟩) (fun _ _ e=>e) (fun _ _ _ e=>e) (fun b ps e=>⟨#[],by rw[e]; simp⟩) (fun m hm=>?_) (fun b u e=>?_) I.bare
 ·obtain⟨o,es,ep,ho,r⟩:=hm;exact⟨o,es,ep,k _ o (fun z=>(hf _ z).2.1 rfl) ho,r⟩
 ·refine (I.hok b u e).stay (fun c v hc q=>k c v ?_ q) (fun _ q=>q) fun _ _ q=>q;rcases hc with z | z
  ·rw[z]; exact nf b u e
  ·exact nf c _ z
theorem Inv.turnedN {t':Nat}{fp:List Addr}{a:Addr}{o:HO}(I:Inv X pins σ H s)(hf:∀b∈fp,ck X pins H b)(k:∀b o,b∉fp->s.heap.get? b=some o->h'.get? b=some o)(hp:s.heap.objs.size<=a)(new:ObjOk X.prog X.w (upd H a o) h' a o) :
  Inv X pins σ (upd H a o) { s with heap:=h',toks:=t' }:=by
 have ha:H a=none:=I.hok.fresh hp;have na:∀b o,s.heap.get? b=some o->b≠a:=fun b o e=>cH (dR (bn e) hp);have nt:∀b u,H b=some u->b≠a:=fun b u e z=>by rw[z,ha] at e; cases e
 have nf:∀b u,H b=some u->b∉fp:=fun b u e z=>by rw[(hf b z).1] at e; cases e
 refine I.step (g':=s.gens) (d':=s.drawn) (ch:=fp) (fun b hb=>⟨(hf b hb).2.2.2.1,(hf b hb).2.1,(hf b hb).2.2.2.2⟩) (fun b o _ _ hc e _=>k b o hc e) (fun b o _ _ hc e _=>⟨o.slots,k b o hc e⟩) (fun b o _ e n=>by rw[aZ (na b o e)]; exact n)
  (fun b o hc e=>⟨o,k b o hc e⟩) (fun b _ e=>by rw[aZ (nt b _ e)]; exact e) (fun b _ _ e=>by rw[aZ (nt b _ e)]; exact e) (fun b ps e=>⟨#[],by rw[aZ (nt b _ e),e]; simp⟩) (fun m hm=>?_) (fun b u e=>?_) I.bare
 ·obtain⟨o,es,ep,ho,r⟩:=hm;exact⟨o,es,ep,k _ o (fun z=>(hf _ z).2.1 rfl) ho,r⟩
 ·by_cases z:b=a
  ·subst z; rw[bu] at e; cases e; exact new
  ·rw[aZ z] at e;refine (I.hok b u e).stay (fun c v hc q=>k c v ?_ q) (fun c q=>by rw[aZ (nt c _ q)]; exact q) fun c _ q=>by rw[aZ (nt c _ q)]; exact q
   rcases hc with z | z
   ·rw[z]; exact nf b u e
   ·exact nf c _ z
end
noncomputable def rb (K:aG)(a b:Addr):It:=
 ⟨fun i H=>∃xs ys x y,SqL K H a xs/\SqL K H b ys/\xs[i]? = some x/\ys[i]? = some y,fun i H v H'=>∃x y p,v=.ref p/\H p=none/\H'=upd H p (.tup [x,y])/\(∀xs,SqL K H a xs->xs[i]? = some x)/\∀ys,SqL K H b ys->ys[i]? = some y,
  fun i H=>∃xs ys,SqL K H a xs/\SqL K H b ys/\(xs.length<=i\/ys.length<=i)⟩
theorem kT {h:Heap}{a b:Addr}{o u:Obj}(A B:String)(ha:h.get? a=some o)(hb:h.get? b=some u)(hA:o.cls=.type A)(hB:u.cls=.type B)(n:A≠B):a≠b:=fun z=>by
 subst z; rw[ha] at hb; cases hb; rw[hA] at hB; cases hB; exact n rfl
def iy (z TI TO i1 i2 l1 l2:Addr)(i:Nat)(h:Heap):Prop:=IsZip h z TI TO .none/\IsPair h TI (.ref i1) (.ref i2)/\(∃a b,IsPair h TO a b)/\h.IsListIter i1 l1 i/\h.IsListIter i2 l2 i
theorem u9 {h:Heap}{z TI TO i1 i2 l1 l2:Addr}{i:Nat}{xs ys:Array Value}(t:iy z TI TO i1 i2 l1 l2 i h)(h1:h.IsList l1 xs)(h2:h.IsList l2 ys)(n1:TI≠TO)(n2:i1≠i2):ZipApart z TI TO i1 i2 l1 l2:=by
 obtain⟨tz,tI,⟨a,b,tO⟩,⟨o1,e1,c1,_⟩,⟨o2,e2,c2,_⟩⟩:=t;obtain⟨u1,f1,d1,_⟩:=h1;obtain⟨u2,f2,d2,_⟩:=h2;have d:∀{a b:Addr} {o u:Obj} (A B:String),h.get? a=some o->h.get? b=some u->o.cls=.type A->u.cls=.type B->(A == B)=false->a≠b:=fun A B x y hA hB n=>kT A B x y hA hB (by simpa using n);exact⟨d "tuple" "zip" tI tz rfl rfl rfl,d "tuple" "zip" tO tz rfl rfl rfl,d "list_iterator" "zip" e1 tz c1 rfl rfl,d "list_iterator" "zip" e2 tz c2 rfl rfl,n1,d "tuple" "list_iterator" tI e1 rfl c1 rfl,d "tuple" "list_iterator" tI e2 rfl c2 rfl,
  d "tuple" "list_iterator" tO e1 rfl c1 rfl,d "tuple" "list_iterator" tO e2 rfl c2 rfl,n2,d "list" "zip" f1 tz d1 rfl rfl,d "list" "tuple" f1 tO d1 rfl rfl,d "list" "list_iterator" f1 e1 d1 c1 rfl,d "list" "list_iterator" f1 e2 d1 c2 rfl,
  d "list" "zip" f2 tz d2 rfl rfl,d "list" "tuple" f2 tO d2 rfl rfl,d "list" "list_iterator" f2 e1 d2 c1 rfl,d "list" "list_iterator" f2 e2 d2 c2 rfl⟩
theorem xr {P:Program}{w:World}{K:aG}{es:List Expr}{k1:Nat}{ps:Pos}(l1 l2 z TI TO i1 i2:Addr)(n1:TI≠TO)(n2:i1≠i2):Turn P w K (.Tuple es k1 ps) (rb K l1 l2) [z,TI,TO,i1,i2] z (iy z TI TO i1 i2 l1 l2) where
 mem:=by simp
 obj:=fun i h t b hb=>by
  obtain⟨tz,tI,⟨a,c,tO⟩,⟨o1,e1,_,d1⟩,⟨o2,e2,_,d2⟩⟩:=t;simp only[List.mem_cons,List.not_mem_nil,or_false] at hb;rcases hb with rfl | rfl | rfl | rfl | rfl
  ·exact⟨_,tz,(fun v q=>nomatch q)⟩
  ·exact⟨_,tI,(fun v q=>nomatch q)⟩
  ·exact⟨_,tO,(fun v q=>nomatch q)⟩
  ·exact⟨o1,e1,fun v q=>by rw[d1] at q; cases q⟩
  ·exact⟨o2,e2,fun v q=>by rw[d2] at q; cases q⟩
 keep:=fun i h h' t k=>by
  obtain⟨tz,tI,⟨a,c,tO⟩,t1,t2⟩:=t;exact⟨k z (by simp) _ tz,k TI (by simp) _ tI,⟨a,c,k TO (by simp) _ tO⟩,t1.at fun o e=>k i1 (by simp) o e,t2.at fun o e=>k i2 (by simp) o e⟩
 item:=by
  intro X hP hw hK hc i pins s σ H E I hf st hg;subst hP hw hK;obtain⟨xs,ys,x,y,hx,hy,ex,ey⟩:=hg;obtain⟨its,rv,p,hz⟩:=I.list hx;obtain⟨its2,rv2,p2,hz2⟩:=I.list hy;obtain⟨u,hu,ru⟩:=rv.get ex;obtain⟨u2,hu2,ru2⟩:=rv2.get ey;have D:=u9 st p.isList p2.isList n1 n2;obtain⟨tz,tI,⟨a,c,tO⟩,t1,t2⟩:=st;refine wpAny_pyNext_zip_item D tz tI tO t1 t2 p.isList p2.isList (x:=u) (y:=u2) (by simpa using hu) (by simpa using hu2) fun h' z1 z2 z3 z4 z5 z6 z7=>⟨_,rfl,?_⟩
  refine wpAny_letOwnedTupleGo_zip (s:={ s with heap:=h' }) z1 fun h2 z1' sb=>?_;have kk:∀b o,b∉[z,TI,TO,i1,i2]->s.heap.get? b=some o->h2.get? b=some o:=fun b o nb e=>by
   simp only[List.mem_cons,List.not_mem_nil,or_false,not_or] at nb;obtain⟨m1,m2,m3,m4,m5⟩:=nb;exact (sb.2 b m1).trans (z7 b o m1 m3 m4 m5 e)
  have lz:z<s.heap.objs.size:=bn tz;have gT:h2.get? s.heap.objs.size=some { cls:=.type "tuple",data:=.seq #[u,u2] }:=(sb.2 _ (Nat.ne_of_gt lz)).trans z5;have up:∀b o,b≠z->h'.get? b=some o->h2.get? b=some o:=fun b o nb e=>(sb.2 b nb).trans e;refine⟨.ref s.heap.objs.size,upd H s.heap.objs.size (.tup [x,y]),I.turnedN (t':=s.toks) hf kk (aX _) ⟨by show 2<=sizeLine; decide,[u,u2],.cons ru (.cons ru2 .nil),_,gT,rfl,⟨_,rfl⟩,rfl⟩,rfl,
   ⟨x,y,_,rfl,I.hok.fresh (aX _),rfl,fun zs hq=>by rw[I.list_inj hq hx]; exact ex,fun zs hq=>by rw[I.list_inj hq hy]; exact ey⟩,
   ⟨z1',up _ _ D.TIz (z7 TI _ D.TIz D.TITO D.TIi1 D.TIi2 tI),⟨u,u2,up _ _ D.TOz z2⟩,z3.at fun o e=>up _ _ D.i1z e,z4.at fun o e=>up _ _ D.i2z e⟩,fun b hb=>?_⟩
  obtain⟨o,e,_⟩:∃o,s.heap.get? b=some o/\True:=by
   simp only[List.mem_cons,List.not_mem_nil,or_false] at hb;obtain⟨o1,e1,_,d1⟩:=t1;obtain⟨o2,e2,_,d2⟩:=t2;rcases hb with rfl | rfl | rfl | rfl | rfl
   ·exact⟨_,tz,trivial⟩
   ·exact⟨_,tI,trivial⟩
   ·exact⟨_,tO,trivial⟩
   ·exact⟨o1,e1,trivial⟩
   ·exact⟨o2,e2,trivial⟩
  rw[aZ (Nat.ne_of_lt (Heap.lt_size e))];exact (hf b hb).1
 done:=by
  intro X hP hw hK hc i pins s σ H E I hf st hg;subst hP hw hK;obtain⟨xs,ys,hx,hy,hend⟩:=hg;obtain⟨its,rv,p,hz⟩:=I.list hx;obtain⟨its2,rv2,p2,hz2⟩:=I.list hy;have D:=u9 st p.isList p2.isList n1 n2;obtain⟨tz,tI,⟨a,c,tO⟩,t1,t2⟩:=st;have l1:=rv.length;have l2:=rv2.length;refine wpAny_pyNext_zip_end (I.ok.hd hc) D tz tI tO t1 t2 p.isList p2.isList (hend.elim (fun q=>.inl (by simp; omega)) fun q=>.inr (by simp; omega)) fun h' kp=>⟨rfl,I.turnedL (t':=s.toks) hf fun b o nb e=>?_⟩
  simp only[List.mem_cons,List.not_mem_nil,or_false,not_or] at nb;obtain⟨m1,m2,m3,m4,m5⟩:=nb;exact kp b o m1 m3 m4 m5 e
 self:=fun _ _ _ _ _ st h=>wpAny_pyIter_zip st.1 h
noncomputable def rf (K:aG)(a:Addr):It:=
 ⟨fun i H=>∃xs x,SqL K H a xs/\xs[i]? = some x,fun i H v H'=>∃x p,v=.ref p/\H p=none/\H'=upd H p (.tup [.int i,x])/\∀xs,SqL K H a xs->xs[i]? = some x,fun i H=>∃xs,SqL K H a xs/\xs.length<=i⟩
def jb (e it l:Addr)(i:Nat)(h:Heap):Prop:=(∃old,IsEnum h e it i old)/\h.IsListIter it l i
theorem B6 {P:Program}{w:World}{K:aG}{es:List Expr}{k1:Nat}{ps:Pos}(l e it:Addr):Turn P w K (.Tuple es k1 ps) (rf K l) [e,it] e (jb e it l) where
 mem:=by simp
 obj:=fun i h t b hb=>by
  obtain⟨⟨old,te⟩,⟨o1,e1,_,d1⟩⟩:=t;simp only[List.mem_cons,List.not_mem_nil,or_false] at hb;rcases hb with rfl | rfl
  ·exact⟨_,te,(fun v q=>nomatch q)⟩
  ·exact⟨o1,e1,fun v q=>by rw[d1] at q; cases q⟩
 keep:=fun i h h' t k=>by
  obtain⟨⟨old,te⟩,t1⟩:=t;exact⟨⟨old,k e (by simp) _ te⟩,t1.at fun o q=>k it (by simp) o q⟩
 item:=by
  intro X hP hw hK hc i pins s σ H E I hf st hg;subst hP hw hK;obtain⟨xs,x,hx,ex⟩:=hg;obtain⟨its,rv,p,hz⟩:=I.list hx;obtain⟨u,hu,ru⟩:=rv.get ex;obtain⟨⟨old,te⟩,t1⟩:=st;have ne:e≠it:=by
   obtain⟨o1,e1,c1,_⟩:=t1;exact kT "enumerate" "list_iterator" te e1 rfl c1 (by decide)
  refine wpAny_pyNext_enum_item te t1 p.isList (x:=u) (by simpa using hu) ne fun h' z1 z2 z3 z4 z5=>⟨_,rfl,?_⟩
  refine wpAny_letOwnedTupleGo_enum (s:={ s with heap:=h',toks:=s.toks+1 }) z1 fun h2 z1' sb=>?_;have kk:∀b o,b∉[e,it]->s.heap.get? b=some o->h2.get? b=some o:=fun b o nb q=>by
   simp only[List.mem_cons,List.not_mem_nil,or_false,not_or] at nb;exact (sb.2 b nb.1).trans (z5 b o nb.1 nb.2 q)
  have le:e<s.heap.objs.size:=bn te;have gT:h2.get? s.heap.objs.size=some { cls:=.type "tuple",data:=.seq #[.int i s.toks,u] }:=(sb.2 _ (Nat.ne_of_gt le)).trans z3;refine⟨.ref s.heap.objs.size,upd H s.heap.objs.size (.tup [.int i,x]),I.turnedN (t':=s.toks+1) hf kk (aX _) ⟨by show 2<=sizeLine; decide,[.int i s.toks,u],.cons ⟨_,rfl⟩ (.cons ru .nil),_,gT,rfl,⟨_,rfl⟩,rfl⟩,rfl,
   ⟨x,_,rfl,I.hok.fresh (aX _),rfl,fun zs hq=>by rw[I.list_inj hq hx]; exact ex⟩,⟨⟨u,by simpa using z1'⟩,z2.at fun o q=>(sb.2 it (Ne.symm ne)).trans q⟩,fun b hb=>?_⟩
  obtain⟨o,q,_⟩:∃o,s.heap.get? b=some o/\True:=by
   simp only[List.mem_cons,List.not_mem_nil,or_false] at hb;obtain⟨o1,e1,_,d1⟩:=t1;rcases hb with rfl | rfl
   ·exact⟨_,te,trivial⟩
   ·exact⟨o1,e1,trivial⟩
  rw[aZ (Nat.ne_of_lt (Heap.lt_size q))];exact (hf b hb).1
 done:=by
  intro X hP hw hK hc i pins s σ H E I hf st hg;subst hP hw hK;obtain⟨xs,hx,hend⟩:=hg;obtain⟨its,rv,p,hz⟩:=I.list hx;obtain⟨⟨old,te⟩,t1⟩:=st;have l1:=rv.length;refine wpAny_pyNext_enum_end (I.ok.hd hc) te t1 p.isList (by simp; omega) fun h' kp=>⟨rfl,I.turnedL (t':=s.toks) hf fun b o nb q=>?_⟩
  simp only[List.mem_cons,List.not_mem_nil,or_false,not_or] at nb;exact kp b o nb.2 q
 self:=fun _ _ _ _ _ st h=>by
  obtain⟨⟨old,te⟩,_⟩:=st;exact wpAny_pyIter_enum te h
section
variable {X:Cx}{es:List Expr}{k1:Nat}{tp:Pos}
def p8 (K:aG)(ta:TA):TI:=fun σ H R=>ta σ H fun vs H1=>∃a b xs ys,vs=[.ref a,.ref b]/\SqL K H1 a xs/\SqL K H1 b ys/\R (rb K a b) H1
theorem xS {a b:Expr}{ta:TA}{p pos:Pos}(hg:Gl X "zip")(hm:X.mg "zip" = none)(hv:bootBuiltins "zip" = some (.type "zip"))(ha:PA X [a,b] ta)(hs:starEach [a,b] X.env=[(false,eval a X.env),(false,eval b X.env)]:=by rfl)(hs2:starEach [b] X.env=[(false,eval b X.env)]:=by rfl) :
  PI X (.Tuple es k1 tp) (.Call (.Name "zip" p) [a,b] [] pos) (p8 X.K ta):=by
 intro pins s σ H R I h;refine Call_ (ie I hg hm hv (PyProof.Rows.callWith_type1 (aB (ha pos pins s σ H _ I h) fun us s1 hZz=>?_) (by rw[hs,hs2]) (by rw[hs2]; rfl)));obtain⟨vs,H1,I1,r1,q1⟩:=hZz;obtain⟨l1,l2,xs,ys,rfl,hx,hy,q⟩:=q1;obtain⟨u,v,rfl,ru,rv⟩:=vals2 r1;cases ru;cases rv;obtain⟨its,rx,px,hzx⟩:=I1.list hx;obtain⟨its2,ry,py,hzy⟩:=I1.list hy;refine call_zip_2 px.isList py.isList fun h' z1 z2 z3 z4 z5 z6 z7=>?_;refine wpAny_pyIter_zip (s:={ s1 with heap:=h' }) z1 ⟨_,_,_,_,H1,rfl,I1.kept (t':=s1.toks) z7,xr l1 l2 (s1.heap.objs.size+4) (s1.heap.objs.size+2) (s1.heap.objs.size+3) s1.heap.objs.size (s1.heap.objs.size+1) (cH (Nat.lt_succ_self _)) (cH (Nat.lt_succ_self _)),⟨z1,z2,⟨_,_,z3⟩,z4,z5⟩,fun b hb=>?_,q⟩;have lb:s1.heap.objs.size<=b:=by
  simp only[List.mem_cons,List.not_mem_nil,or_false] at hb;rcases hb with rfl | rfl | rfl | rfl | rfl <;> omega
 exact I1.fpOk lb (I1.hok.fresh lb)
end
end L2
end
section
namespace St
open PySem PyProof.Rows
noncomputable def subs:Nat->List (List Nat)
 | 0=>[[]]
 | n+1=>subs n++(subs n).map (·++[n])
noncomputable def ins (l:List Nat)(k:Nat):List Nat:=l.filter (fun x=>Nat.blt x k)++k::l.filter (fun x=>Nat.blt k x)
noncomputable def b1 (l:List Nat)(k:Nat):Bool:=l.contains k||((!SetTable.has l.toArray k)&&(SetTable.below l.toArray k == (l.filter (fun x=>Nat.blt x k)).length)&&(l.take (l.filter (fun x=>Nat.blt x k)).length++k::l.drop (l.filter (fun x=>Nat.blt x k)).length == ins l k)&&(subs 6).contains (ins l k))
theorem AX:((subs 6).all fun l=>(List.range 6).all fun k=>b1 l k)=true:=by decide +kernel
noncomputable def hs (l:List Nat):Array Int:=(l.map Int.ofNat).toArray
noncomputable def b2 (m:Nat)(l:List Nat):Bool:=((SetTable.layClean m (hs l)).map fun owner=>(List.range (m+1)).filterMap fun j=>(owner.getD j none).map (j,·)) == some (l.zip (List.range l.length))
noncomputable def gm (l:List Nat):Nat:=SetTable.sizeAbove (SetTable.grown l.length) - 1
noncomputable def rA (l:List Nat):Bool:=b2 (gm l) l&&(Nat.blt 4 l.length||b2 7 l)&&b2 15 l&&(gm l == 7&&Nat.ble l.length 4||gm l == 15||gm l == 31)
theorem Az:((subs 6).all rA)=true:=by decide +kernel
noncomputable def b3 (l:List Nat):Bool:=(List.range (l.length+1)).all fun i=>SetTable.below l.toArray (if i=0 then 0 else l.getD (i - 1) 0+1) == i
theorem uX:((subs 6).all b3)=true:=by decide +kernel
noncomputable def b4 (l:List Nat):Bool:=decide (l.length<=6)&&l.all (fun x=>Nat.blt x 6)&&decide (l.Pairwise (· < ·))
theorem B8:((subs 6).all b4)=true:=by decide +kernel
noncomputable def b5 (l:List Nat):Bool:=((List.range 6).filter l.contains == l)&&(List.range 6).all fun k=>(subs 6).contains (l.filter (· != k))
theorem xF (hm:m=7\/m=15\/m=31)(hk:k<6):SetTable.bits (Int.ofNat k) % (m+1)=k:=by
 have:∀m∈[7,15,31],∀k∈List.range 6,SetTable.bits (Int.ofNat k) % (m+1)=k:=by decide +kernel
 exact this m (by simpa using hm) k (List.mem_range.mpr hk)
theorem Bu {t:SetTable}{k:Nat}(hm:t.mask=7\/t.mask=15\/t.mask=31)(hk:k<6)(h1:SetTable.has t.place k=false)(h2:SetTable.has t.dummies k=false):t.freeSlot (Int.ofNat k)=some (k,false):=by
 have hs:t.slot k=.empty:=by
  show (if SetTable.has t.place k=true then _ else if SetTable.has t.dummies k=true then _ else _)=_;rw[h1,h2];rfl
 obtain⟨n,hn⟩:∃n,10 * SetTable.turns t.mask=n+1:=⟨10 * t.mask+149,by unfold SetTable.turns; omega⟩
 have e:(t.probeStart (Int.ofNat k)).j=k:=xF hm hk;unfold SetTable.freeSlot SetTable.probe;rw[hn];unfold SetTable.probe.go;rw[e,hs];rfl
structure TG (b:Bool)(l D:List Nat)(t:SetTable):Prop where
 mem:l∈subs 6
 place:t.place=l.toArray
 dum:∃ds,ds∈subs 6/\t.dummies=ds.toArray/\∀x∈ds,x∈D
 mask:t.mask=7/\t.fill<=4\/t.mask=15\/t.mask=31
 led:t.led=b
 plain:t.plain=true
def SG (b:Bool)(h:Heap)(a:Addr)(l D:List Nat):Prop:=∃es ep t,h.get? a=some { cls:=.type "set",dict:=none,data:=.set es ep t }/\es.toList.map (·.1)=l.map Int.ofNat/\(∀e∈es.toList,∃tk,e.2=.int e.1 tk)/\TG b l D t
theorem mem_b4 (h:l∈subs 6):l.length<=6/\(∀x∈l,x<6)/\l.Pairwise (· < ·):=by
 have:=dF B8 l h;simp only[b4,Bool.and_eq_true,decide_eq_true_eq,List.all_eq_true] at this;exact⟨this.1.1,fun x hx=>Nat.le_of_ble_eq_true (this.1.2 x hx),this.2⟩
theorem t8 (h:k<6):hashInt (Int.ofNat k)=Int.ofNat k:=by
 have:∀j∈List.range 6,hashInt (Int.ofNat j)=Int.ofNat j:=by decide +kernel
 exact this k (List.mem_range.mpr h)
theorem TG.size (h:TG b l D t):t.place.size=l.length:=by rw[h.place]; simp
theorem TG.fill (h:TG b l D t):t.fill<=l.length+6:=by
 obtain⟨ds,d1,d2,_⟩:=h.dum;have:=(mem_b4 d1).1;rw[SetTable.fill,h.size,d2,List.size_toArray];omega
theorem TG.fits (h:TG b l D t)(hn:n=l.length):t.fits n=true:=by
 have h6:=(mem_b4 h.mem).1;have hf:=h.fill;simp only[SetTable.fits,h.size,Bool.and_eq_true,beq_iff_eq,decide_eq_true_eq];refine⟨hn.symm,?_⟩;rcases h.mask with ⟨e,q⟩ | e | e <;> omega
theorem TG.mask3 (h:TG b l D t):t.mask=7\/t.mask=15\/t.mask=31:=h.mask.imp And.left id
theorem lX {prog:Program}{w:World}{es:Array (Int×Value)}{l:List Nat}(hm:l∈subs 6)(h1:es.toList.map (·.1)=l.map Int.ofNat)(h2:∀e∈es.toList,∃tk,e.2=.int e.1 tk):ElemsOf (intKind prog w) es.toList:=by
 intro e he;obtain⟨tk,et⟩:=h2 e he;have:e.1∈l.map Int.ofNat:=by rw[<-h1]; exact List.mem_map_of_mem he
 obtain⟨k,hk,ek⟩:=du this;refine⟨⟨e.1,by rw[et]; exact intKind_is _ _ _ _,?_⟩,by rw[et]; rfl⟩;show e.1=hashInt e.1;rw[<-ek,t8 ((mem_b4 hm).2.1 k hk)]
theorem gy {es:Array (Int×Value)}{l:List Nat}(h1:es.toList.map (·.1)=l.map Int.ofNat):es.size=l.length:=by
 have:=congrArg List.length h1;simpa using this
theorem ins_of (hm:l∈subs 6)(hk:k<6)(hn:k∉l):SetTable.has l.toArray k=false/\SetTable.insertAt l.toArray (SetTable.below l.toArray k) k=(ins l k).toArray/\SetTable.below l.toArray k=(l.filter (fun x=>Nat.blt x k)).length/\l.take (l.filter (fun x=>Nat.blt x k)).length++k::l.drop (l.filter (fun x=>Nat.blt x k)).length=ins l k/\ins l k∈subs 6/\(ins l k).length=l.length+1:=by
 have q:b1 l k=true:=dF (dF AX l hm) k (List.mem_range.mpr hk);have hc:l.contains k=false:=by simpa using hn
 simp only[b1,hc,Bool.false_or,Bool.and_eq_true,beq_iff_eq,List.contains_iff_mem,Bool.not_eq_true'] at q;obtain⟨⟨⟨q1,q2⟩,q3⟩,q4⟩:=q;refine⟨q1,?_,q2,q3,q4,?_⟩
 ·rw[q2];apply Array.toList_inj.mp;rw[SetTable.toList_insertAt];simpa using q3
 ·rw[<-q3,List.length_append,List.length_cons,List.length_take,List.length_drop];have:(l.filter (fun x=>Nat.blt x k)).length<=l.length:=List.length_filter_le _ _;omega
theorem Do {b:Bool}{l D:List Nat}{t:SetTable}{es:Array (Int×Value)}{k:Nat}{x:Value}(h:TG b l D t)(h1:es.toList.map (·.1)=l.map Int.ofNat)(hk:k<6)(hn:k∉l)(hD:k∉D) :
  ∃es' t',layNew t es (Int.ofNat k) x=(es',t',false,false)/\es'.toList.map (·.1)=(ins l k).map Int.ofNat/\(∀e∈es'.toList,e∈es.toList\/e=(Int.ofNat k,x))/\t'.mask=t.mask/\t'.place=(ins l k).toArray/\t'.dummies=t.dummies/\t'.led=b/\t'.plain=true/\t'.fill=t.fill+1/\ins l k∈subs 6:=by
 obtain⟨q1,hp,q2,q3,q4,hlen⟩:=ins_of h.mem hk hn;obtain⟨ds,d1,d2,d3⟩:=h.dum;have hnod:SetTable.has t.dummies k=false:=by rw[d2]; exact (ins_of d1 hk fun e=>hD (d3 k e)).1
 have hnop:SetTable.has t.place k=false:=by rw[h.place]; exact q1
 have f1:t.freeSlot (Int.ofNat k)=some (k,false):=Bu h.mask3 hk hnop hnod;rw[<-h.place] at hp q2;have hf:=h.fill;have h6:=(mem_b4 h.mem).1;have hfl:({ t with place:=(ins l k).toArray,dummies:=t.dummies }:SetTable).fill=t.fill+1:=by
  simp only[SetTable.fill,h.size,List.size_toArray,hlen];omega
 have hfit:({ t with place:=(ins l k).toArray,dummies:=t.dummies }:SetTable).fits (l.length+1)=true:=by
  simp only[SetTable.fits,hfl,Bool.and_eq_true,beq_iff_eq,decide_eq_true_eq,List.size_toArray,hlen];refine⟨trivial,?_⟩;rcases h.mask with ⟨e,q⟩ | e | e <;> omega
 have hes:(SetTable.insertAt es (SetTable.below t.place k) (Int.ofNat k,x)).size=l.length+1:=by
  rw[<-Array.length_toList,(SetTable.insertAt_perm _ _ _).length_eq,Array.toList_push,List.length_append,Array.length_toList,gy h1];rfl
 refine⟨SetTable.insertAt es (SetTable.below t.place k) (Int.ofNat k,x),{ t with place:=(ins l k).toArray },?_,?_,fun e he=>?_,rfl,rfl,rfl,h.led,h.plain,hfl,q4⟩
 ·unfold layNew;rw[f1];dsimp only[SetTable.put];rw[hnod,hp];simp only[Bool.false_eq_true,if_false];rw[hes];simp only[SetTable.orStandIn,hfit,if_true,Bool.not_true]
 ·rw[SetTable.toList_insertAt,q2,List.map_append,List.map_cons,List.map_take,List.map_drop,h1,<-List.map_take,<-List.map_drop,<-q3];simp
 ·have:=(SetTable.insertAt_perm es (SetTable.below t.place k) (Int.ofNat k,x)).mem_iff.mp he;rw[Array.toList_push,List.mem_append,List.mem_singleton] at this;exact this
theorem C6 {m f mv:Nat}{ld pl:Bool}{l:List Nat}{es:Array (Int×Value)}(q:b2 m l=true)(h1:es.toList.map (·.1)=l.map Int.ofNat):SetTable.laid m f mv ld pl (es.map (·.1))=some (⟨m,l.toArray,#[],f,ld,mv,pl⟩,(List.range l.length).toArray):=by
 simp only[b2,beq_iff_eq] at q;obtain⟨owner,o1,o2⟩:=cy q;have hh:es.map (·.1)=hs l:=by
  apply Array.toList_inj.mp;rw[Array.toList_map,h1];rfl
 have hzip:(l.zip (List.range l.length)).map (·.1)=l:=by rw[List.map_fst_zip]; simp
 have hzip2:(l.zip (List.range l.length)).map (·.2)=List.range l.length:=by rw[List.map_snd_zip]; simp
 unfold SetTable.laid;rw[hh];show (SetTable.layClean m (hs l)).bind _=_;rw[o1];show some _=some _;rw[show (List.range (m+1)).filterMap (fun j=>(owner.getD j none).map (j,·))=l.zip (List.range l.length) from o2,hzip,hzip2]
theorem wK {l:List Nat}{es:Array (Int×Value)}(hz:es.size=l.length):(List.range l.length).toArray.filterMap (es[·]?)=es:=by
 apply Array.toList_inj.mp;rw[Array.toList_filterMap];show (List.range l.length).filterMap (fun i=>es[i]?)=es.toList;rw[<-hz];exact filterMap_getElem?_range es
theorem Bv {b:Bool}{l D:List Nat}{t:SetTable}{es:Array (Int×Value)}(hm:l∈subs 6)(h1:es.toList.map (·.1)=l.map Int.ofNat)(hl:t.led=b)(hp:t.plain=true) :
  ∃t',relayAll t es (SetTable.grown es.size)=(es,t',false)/\TG b l D t':=by
 have q:=dF Az l hm;simp only[rA,Bool.and_eq_true,Bool.or_eq_true,beq_iff_eq] at q;obtain⟨⟨⟨q1,_⟩,_⟩,q4⟩:=q;have hz:es.size=l.length:=gy h1;have h6:=(mem_b4 hm).1;have TT:TG b l D ⟨gm l,l.toArray,#[],t.finger,t.led,t.movedTo (gm l),t.plain⟩:=by
  refine⟨hm,rfl,⟨[],by decide +kernel,rfl,fun x hx=>by cases hx⟩,?_,hl,hp⟩;rcases q4 with (⟨q4,q5⟩ | q4) | q4
  ·exact .inl ⟨q4,by simpa[SetTable.fill] using Nat.le_of_ble_eq_true q5⟩
  ·exact .inr (.inl q4)
  ·exact .inr (.inr q4)
 refine⟨_,?_,TT⟩;have hr:t.relaid (es.map (·.1)) (SetTable.grown es.size)=some (⟨gm l,l.toArray,#[],t.finger,t.led,t.movedTo (gm l),t.plain⟩,(List.range l.length).toArray):=by
  unfold SetTable.relaid;rw[hz];exact C6 q1 h1
 have hcov:coversAll (List.range l.length).toArray es.size=true:=by
  unfold coversAll;rw[hz];exact List.isPerm_iff.mpr (List.Perm.refl _)
 unfold relayAll;rw[hr];dsimp only;rw[wK hz,hcov,TT.fits hz];rfl
section
variable {prog:Program}{w:World}{A:Around}{E:Value->Shared->Prop}{s:Shared}
theorem SG.store {b:Bool}{h:Heap}{a:Addr}{es es':Array (Int×Value)}{ep:Nat}{t t':SetTable}{l D:List Nat}(ho:h.get? a=some { cls:=.type "set",dict:=none,data:=.set es ep t })(h1:es'.toList.map (·.1)=l.map Int.ofNat)(h2:∀e∈es'.toList,∃tk,e.2=.int e.1 tk)(ht:TG b l D t') :
  (h.update a (Obj.putSet es' t')).get? a=some { cls:=.type "set",dict:=none,data:=.set es' (ep+1) t' }/\SG b (h.update a (Obj.putSet es' t')) a l D:=by
 have e:=Heap.get?_update_self (Obj.putSet es' t') ho rfl;exact⟨e,es',ep+1,t',e,h1,h2,ht⟩
theorem small_line (h:n<=6):n<=sizeLine:=br h (by decide)
theorem ww {a:Addr}{l D:List Nat}{b:Bool}{k:Nat}{tk:Tok}{Q:Bool->Shared->Prop}(hS:SG b s.heap a l D)(hk:k<6)(hD:k∉D)
  (h:∀h' r,Heap.SameBut a s.heap h'->SG b h' a (if k∈l then l else ins l k) D->Q r { s with heap:=h' }) :
  wpAny (model prog w) A (setAddHashed a (.int (Int.ofNat k) tk) ((intKind prog w).hash (Int.ofNat k))) Q E s:=by
 obtain⟨es,ep,t,ho,h1,h2,ht⟩:=hS;have hel:ElemsOf (intKind prog w) es.toList:=lX ht.mem h1 h2;have hz:=gy h1;have h6:=(mem_b4 ht.mem).1;have hf:t.fits es.size=true:=ht.fits hz;have hb:es.size<scanBound:=by unfold scanBound; omega
 have hkey:(intKind prog w).is (Int.ofNat k) (.int (Int.ofNat k) tk)=true:=intKind_is _ _ _ _;unfold setAddHashed setAddHashedIn;refine wpAny_holding (af (wpAny_setState_of ho rfl hf ?_));dsimp only;rw[byScan_of (knd:=intKind prog w) rfl hb hel];simp only[↓reduceIte];unfold setAddByScan;refine af ?_;refine af (wpAny_rule ?_);refine af (wpAny_setScan_of (knd:=intKind prog w) hkey ho rfl hf hel ?_);have hin:∀e∈es.toList,(intKind prog w).is (Int.ofNat k) e.2=true->k∈l:=by
  intro e he hi;obtain⟨tk',et⟩:=h2 e he;obtain⟨t2,e2⟩:=Value.isInt_shape (show Value.isInt (Int.ofNat k) e.2=true from hi);rw[et] at e2;injection e2 with e3 _;have:e.1∈l.map Int.ofNat:=by rw[<-h1]; exact List.mem_map_of_mem he
  obtain⟨k',hk',ek⟩:=du this;rw[e3] at ek;have:k'=k:=Int.ofNat.inj ek;exact this ▸ hk'
 cases hr:List.findIdx? (fun e=>(intKind prog w).is (Int.ofNat k) e.2) es.toList with
 | some j=>
  dsimp only;obtain⟨hj,hpj,_⟩:=List.findIdx?_eq_some_iff_getElem.mp hr;have hkl:k∈l:=hin _ (List.getElem_mem hj) hpj;refine ay (ay ?_);have e:s={ s with heap:=s.heap }:=by cases s; rfl
  have:=h s.heap false (Heap.SameBut.refl a s.heap) ⟨es,ep,t,ho,by rw[if_pos hkl]; exact h1,h2,by rw[if_pos hkl]; exact ht⟩;rw[e]; exact this
 | none=>
  dsimp only;have hkl:k∉l:=by
   intro hm;have:Int.ofNat k∈es.toList.map (·.1):=by rw[h1]; exact List.mem_map_of_mem hm
   obtain⟨e,he,ee⟩:=du this;have:=List.findIdx?_eq_none_iff.mp hr e he;obtain⟨tk',et⟩:=h2 e he;rw[et,ee] at this;have z:(intKind prog w).is (Int.ofNat k) (.int (Int.ofNat k) tk')=true:=intKind_is _ _ _ _;rw[z] at this;cases this
  rw[if_neg hkl] at h;have hh:(intKind prog w).hash (Int.ofNat k)=Int.ofNat k:=t8 hk;rw[hh];obtain⟨es',t',hL,e1,e2,m1,m2,m3,m4,m5,m6,m7⟩:=Do (x:=.int (Int.ofNat k) tk) ht h1 hk hkl hD;rw[hL];dsimp only;have e2':∀e∈es'.toList,∃tk,e.2=.int e.1 tk:=fun e he=>by
   rcases e2 e he with q | q
   ·exact h2 e q
   ·rw[q]; exact⟨tk,rfl⟩
  have hz':=gy e1;have h6':=(mem_b4 m7).1;refine af ?_;refine ay ?_;rw[m5];simp only[if_true];refine af ?_;rw[hashByValue_scannable 8 (x:=.int (Int.ofNat k) tk) rfl];refine ay ?_;simp only[plainKind,if_true,Bool.not_false,Bool.true_and];refine af (wpAny_storeSet_of ho rfl ?_ (small_line (by rw[hz']; exact h6')));by_cases hfull:t'.tooFull=true
  ·rw[if_pos hfull];obtain⟨t2,r1,r2⟩:=Bv (b:=b) (D:=D) m7 e1 m4 m5;rw[r1];dsimp only;have hx:=Heap.get?_update_self (Obj.putSet es' t') ho rfl;refine af ?_;refine ay ?_;refine af (wpAny_storeSet_of (o:={ cls:=.type "set",dict:=none,data:=.set es' (ep+1) t' }) hx rfl ?_ (small_line (by rw[hz']; exact h6')));refine ay (ay (h _ true ((Heap.SameBut.update s.heap a _).trans (Heap.SameBut.update _ a _)) (SG.store hx e1 e2' r2).2))
  ·rw[if_neg hfull];have hm':t'.mask=7/\t'.fill<=4\/t'.mask=15\/t'.mask=31:=by
    rcases ht.mask with ⟨q,q2⟩ | q
    ·refine .inl ⟨m1.trans q,?_⟩;simp only[SetTable.tooFull,m1,q,decide_eq_true_eq,ge_iff_le] at hfull;omega
    ·exact .inr (by rw[m1]; exact q)
   refine ay (ay (h _ true (Heap.SameBut.update s.heap a _) (SG.store ho e1 e2' ⟨m7,m2,by rw[m3]; exact ht.dum,hm',m4,m5⟩).2))
end
end St
end
section
namespace St
open PySem PyProof.Rows PySem.W
theorem Cd:entryFor table "set.__iter__" = some Builtin.«frozenset.__iter__»:=
 entryFor_alias (id' := "frozenset.__iter__") (by kernel_rfl) rfl (by decide +kernel) (by kernel_rfl)
theorem kf:Slot "set_iterator" "__next__" "set_iterator.__next__" :=
 .of (owner := "set_iterator") (n := "__next__") (by rw[typeLookup_type,builtinLookup_eq_fast]; kernel_rfl) (by decide +kernel) (by decide +kernel) (by decide +kernel)
  (by first | exact .inl (by decide +kernel) | exact .inr (by decide +kernel)) (by rw[isSubtype_type]; kernel_rfl)
theorem tm:entryFor table "set_iterator.__next__" = some Builtin.«set_iterator.__next__»:=entryFor_of_tree (by kernel_rfl)
theorem tU:Manifest.owners.lookup (String.ofList ['r','o','t','a','r','e','t','i','_','t','e','s'].reverse)=some Manifest.sig_set_iterator:=by kernel_rfl
theorem vA (a:Value):argsOk "set_iterator.__next__" ⟨[a],[]⟩:=by
 unfold argsOk; rw[signature?_of (id := "set_iterator.__next__") (n:=['_','_','t','x','e','n','_','_']) (o:=['r','o','t','a','r','e','t','i','_','t','e','s']) (by kernel_rfl) tU]; kernel_rfl
theorem rE:Slot "set_iterator" "__iter__" "set_iterator.__iter__" :=
 .of (owner := "set_iterator") (n := "__iter__") (by rw[typeLookup_type,builtinLookup_eq_fast]; kernel_rfl) (by decide +kernel) (by decide +kernel) (by decide +kernel)
  (by first | exact .inl (by decide +kernel) | exact .inr (by decide +kernel)) (by rw[isSubtype_type]; kernel_rfl)
theorem A6:typeLookup (.type "set") "__len__" = pure (some (.builtin "set.__len__")):=by rw[typeLookup_type,builtinLookup_eq_fast]; kernel_rfl
section
variable {prog:Program}{w:World}{A:Around}{E:Value->Shared->Prop}{s:Shared}{r:Addr}
theorem y2 (hT:s.TypeIs (.ref r) "set")(h:Q false s):wpAny (model prog w) A (Builtin.List.listLengthHint (.ref r)) Q E s:=by
 unfold Builtin.List.listLengthHint;refine af (wpAny_specialOf hT A6 ?_);generalize hid:("set.__len__" : String)=id0;wp_delta
 rw[show splitId id0=some ("set", "__len__") from by subst hid; decide +kernel];subst hid;refine af (wpAny_isInstance (T := "set") (b:=true) hT (by rw[isSubtype_type]; kernel_rfl) ?_);refine wpAny_ite_split (fun hab=>absurd hab (by decide)) (fun _=>?_);refine wpAny_ite_split (fun _=>?_) (fun hab=>absurd (by decide +kernel) hab);refine af (wpAny_typeOf hT ?_);exact ay h
theorem oZ (h:Q (w.params.followText "set-order") s):wpAny (model prog w) A setsByText Q E s:=by
 unfold setsByText;refine af (wpAny_askSetting ?_);exact ay h
theorem Bs (ho:s.heap.get? a=some { cls:=.type "set",dict:=none,data:=.set es ep t })(hf:t.fits es.size=true)(hp:t.plain=true)(h:Q false s) :
  wpAny (model prog w) A (setDrawn a) Q E s:=by
 unfold setDrawn;refine af (wpAny_setState_of ho rfl hf ?_);dsimp only;refine af (oZ ?_);refine ay ?_;show Q (!w.params.followText "set-order" && (!t.plain&&decide (es.size > 1))) s;rw[hp,Bool.not_true,Bool.false_and,Bool.and_false];exact h
end
noncomputable abbrev kR (slot i:Nat)(a:Addr)(n ep:Nat):Obj:={ cls:=.type "set_iterator",data:=.fields #[.int slot 0,.int i 0,.ref a,.int n 0,.int ep 0] }
section
variable {prog:Program}{w:World}{A:Around}{E:Value->Shared->Prop}{s:Shared}{a:Addr}{es:Array (Int×Value)}{ep:Nat}{t:SetTable}
theorem Am (ho:s.heap.get? a=some { cls:=.type "set",dict:=none,data:=.set es ep t })(hf:t.fits es.size=true)(hp:t.plain=true)
  (hQ:Q (.ref s.heap.objs.size) { s with heap:=s.heap.push (kR 0 0 a es.size ep) }):wpAny (model prog w) A (pyIter (.ref a)) Q E s:=by
 have hT:s.TypeIs (.ref a) "set":=⟨_,ho,rfl⟩
 refine wpAny_pyIter_slot hT F.slot_set_iter (wpAny_call_entry F.slot_set_iter hT Cd ?_ (F.args_set_iter_1 _));unfold Builtin.«frozenset.__iter__» Builtin.Frozenset.slot0 slotArgs;simp only[List.isEmpty_nil,Bool.not_true,Bool.false_eq_true,↓reduceIte,bind_assoc,List.length_nil,bne_self_eq_false];unfold Builtin.Frozenset.addrOf Builtin.Frozenset.sizeOf;refine af (ay ?_);try dsimp only
 refine af (ay ?_);refine af (af (wpAny_setEntries_of ho rfl hf (ay ?_)));refine af (Bs ho hf hp ?_);simp only[Bool.false_eq_true,if_false];refine af (ay ?_);refine af (wpAny_setEpoch_of ho rfl hf ?_);unfold newFields;refine af (wpAny_newObj_type (ay ⟨_,rfl, "set_iterator",_,⟨_,cR _ rfl,rfl⟩,kf.lookup,?_⟩));exact hQ
noncomputable def ord (w:World)(a:Addr)(ep:Nat)(es:Array (Int×Value)):Array (Int×Value):=if w.params.followText "set-order" then pickOrder (w.params.setOrder a ep) es else es
noncomputable def nextOf (w:World)(a:Addr)(ep:Nat)(es:Array (Int×Value))(t:SetTable)(slot i:Nat):Option (Value×Nat):=
 if w.params.followText "set-order" then ((ord w a ep es)[i]?).map fun e=>(e.2,slot) else match es[SetTable.below t.place slot]?,t.place[SetTable.below t.place slot]? with
  | some (_,x),some j=>some (x,j+1)
  | _,_=>none
theorem sv (ho:s.heap.get? a=some { cls:=.type "set",dict:=none,data:=.set es ep t })(hf:t.fits es.size=true)(hp:t.plain=true)(hl:t.led = !w.params.followText "set-order")(h:Q (nextOf w a ep es t slot i) s) :
  wpAny (model prog w) A (setNext a slot i ep) Q E s:=by
 unfold setNext;refine af (wpAny_setState_of ho rfl hf ?_);dsimp only;refine af (oZ ?_);unfold nextOf ord at h;cases hb:w.params.followText "set-order" with
 | true=>
  rw[hb] at h;simp only[if_true,bne_self_eq_false,Bool.false_eq_true,if_false] at h ⊢;refine af ?_;unfold setWalk;refine af (wpAny_setState_of ho rfl hf ?_);dsimp only;refine af (oZ ?_);rw[hb];simp only[if_true];refine af (wpAny_askSetting ?_);exact ay (ay h)
 | false=>
  rw[hb] at h hl;simp only[Bool.false_eq_true,if_false] at h ⊢;refine wpAny_ite_split (fun hab=>absurd (show (!t.plain&&decide (es.size > 1))=true from hab) (by rw[hp]; simp)) (fun _=>?_);refine af ?_;refine wpAny_ite_split (fun hab=>absurd (show (!t.led&&!es.isEmpty)=true from hab) (by rw[hl]; simp)) (fun _=>?_);exact ay (ay h)
end
theorem rW:∀{l:List α} {i:Nat} (h:i<l.length),List.Perm (l[i]::l.eraseIdx i) l
 | x::l,0,_=>List.Perm.refl _
 | x::l,i+1,h=>by
  have:=rW (l:=l) (i:=i) (Nat.lt_of_succ_lt_succ h);rw[List.eraseIdx_cons_succ,List.getElem_cons_succ];exact (List.Perm.swap x _ _).trans (this.cons x)
theorem rR (next:Nat->Nat):∀(fuel k:Nat) (left:List α) (out:Array α),fuel=left.length->List.Perm (pickOrder.go next fuel k left out).toList (out.toList++left)
 | 0,k,left,out,h=>by
  have:left=[]:=List.length_eq_zero_iff.mp h.symm;subst this;simp[pickOrder.go]
 | fuel+1,k,left,out,h=>by
  unfold pickOrder.go;have hl:next k % left.length<left.length:=Nat.mod_lt _ (by omega);rw[List.getElem?_eq_getElem hl];dsimp only;refine (rR next fuel (k+1) _ _ ?_).trans ?_
  ·rw[List.length_eraseIdx,if_pos hl]; omega
  ·rw[Array.toList_push,List.append_assoc];refine List.Perm.append_left _ ?_;exact rW hl
theorem Bo (next:Nat->Nat)(xs:Array α):List.Perm (pickOrder next xs).toList xs.toList:=by
 have:=rR next xs.size 0 xs.toList #[] (by simp);simpa[pickOrder] using this
theorem qK (w:World)(a:Addr)(ep:Nat)(es:Array (Int×Value)):List.Perm (ord w a ep es).toList es.toList:=by
 unfold ord;split
 ·exact Bo _ _
 ·exact List.Perm.refl _
theorem oP (w:World)(a:Addr)(ep:Nat)(es:Array (Int×Value)):(ord w a ep es).size=es.size:=by
 rw[<-Array.length_toList,(qK w a ep es).length_eq,Array.length_toList]
noncomputable def slotAt (w:World)(l:List Nat)(i:Nat):Nat:=if w.params.followText "set-order" then 0 else if i=0 then 0 else l.getD (i - 1) 0+1
section
variable {prog:Program}{w:World}{A:Around}{E:Value->Shared->Prop}{s:Shared}{a I:Addr}{es:Array (Int×Value)}{ep:Nat}{t:SetTable}{b:Bool}{l D:List Nat}
theorem DX (ht:TG b l D t)(h1:es.toList.map (·.1)=l.map Int.ofNat)(hi:i<es.size):∃e,(ord w a ep es)[i]? = some e/\nextOf w a ep es t (slotAt w l i) i=some (e.2,slotAt w l (i+1)):=by
 have hz:=gy h1;have ho:i<(ord w a ep es).size:=by rw[oP]; exact hi
 refine⟨(ord w a ep es)[i],by simp[ho],?_⟩;unfold nextOf slotAt;by_cases hb:w.params.followText "set-order" = true
 ·simp only[hb,if_true];rw[Array.getElem?_eq_getElem ho];rfl
 ·have q:=dF uX l ht.mem;simp only[b3,List.all_eq_true,beq_iff_eq,List.mem_range] at q;have q1:=q i (by omega);have hbel:SetTable.below t.place (if i=0 then 0 else l.getD (i - 1) 0+1)=i:=by rw[ht.place]; exact q1
  have hil:i<l.length:=by omega
  have hb':w.params.followText "set-order" = false:=by simpa using hb
  simp only[hb',Bool.false_eq_true,if_false,hbel];have e1:es[i]? = some es[i]:=by simp[hi]
  have e2:t.place[i]? = some (l[i]'hil):=by rw[ht.place]; simp[hil]
  have e3:(ord w a ep es)=es:=by unfold ord; rw[if_neg hb]
  rw[e1,e2];simp only[e3,Nat.add_eq_zero_iff,Nat.succ_ne_self,and_false,if_false,Nat.add_sub_cancel];simp[hil]
theorem Ay (ht:TG b l D t)(h1:es.toList.map (·.1)=l.map Int.ofNat):nextOf w a ep es t (slotAt w l es.size) es.size=none:=by
 have hz:=gy h1;unfold nextOf slotAt;by_cases hb:w.params.followText "set-order" = true
 ·simp only[hb,if_true];rw[Array.getElem?_eq_none (by rw[oP]; exact aX _)];rfl
 ·have q:=dF uX l ht.mem;simp only[b3,List.all_eq_true,beq_iff_eq,List.mem_range] at q;have q1:=q es.size (by omega);have hbel:SetTable.below t.place (if es.size=0 then 0 else l.getD (es.size - 1) 0+1)=es.size:=by rw[ht.place]; exact q1
  have hb':w.params.followText "set-order" = false:=by simpa using hb
  simp only[hb',Bool.false_eq_true,if_false,hbel];have e1:es[es.size]? = none:=by simp
  rw[e1]
theorem xD (hI:s.heap.get? I=some (kR slot i a es.size ep))(ho:s.heap.get? a=some { cls:=.type "set",dict:=none,data:=.set es ep t })(hf:t.fits es.size=true)(hp:t.plain=true)(hl:t.led = !w.params.followText "set-order")(hn:nextOf w a ep es t slot i=some (x,nx))
  (hQ:∀h',h'.get? I=some (kR nx (i+1) a es.size ep)->Heap.SameBut I s.heap h'->Q (some x) { s with heap:=h' }):wpAny (model prog w) A (pyNext (.ref I)) Q E s:=by
 have hT:s.TypeIs (.ref I) "set_iterator":=⟨_,hI,rfl⟩
 unfold pyNext;refine af (wpAny_attempt (wpAny_callSpecial?_slot (name:=Str.ofString "__next__") hT kf (wpAny_call_entry kf hT tm ?_ (vA _))));unfold Builtin.«set_iterator.__next__» slotArgs;simp only[List.isEmpty_nil,Bool.not_true,Bool.false_eq_true,↓reduceIte,List.length_nil,bne_self_eq_false];refine af (ay ?_);refine af (wpAny_fieldsOf hI rfl ?_);dsimp only;refine af (wpAny_setEntries_of ho rfl hf ?_);refine wpAny_ite_split (fun hab=>absurd hab (by simp)) (fun _=>?_);simp only[Int.toNat_natCast];refine af (sv ho hf hp hl ?_);rw[hn];dsimp only;refine af (wpAny_setField_rec hI (by simp) fun h1 g1 s1=>?_);refine af (wpAny_setField_rec (s:={ s with heap:=h1 }) g1 (by simp) fun h2 g2 s2=>?_);exact ay ⟨_,rfl,ay (hQ h2 g2 (s1.trans s2))⟩
theorem AT (hh:A.handled=none)(hI:s.heap.get? I=some (kR slot i a es.size ep))(ho:s.heap.get? a=some { cls:=.type "set",dict:=none,data:=.set es ep t })(hf:t.fits es.size=true)(hp:t.plain=true)(hl:t.led = !w.params.followText "set-order")(hn:nextOf w a ep es t slot i=none)
  (hQ:∀h',Heap.ExtBut I s.heap h'->Q none { s with heap:=h' }):wpAny (model prog w) A (pyNext (.ref I)) Q E s:=by
 have hT:s.TypeIs (.ref I) "set_iterator":=⟨_,hI,rfl⟩
 unfold pyNext;refine af (wpAny_attempt (wpAny_callSpecial?_slot (name:=Str.ofString "__next__") hT kf (wpAny_call_entry kf hT tm ?_ (vA _))));unfold Builtin.«set_iterator.__next__» slotArgs;simp only[List.isEmpty_nil,Bool.not_true,Bool.false_eq_true,↓reduceIte,List.length_nil,bne_self_eq_false];refine af (ay ?_);refine af (wpAny_fieldsOf hI rfl ?_);dsimp only;refine af (wpAny_setEntries_of ho rfl hf ?_);refine wpAny_ite_split (fun hab=>absurd hab (by simp)) (fun _=>?_);simp only[Int.toNat_natCast];refine af (sv ho hf hp hl ?_);rw[hn];dsimp only;refine af (wpAny_setField hI rfl (by simp) ?_);show wpAny _ _ (newExc (.type "StopIteration") [] >>= _) _ _ _;refine af ?_;simp only[newExc,newTuple];refine af (wpAny_newObj_type ?_ (by size_fits));refine af (m:=firstArgMember _ _) (wpAny_of_eq (a:=Value.none) (by first | rfl | (simp only[firstArgMember]; rfl)) ?_);refine wpAny_newObj_type ?_ (by size_fits);simp only[raiseNew];refine af (wpAny_handled ?_);rw[show A.in1.handled=none from hh];refine af (ay (wpAny_throw ?_));refine af (wpAny_isInstance (T := "StopIteration") (b:=true) ⟨_,cR _ rfl,rfl⟩ isSubtype_stop ?_);exact ay (hQ _ (((Heap.SameBut.update ..).extBut.push _).push _))
end
theorem y6:entryFor table "set_iterator.__iter__" = some Builtin.«dict_keyiterator.__iter__»:=
 entryFor_alias (id' := "dict_keyiterator.__iter__") (by kernel_rfl) rfl (by decide +kernel) (by kernel_rfl)
theorem Dv (a:Value):argsOk "set_iterator.__iter__" ⟨[a],[]⟩:=by
 unfold argsOk; rw[signature?_of (id := "set_iterator.__iter__") (n:=['_','_','r','e','t','i','_','_']) (o:=['r','o','t','a','r','e','t','i','_','t','e','s']) (by kernel_rfl) tU]; kernel_rfl
noncomputable abbrev mB (es:Array (Int×Value))(ep:Nat)(t:SetTable):Obj:={ cls:=.type "set",dict:=none,data:=.set es ep t }
section
variable {prog:Program}{w:World}{A:Around}{E:Value->Shared->Prop}{s:Shared}{a I:Addr}{es:Array (Int×Value)}{ep:Nat}{t:SetTable}{l D:List Nat}
theorem wy (w:World)(l:List Nat):slotAt w l 0=0:=by unfold slotAt; split <;> rfl
theorem xB (hh:A.handled=none)(hne:a≠I)(ht:TG (!w.params.followText "set-order") l D t)(h1:es.toList.map (·.1)=l.map Int.ofNat) :
  Walks prog w A I [I,a] [I] es.size (fun i v=>∃e,(ord w a ep es)[i]? = some e/\v=e.2) (fun i h=>h.get? I=some (kR (slotAt w l i) i a es.size ep)/\h.get? a=some (mB es ep t)) where
 sub:=fun b hb=>by simp at hb; simp[hb]
 frame:=fun _ _ _ st hk=>⟨hk I (by simp) _ st.1,hk a (by simp) _ st.2⟩
 item:=fun i s Q E hi st hQ=>by
  obtain⟨e,e1,e2⟩:=DX (w:=w) (a:=a) (ep:=ep) ht h1 hi;refine xD st.1 st.2 (ht.fits (gy h1)) ht.plain ht.led e2 fun h' g sb=>?_;exact hQ _ h' s.toks ⟨e,e1,rfl⟩ ⟨g,sb.extBut _ _ hne st.2⟩ fun b o hb q=>sb.extBut b o (fun z=>hb (by simp[z])) q
 done:=fun s Q E st hQ=>AT hh st.1 st.2 (ht.fits (gy h1)) ht.plain ht.led (Ay ht h1) fun h' he=>hQ h' s.toks fun b o hb q=>he b o (fun z=>hb (by simp[z])) q
 self:=fun i s Q E st hQ=>by
  have hT:s.TypeIs (.ref I) "set_iterator":=⟨_,st.1,rfl⟩
  refine wpAny_pyIter_slot hT rE (wpAny_call_entry rE hT y6 ?_ (Dv _));show wpAny _ _ (ret (.ref I)) _ _ s;exact ay ⟨_,rfl, "set_iterator",_,hT,kf.lookup,hQ⟩
theorem ze (ht:TG (!w.params.followText "set-order") l D t)(h1:es.toList.map (·.1)=l.map Int.ofNat):KdlSrc prog w "set" a a es.size (fun i v=>∃e,(ord w a ep es)[i]? = some e/\v=e.2) (fun h=>h.get? a=some (mB es ep t)) where
 type:=fun _ hm=>⟨_,hm,rfl⟩
 there:=fun _ hm=>⟨bn hm,bn hm⟩
 keep:=fun _ _ hm hk=>hk a (.inl rfl) _ hm
 notList:=by decide
 notTuple:=by decide
 hint:=fun _ _ _ _ hm hq=>y2 ⟨_,hm,rfl⟩ hq
 iter:=fun A s hh hm=>⟨kR 0 0 a es.size ep,_,(fun _ _ hq=>Am hm (ht.fits (gy h1)) ht.plain hq),xB hh (cH (bn hm)) ht h1,⟨by rw[wy]; exact cR _ rfl,bz _ hm⟩⟩
theorem wv (K:KdlSrc prog w T r d n P OK)(hh:A.handled=none)(hok:OK s.heap)(hn:n<=sizeLine)
  (hQ:∀h' tk acc,(∀b o,s.heap.get? b=some o->h'.get? b=some o)->ItemsOf P acc n->Q acc.toList { s with heap:=h',toks:=tk }):wpAny (model prog w) A (collect (.ref r)) Q E s:=by
 unfold collect;refine af (wpAny_runValue (codeAny_builtin F.entry_proto_collect ?_));rw[Around.under_plainId F.plain_proto_collect _];show wpAny _ A.in1 (newList [] >>= fun l=>again (.builtin "list.__iadd__" ⟨[l,.ref r],[]⟩)) _ _ s;refine af (wpAny_newObj_type ?_);refine ay ⟨plainId_quiet F.plain_list_iadd _,codeAny_builtin F.entry_list_iadd ?_⟩;rw[Around.under_plainId F.plain_list_iadd _];show wpAny _ A.in1 (Builtin.List.listExtendWith (.ref s.heap.objs.size) (.ref r) (.ref s.heap.objs.size)) _ _ _;have hlt:=K.there _ hok;refine kdl_extend (R:=fun r s'=>match r with
   | .ok (.ret v)=>wpAny (model prog w) A (match v with
    | .ref a=>do
     match (<-load a).data with
     | .seq xs _=>pure xs.toList
     | _=>unsupported "internal:collect"
    | _=>unsupported "internal:collect") Q E s'
   | .ok _=>False
   | .error e=>E e s') (s:={ s with heap:=s.heap.push { cls:=.type "list",data:=.seq ([]:List Value).toArray } }) K hh (K.keep _ _ hok fun b _ o e=>bz _ e) s.heap.objs.size (Nat.ne_of_gt hlt.1) (Nat.ne_of_gt hlt.2) (.ref s.heap.objs.size) 0 (cR _ rfl) (fun h' tk acc' c' hk hS' hacc=>?_) hn
 show wpAny _ A (load s.heap.objs.size >>= _) _ _ _;refine af (wpAny_load hS' ?_);exact ay (hQ h' tk acc' (fun b o e=>hk b o (cH (bn e)) (bz _ e)) hacc)
theorem sorted_set (hh:A.handled=none)(hS:SG (!w.params.followText "set-order") s.heap a l D)
  (h:∀h' tk L (vs:List Value) n,(∀b o,s.heap.get? b=some o->h'.get? b=some o)->a<L->h'.get? L=some { cls:=.type "list",data:=.seq vs.toArray n }->IntsAre vs (l.map Int.ofNat)->Q (.ref L) { s with heap:=h',toks:=tk }) :
  wpAny (model prog w) A (call (.builtin "sorted") [.ref a]) Q E s:=by
 obtain⟨es,ep,t,ho,h1,h2,ht⟩:=hS;have hz:=gy h1;have h6:=(mem_b4 ht.mem).1;refine Calls.call_function_entry kind_sorted plain_sorted entry_sorted (args_sorted1 _) ?_;unfold Builtin.«sorted»;refine af (m:=checkCount "sorted" 1 1 _) (ay ?_);refine af (wv (ze (prog:=prog) (a:=a) (ep:=ep) ht h1) hh ho (small_line (by omega)) fun h' tk acc hk hacc=>?_);refine af (wpAny_newList ?_ (hsz:=by rw[Array.length_toList,hacc.1]; exact small_line (by omega)));have hvs:acc.toList=(ord w a ep es).toList.map (·.2):=by
  apply List.ext_getElem?;intro j;rw[List.getElem?_map,Array.getElem?_toList,Array.getElem?_toList];by_cases hj:j<acc.size
  ·obtain⟨e,e1,e2⟩:=hacc.2 j acc[j] (by simp[hj]);rw[e1,Array.getElem?_eq_getElem hj,e2];rfl
  ·have hsz:(ord w a ep es).size<=j:=by rw[oP,<-hacc.1]; omega
   rw[Array.getElem?_eq_none (by omega),Array.getElem?_eq_none hsz];rfl
 have hints:IntsAre acc.toList ((ord w a ep es).toList.map (·.1)):=by
  rw[hvs];have:∀(m:List (Int×Value)),(∀e∈m,∃tk,e.2=.int e.1 tk)->IntsAre (m.map (·.2)) (m.map (·.1)):=by
   intro m;induction m with
   | nil=>intro _; exact IntsAre.nil
   | cons e m ih=>
    intro hm;obtain⟨tk,et⟩:=hm e bD;rw[List.map_cons,List.map_cons,et];exact IntsAre.cons _ _ (ih fun x hx=>hm x (bw _ hx))
  exact this _ fun e he=>h2 e ((qK w a ep es).mem_iff.mp he)
 have hoL:(h'.push (seqObj "list" acc.toList.toArray 0)).get? h'.objs.size=some (seqObj "list" acc.toList.toArray 0):=cR _ rfl;have hlen:acc.toList.length<64:=by rw[Array.length_toList,hacc.1]; omega
 refine af (wpAny_holding (wpAny_call_entry slot_list_sort ⟨_,hoL,rfl⟩ entry_list_sort (list_sort_tree hoL hints hlen fun out ns' a1 a2 a3=>⟨_,rfl,?_⟩) (args_list_sort _)));have hns:ns'=l.map Int.ofNat:=by
  have p:ns'.Perm (l.map Int.ofNat):=by
   rw[<-h1];exact a2.trans ((qK w a ep es).map _)
  refine ksm_same p a3 ?_;rw[List.pairwise_map];exact (mem_b4 ht.mem).2.2.imp fun h=>Int.ofNat_le.mpr (Nat.le_of_lt h)
 subst hns;obtain⟨e,ge⟩:=sortedHeap_at (out:=out) hoL;refine ay ⟨_,rfl,h _ _ h'.objs.size out.toList e (fun b o q=>?_) ?_ ?_ a1⟩
 ·have hb:b<h'.objs.size:=bn (hk b o q);rw[sortedHeap_old (Nat.ne_of_lt hb) (by rw[Heap.size_push]; exact Nat.lt_succ_of_lt hb)];exact bz _ (hk b o q)
 ·exact bn (hk a _ ho)
 ·simpa using ge
end
noncomputable def stp (l:List Nat)(k:Nat):List Nat:=if k∈l then l else ins l k
noncomputable def acc (val:Nat->Nat)(i:Nat):List Nat:=((List.range i).map val).foldl stp []
theorem y9 (val:Nat->Nat)(i:Nat):acc val (i+1)=stp (acc val i) (val i):=by
 unfold acc;rw[List.range_succ,List.map_append,List.foldl_append];rfl
section
variable {prog:Program}{w:World}{A:Around}{R:Result->Shared->Prop}{I:Addr}{fp wr:List Addr}{G:Array GenState->Array GenState->Prop}{n:Nat}{P:Nat->Value->Prop}{St:Nat->Shared->Prop}
theorem SG.at (x:SG b h a l D)(e:∀o,h.get? a=some o->h'.get? a=some o):SG b h' a l D:=by
 obtain⟨es,ep,t,ho,r⟩:=x;exact⟨es,ep,t,e _ ho,r⟩
theorem D4 (b:Bool)(W:WalksS prog w A.in1 I fp wr G n P St)(S:Addr)(hSf:S∉fp)(val:Nat->Nat)(hval:∀i v,P i v->val i<6/\∃t,v=.int (Int.ofNat (val i)) t) :
  ∀(k i:Nat) (s:Shared),n - i=k->i<=n->St i s->SG b s.heap S (acc val i) [] ->
   (∀s',Moved (S::wr) G s s'->SG b s'.heap S (acc val n) []->R (.ok (.ret .none)) s') ->
   codeAny (model prog w) A (.builtin "set.update.loop" ⟨[.ref S,.ref I],[]⟩) R s:=by
 have hSw:S∉wr:=fun h=>hSf (W.sub _ h);have hsub:∀b∈wr,b∈S::wr:=fun b hb=>bw _ hb;intro k;induction k with
 | zero=>
  intro i s hk hi hst hS hR;have hin:i=n:=by omega
  subst hin;refine codeAny_builtin F.entry_set_update_loop ?_;rw[Around.under_plainId F.plain_set_update_loop _];show wpAny _ A.in1 (pyNext (.ref I) >>= _) _ _ s;refine af (W.done s _ _ hst fun s' hm=>?_);show wpAny _ A.in1 (ret Value.none) _ _ s';exact ay (hR s' (hm.mono hsub) (hS.at fun o e=>hm.heap S _ hSw e))
 | succ k ih=>
  intro i s hk hi hst hS hR;have hlt:i<n:=by omega
  refine codeAny_builtin F.entry_set_update_loop ?_;rw[Around.under_plainId F.plain_set_update_loop _];show wpAny _ A.in1 (pyNext (.ref I) >>= _) _ _ s;refine af (W.item i s _ _ hlt hst fun v s' hP hst' hm=>?_);obtain⟨hv6,t,rfl⟩:=hval i v hP;have hS':SG b s'.heap S (acc val i) []:=hS.at fun o e=>hm.heap S _ hSw e;show wpAny _ A.in1 (holding [Value.int (Int.ofNat (val i)) t] (setAdd S (.int (Int.ofNat (val i)) t)) >>= _) _ _ s';refine af (wpAny_holding ?_);unfold setAdd;refine wpAny_holding ?_;refine af ((intKind prog w).pyHash (k:=Int.ofNat (val i)) (intKind_is _ _ _ _) ?_);refine ww (s:={ s' with toks:=s'.toks+1 }) hS' hv6 (fun z=>by cases z) fun h' r hsb hS2=>?_;have hSi:SG b h' S (acc val (i+1)) []:=by rw[y9]; exact hS2
  refine ay ⟨plainId_quiet F.plain_set_update_loop _,ih (i+1) _ (by omega) hlt (W.frame _ s' _ _ hst' (Nat.le_succ _) fun b hb o e=>?_) hSi fun s'' hm'' hS''=>?_⟩
  ·rw[hsb.2 b (fun h:b=S=>hSf (by rw[<-h]; exact hb))]; exact e
  ·refine hR s'' (Moved.trans W.gtrans ((hm.mono hsub).then_heap (Nat.le_succ _) fun b o hb e=>?_) hm'') hS'';rw[hsb.2 b (fun h:b=S=>hb (by rw[h]; exact bD))]; exact e
end
section
variable {prog:Program}{w:World}{A:Around}{E:Value->Shared->Prop}{s:Shared}
theorem EM (a:Value)
  (h:Q₁ (.ref s.heap.objs.size) { s with heap:=s.heap.push { cls:=.type "set",dict:=none,data:=.set #[] 0 (.fresh 0 0 (!w.params.followText "set-order")) } }) :
  codeAny (model prog w) A (.call (.builtin "set.__new__") ⟨[.type "set",a],[]⟩) (wants Q₁ E) s:=by
 refine codeAny_of_tree ?_;show wpAny _ A.in1 (do checkBuiltinCall "set.__new__" ⟨[.type "set",a],[]⟩; again (.builtin "set.__new__" ⟨[.type "set",a],[]⟩)) _ _ s;refine af (wpAny_of_eq (F.newCall_set_1 a) (ay ⟨plainId_quiet F.plain_set_new _,codeAny_builtin F.entry_set_new ?_⟩));rw[Around.under_plainId F.plain_set_new _];unfold Builtin.«set.__new__» Builtin.Frozenset.newClass;have hsub:=sub_set_self;obtain⟨hp,g,d,tk,os⟩:=s;dsimp only;wp_walk
 refine wpAny_askSetting (ay ?_);dsimp only;simp only[newObj];refine af (wpAny_alloc (ay ?_));exact ay h
theorem zF (b:Bool)(e:h.get? a=some { cls:=.type "set",dict:=none,data:=.set #[] 0 (.fresh 0 0 b) }):SG b h a [] []:=
 ⟨#[],0,_,e,rfl,fun e he=>by simp at he,⟨by decide +kernel,rfl,⟨[],by decide +kernel,rfl,fun x hx=>by cases hx⟩,.inl ⟨rfl,by simp[SetTable.fill,SetTable.fresh]⟩,rfl,rfl⟩⟩
set_option maxHeartbeats 3200000 in
theorem set_list {l:Addr}{items:Array Value}{ns:List Nat}{Q:Value->Shared->Prop}
  (hh:A.handled=none)(hl:s.heap.IsList l items)(hi:IntsAre items.toList (ns.map Int.ofNat))(h6:∀x∈ns,x<6)
  (h:∀(h':Heap) (tk:Nat),SG (!w.params.followText "set-order") h' s.heap.objs.size (ns.foldl stp []) [] ->
   (∀b o,b<s.heap.objs.size->s.heap.get? b=some o->h'.get? b=some o)->Q (.ref s.heap.objs.size) { s with heap:=h',toks:=tk }) :
  wpAny (model prog w) A (call (.type "set") [.ref l]) Q E s:=by
 have hlen:items.size=ns.length:=by have:=IntsAre.length hi; simpa using this
 have hacc:acc (fun i=>ns.getD i 0) items.size=ns.foldl stp []:=by
  unfold acc;have:(List.range items.size).map (fun i=>ns.getD i 0)=ns:=by
   rw[hlen];apply List.ext_getElem?;intro j;by_cases hj:j<ns.length
   ·simp[hj]
   ·simp[Nat.le_of_not_lt hj]
  rw[this]
 obtain⟨c,tl,hmro⟩:=F.called_set.mro;have hmade:=F.called_set.made;have hsub:=F.called_set.sub;refine wpAny_call (codeAny_of_tree ?_);show wpAny _ _ (callAny (.type "set") _) _ _ _;refine ay ⟨Code.quiet_builtin _ (by decide +kernel),codeAny_builtin F.entry_type_call ?_⟩;rw[Around.under_plain (weight_type_call_type "set" [.ref l] []) rfl];have h1:=F.called_set.notType;have h2:=F.called_set.canCreate;have hct:=F.typeCall_set_1 (.ref l);repeat (any_goals (first | assumption | wp_step))
 refine codeAny_mono (EM (.ref l) (E:=E) (Q₁:=fun obj s₁=>obj=.ref s.heap.objs.size/\s₁={ s with heap:=s.heap.push { cls:=.type "set",dict:=none,data:=.set #[] 0 (.fresh 0 0 (!w.params.followText "set-order")) } }) ⟨rfl,rfl⟩) fun r s₁ hr=>?_;cases r with
 | error e=>exact hr
 | ok fl=>
  cases fl with
  | ret obj=>
   obtain⟨rfl,rfl⟩:=hr;generalize hled:(!w.params.followText "set-order")=led at *;have hS:(s.heap.push { cls:=.type "set",dict:=none,data:=.set #[] 0 (.fresh 0 0 led) }).get? s.heap.objs.size=some { cls:=.type "set",dict:=none,data:=.set #[] 0 (.fresh 0 0 led) }:=cR _ rfl;have hT:Shared.TypeIs { s with heap:=s.heap.push { cls:=.type "set",dict:=none,data:=.set #[] 0 (.fresh 0 0 led) } } (.ref s.heap.objs.size) "set":=⟨_,hS,rfl⟩
   have hli:=F.called_set.init.lookup;have hbi:=F.called_set.init.bind (.ref s.heap.objs.size);repeat (any_goals (first | assumption | wp_step))
   refine codeAny_mono (codeAny_call_builtin (R:=wants (fun r s₂=>r=.none/\∃h' tk,s₂={ s with heap:=h',toks:=tk }/\SG led h' s.heap.objs.size (ns.foldl stp []) [] /\
     (∀b o,b<s.heap.objs.size->s.heap.get? b=some o->h'.get? b=some o)) E) F.called_set.init.plain F.entry_set_init (check_set_init_1 hT ?_)) fun r₂ s₂ hr₂=>?_
   ·obtain⟨ol,hol,hcl,nl,hdl⟩:=hl;obtain⟨ocls,odict,odata,oslots⟩:=ol;simp only at hcl hdl;subst hcl; subst hdl;have hol':(s.heap.push { cls:=.type "set",dict:=none,data:=.set #[] 0 (.fresh 0 0 led) }).get? l=some { cls:=.type "list",dict:=odict,data:=.seq items nl,slots:=oslots }:=bz _ hol;have hsls:=F.sub_list_set;have hslf:=F.sub_list_frozenset;have hne:(Value.type "list" == Value.type "dict")=false:=by decide
    have hl1:(s.heap.push { cls:=.type "set",dict:=none,data:=.set #[] 0 (.fresh 0 0 led) }).IsList l items:=⟨_,hol',rfl,nl,rfl⟩
    unfold Builtin.«set.__init__» noKeywords Builtin.Frozenset.updateFrom;generalize hPI:pyIter=PI;wp_walk
    subst hPI;refine wpAny_pyIter_list hl1 ?_;refine af (wpAny_runValue ?_);have hlS:l<s.heap.objs.size:=bn hol;have hh3:A.in1.in1.in1.handled=none:=by simp[hh]
    have hneI:l≠(s.heap.push { cls:=.type "set",dict:=none,data:=.set #[] 0 (.fresh 0 0 led) }).objs.size:=by
     rw[Heap.size_push]; exact cH (Nat.lt_succ_of_lt hlS)
    have hSf:s.heap.objs.size∉[(s.heap.push { cls:=.type "set",dict:=none,data:=.set #[] 0 (.fresh 0 0 led) }).objs.size,l]:=by
     rw[Heap.size_push]; simp only[List.mem_cons,List.not_mem_nil,or_false,not_or];exact⟨cH (Nat.lt_succ_self _),Nat.ne_of_gt hlS⟩
    have hval:∀(i:Nat) (v:Value),items[i]? = some v->(fun i=>ns.getD i 0) i<6/\∃t,v=.int (Int.ofNat ((fun i=>ns.getD i 0) i)) t:=fun i v hv=>by
     have hil:i<ns.length:=by
      have:=(Array.getElem?_eq_some_iff.mp hv).1;omega
     obtain⟨t,et⟩:=IntsAre.int_at hi i v (by rw[Array.getElem?_toList]; exact hv);refine⟨?_,t,?_⟩
     ·simp only[List.getD_eq_getElem?_getD,List.getElem?_eq_getElem hil,Option.getD_some];exact h6 _ (List.getElem_mem hil)
     ·rw[et];simp[hil]
    refine D4 led ((Walks.list hh3 _ l hneI items).toS) s.heap.objs.size
     hSf (fun i=>ns.getD i 0) hval (items.size - 0) 0 _ (by omega) (Nat.zero_le _)
     ⟨⟨_,cR _ rfl,rfl,rfl⟩,(hl1.push _)⟩ ?hS0 ?hR
    case hS0=>exact zF led (bz _ hS)
    case hR=>
     intro s' hm hS';rw[hacc] at hS';obtain⟨h',g',d',tk',os'⟩:=s';have eg:g'=s.gens:=hm.gens;have ed:d'=s.drawn:=hm.drawn;have eo:os'=s.os:=hm.os;subst eg; subst ed; subst eo;show wpAny _ _ _ _ _ _;refine ay ?_;show wpAny _ _ (ret Value.none) _ _ _;refine ay ⟨rfl,h',tk',rfl,hS',fun b o hb e=>?_⟩;have hb1:b≠s.heap.objs.size:=cH hb;have hb2:b≠(s.heap.push { cls:=.type "set",dict:=none,data:=.set #[] 0 (.fresh 0 0 led) }).objs.size:=by
      rw[Heap.size_push]; exact cH (Nat.lt_succ_of_lt hb)
     exact hm.heap b o (by simp only[List.mem_cons,List.not_mem_nil,or_false,not_or]; exact⟨hb1,hb2⟩) (bz _ (bz _ e))
   ·cases r₂ with
    | error e=>exact hr₂
    | ok fl₂=>
     cases fl₂ with
     | ret r=>
      obtain⟨rfl,h',tk,rfl,hS',hk'⟩:=hr₂;repeat (any_goals (first | assumption | wp_step))
      exact h _ _ hS' hk'
     | _=>exact hr₂.elim
  | _=>exact hr.elim
end
end St
end
section
namespace L2
open PySem PySem.Spec PyProof.Rows
section
variable {X:Cx}
noncomputable def dB (ns:List Nat):List V:=ns.map fun n=>.int (Int.ofNat n)
def Eb (K:aG)(te:TE):TE:=fun σ H Q=>te σ H fun x H1=>∃a ns,x=.ref a/\SqL K H1 a (dB ns)/\(∀n∈ns,n<6)/\∀p,H1 p=none->Q (.ref p) (upd H1 p (.lst (dB (ns.foldl St.stp []))))
theorem vf:∀{ns:List Nat} {its:List Value},Vals (dB ns) its->IntsAre its (ns.map Int.ofNat)
 | [],_,h=>by cases h; exact .nil
 | n::ns,_,h=>by
  cases h with
  | cons h1 h2=>
   obtain⟨t,rfl⟩:=(show ∃t,_=Value.int (Int.ofNat n) t from h1)
   exact .cons _ _ (vf h2)
theorem tK:∀{ns:List Nat} {its:List Value},IntsAre its (ns.map Int.ofNat)->Vals (dB ns) its
 | [],_,h=>by cases h; exact .nil
 | n::ns,_,h=>by
  cases h with
  | cons _ t h=>exact .cons ⟨t,rfl⟩ (tK h)
theorem Av (hc:X.calm=true)(he:PE X e te)(g1:Gl X "sorted")(m1:X.mg "sorted" = none)(b1:bootBuiltins "sorted" = some (.builtin "sorted"))(g2:Gl X "set")(m2:X.mg "set" = none)(b2:bootBuiltins "set" = some (.type "set"))
  (hs1:starEach [.Call (.Name "set" p2) [e] [] p3] X.env=[(false,eval (.Call (.Name "set" p2) [e] [] p3) X.env)])(hs2:starEach [e] X.env=[(false,eval e X.env)]) :
  PE X (.Call (.Name "sorted" p1) [.Call (.Name "set" p2) [e] [] p3] [] p4) (Eb X.K te):=by
 intro pins s σ H Q I h;have hh:=I.ok.hd hc;refine wpAny_Call_Name_kw (ie I g1 m1 b1 ?_);refine PyProof.Rows.callWith_builtin1 ?_ hs1 rfl;rw[hs1];show wpAny _ _ (spliced ((false,eval (.Call (.Name "set" p2) [e] [] p3) X.env)::[])) _ _ s;refine Calls.spliced_cons ?_;refine wpAny_Call_Name_kw (ie I g2 m2 b2 ?_);refine PyProof.Rows.callWith_type1 ?_ hs2 rfl;rw[hs2];show wpAny _ _ (spliced ((false,eval e X.env)::[])) _ _ s;refine Calls.spliced_cons (aB (he pins s σ H _ I h) fun u s1 hZz=>?_);obtain⟨x,H1,I1,r1,a,ns,ex,hx,h6,q⟩:=hZz;subst ex;cases r1;refine Calls.spliced_nil ?_;obtain⟨its,rv,pl,hz⟩:=I1.list hx;refine St.set_list hh pl.isList (by simpa using vf rv) h6 fun h' tk hS hk=>?_;refine Calls.spliced_nil ?_;refine St.sorted_set hh hS fun h'' tk' L vs n hk' hlt hget hints=>?_;refine⟨.ref L,upd H1 L (.lst (dB (ns.foldl St.stp []))),I1.laid (t':=tk') (fun b o qb=>hk' b o (hk b o (bn qb) qb)) (Nat.le_of_lt hlt) ⟨?_,vs,n,tK hints,hget⟩,rfl,q L (I1.hok.fresh (Nat.le_of_lt hlt))⟩;have:=hS;obtain⟨es,ep,t,_,h1,_,ht⟩:=this;rw[dB,List.length_map];exact St.small_line (St.mem_b4 ht.mem).1
end
section
variable {X:Cx}
theorem CK:OpR X (binaryOp .Add) (fun x y H Q=>∃a b ys,x=.ref a/\y=.ref b/\SqT X.K H a []/\SqT X.K H b ys/\Q (.ref b) H):=by
 intro pins s σ H x y v u Q I rx ry h;obtain⟨a,b,ys,rfl,rfl,ha,hb,q⟩:=h;cases rx;cases ry;obtain⟨its,r1,⟨⟨cls,dd,data,sl⟩,ho,hc,n,hd⟩,_⟩:=I.tuple ha;obtain⟨its2,r2,⟨⟨cls2,dd2,data2,sl2⟩,ho2,hc2,n2,hd2⟩,_⟩:=I.tuple hb;simp only at hc hd hc2 hd2;subst hc hd hc2 hd2;cases r1;exact concat_meets ⟨_,ho,rfl⟩ ⟨_,ho2,rfl⟩ noFill_tuple_add seq_tuple_add PySem.F.slot_tuple_add PySem.F.entry_tuple_add (PySem.F.args_tuple_add_2 _ _)
  (tuple_addW0 a b #[] its2.toArray n n2 dd dd2 sl sl2 rfl) ⟨ho,ho2,⟨.ref b,H,I,rfl,q⟩⟩
theorem zK (l:Addr)(items:Array Value)(n:Nat)(b:Addr)(items2:Array Value)(n2:Nat)(dd2:Option Addr)(sl2:Array (Option Value))(hs0:¬(!items.isEmpty&&Builtin.List.listTooLong (items.size+items2.size))=true)(hs1:items.size<=sizeLine)(hs2:items.size+items2.size<=sizeLine+1) :
  Meets (Builtin.«list.extend» ⟨[.ref l,.ref b],[]⟩) (fun _ R s=>s.heap.get? l=some { cls:=.type "list",dict:=none,data:=.seq items n,slots:=#[] }/\s.heap.get? b=some { cls:=.type "tuple",dict:=dd2,data:=.seq items2 n2,slots:=sl2 }/\R (.ok (.ret Value.none)) { s with heap:=s.heap.update l (Obj.mapSeq fun x=>x++items2),toks:=s.toks }):=
 .of_wp fun prog w A R s h=>by
  obtain⟨hp,g,d,tk,os⟩:=s; obtain⟨hl,hb,h⟩:=h; have f1:=AutoSeq1.idx_int; have f2:=AutoSeq1.sub_tuple_tuple; have f3:=AutoSeq1.sub_list_list; have f4:=AutoSeq1.sub_tuple_list; have f5:=AutoSeq1.sub_list_tuple;have hz':(items++items2).size<=sizeLine+1:=by rw[Array.size_append]; exact hs2
  wp_walk using (wpAny_updateSeq hl rfl (hz:=hs1) (_hz':=hz')),wpAny_loadPart' hl,wpAny_loadPart' hb; exact⟨_,rfl,h⟩
def iF (K:aG):V->List V->Hp->VK->Prop:=fun x vs H Q=>∃l b xs zs,x=.ref l/\vs=[.ref b]/\H l=some (.lst xs)/\SqT K H b zs/\xs.length+zs.length<=sizeLine/\Q .non (upd H l (.lst (xs++zs)))
theorem yE:t5 X "list.extend" (iF X.K):=by
 intro pins s σ H x vs v us Q I rx rv h;obtain⟨l,b,xs,zs,rfl,rfl,hH,hB,hz,q⟩:=h;cases rx;obtain⟨u,rfl,ru⟩:=rv.one;cases ru;obtain⟨z,its,n,r,hl,e⟩:=I.lstM hH;obtain⟨its2,r2,⟨⟨cls2,dd2,data2,sl2⟩,ho2,hc2,n2,hd2⟩,_⟩:=I.tuple hB;simp only at hc2 hd2;subst hc2 hd2;have hl2:=r2.length;have hsz:its.toArray.size+its2.toArray.size<=sizeLine:=by rw[List.size_toArray,List.size_toArray]; omega
 have hlong:¬(!its.toArray.isEmpty&&Builtin.List.listTooLong (its.toArray.size+its2.toArray.size))=true:=by
  rw[xV hsz,Bool.and_false];exact Bool.false_ne_true
 refine call_meets F.slot_list_extend ⟨_,e,rfl⟩ F.entry_list_extend (F.args_list_extend_2 _ _)
  (zK l its.toArray n b its2.toArray n2 dd2 sl2 hlong (by rw[List.size_toArray]; omega) (by omega)) ⟨e,ho2,?_⟩
 refine⟨.non,_,I.lset (its':=its++its2) hH e (by simp) (r.append r2) ?_,rfl,q⟩;rw[List.length_append];omega
theorem DL (ho:s.heap.get? l=some { cls:=.type "list",data:=.seq items n })
  (h0:0<=k)(hfit:k<2 ^ 63)(hn:k<items.size)(hQ:Q () { s with heap:=s.heap.update l (Obj.mapSeq (·.setIfInBounds k.toNat v)) }):wpAny (model prog w) A (setItem (.ref l) (.int k t) v) Q E s:=by
 have hl:s.heap.IsList l items:=PySem.IsL.isList ho;unfold setItem;try with_reducible refine wpAny_holding ?_
 first | refine af (ay ?_) | skip
 refine af (wpAny_sequenceKey hl.typeIs (by decide) ?_);refine af (wpAny_callSpecial?_slot (name:=Str.ofString "__setitem__") hl.typeIs slot_list_setitem
  (wpAny_call_entry slot_list_setitem hl.typeIs entry_list_setitem ?_ (args_list_setitem _ _ _)))
 show wpAny _ _ (Builtin.List.listSubscript? (.int k t) >>= _) _ _ s;refine af (wpAny_listSubscript_int (fitsIndex_of h0 hfit) ?_);clear hfit;obtain⟨j,rfl⟩:=Int.eq_ofNat_of_zero_le h0;have hj:j<items.size:=by omega
 have hx':items[j]? = some items[j]:=Array.getElem?_eq_getElem hj;show wpAny _ _ ((seqItemAt l j >>= fun r=>pure (r.map (j,·))) >>= _) _ _ s;refine af (af (wpAny_seqItemAt ho rfl (ay ?_)));rw[hx'];show wpAny _ _ (setSeqItemAt l j v >>= _) _ _ s;refine af (wpAny_setSeqItemAt ho rfl ?_);first
  | exact af (ay (ay ⟨.none,rfl,ay hQ⟩))
  | exact ay ⟨.none,rfl,ay hQ⟩
def i9 (to ti tv:TE):TS:=fun D σ H=>tv σ H fun y H1=>to σ H1 fun x H2=>ti σ H2 fun k H3=>∃l xs i,x=.ref l/\k=.int i/\H3 l=some (.lst xs)/\0<=i/\i<xs.length/\D.nx σ (upd H3 l (.lst (xs.set i.toNat y)))
theorem B1 (ho:PE X o to)(hi:PE X i ti)(hv:PE X value tv)(hs:swapsWith value (some (.Subscript o i pos')) pos.line X.env=pure false):PS X (.Assign [.Subscript o i pos'] value pos) (i9 to ti tv):=by
 intro pins s σ H D I h;refine wpAny_Assign_Subscript (aB (hv pins s σ H _ I h) fun u s1 ⟨y,H1,I1,ry,q⟩=>aB (ho pins s1 σ H1 _ I1 q) fun ov s2 ⟨x,H2,I2,rx,q2⟩=>aB (hi pins s2 σ H2 _ I2 q2) fun iv s3 hZz=>?_) hs;obtain⟨k,H3,I3,rk,l,xs,j,ex,ek,hH,j0,j1,qn⟩:=hZz;subst ex ek;cases rx;obtain⟨t,rfl⟩:=(show ∃t,iv=Value.int j t from rk)
 obtain⟨z,its,n,r,hl,e⟩:=I3.lstM hH;have hz:(xs.length:Int)<=16777216:=by
  have:=z;rw[sizeLine_eq] at this;omega
 refine DL e j0 (by omega) (by rw[List.size_toArray]; omega) ?_;exact⟨σ,_,I3.lset (its':=its.set j.toNat u) (t':=s3.toks) hH e (by simp) (Vals.set ry j.toNat r) (by rw[List.length_set]; exact z),qn⟩
end
section
variable {X:Cx}
theorem wJ {prog:Program}{w:World}{A:Around}{E:Value->Shared->Prop}{s:Shared}{t sl:Addr}{items:Array Value}{vl vu:Value}{lo hi:Option Int}{Q:Value->Shared->Prop}(ht:IsTup s.heap t items)(hs:s.heap.IsSliceOf sl vl vu .none)(pl:IsPart vl lo)(pu:IsPart vu hi)
  (hw:HT.sIx items.size 0 lo=0/\HT.sIx items.size items.size hi=items.size)(h:Q (.ref t) s):wpAny (model prog w) A (getItem (.ref t) (.ref sl)) Q E s:=by
 obtain⟨os,hos,hcs,hds⟩:=id hs;have hTs:s.TypeIs (.ref sl) "slice":=⟨os,hos,hcs⟩
 unfold getItem;try with_reducible refine wpAny_holding ?_
 first | refine af (ay ?_) | skip
 refine af (wpAny_sequenceKey ht.typeIs (by decide) ?_);refine af (wpAny_callSpecial?_slot (name:=Str.ofString "__getitem__") ht.typeIs PyProof.Rows.slot_tuple_getitem
  (wpAny_call_entry PyProof.Rows.slot_tuple_getitem ht.typeIs entry_tuple_getitem ?_ (args_tuple_getitem _ _)))
 show wpAny _ _ (Builtin.Tuple.tupleItemsOf (.ref t) >>= _) _ _ s;refine af (tupleItemsOf_ ht ?_);refine af (wpAny_typeOf hTs ?_);rw[if_pos (by decide)];refine af (HT.sliceApplied_gen hs pl pu ?_);have hyes:(((HT.sIx items.size 0 lo:Nat):Int) == 0&&(1:Int) == 1&&(HT.sIx items.size items.size hi - HT.sIx items.size 0 lo) == items.size)=true:=by
  rw[hw.1,hw.2]; simp
 show wpAny _ _ (if (((HT.sIx items.size 0 lo:Nat):Int) == 0&&(1:Int) == 1&&(HT.sIx items.size items.size hi - HT.sIx items.size 0 lo) == items.size)=true then _ else _) _ _ s;rw[if_pos hyes];unfold Builtin.Tuple.tupleIsExact;refine af (af (wpAny_typeOf ht.typeIs (ay ?_)));rw[if_pos (by decide)];refine af (wpAny_rule (af (ay (ay ⟨_,rfl,ay h⟩))))
def lJ (K:aG):V->Option Int->Option Int->Hp->VK->Prop:=fun x lo hi H Q=>∃a xs,x=.ref a/\SqT K H a xs /\
 (HT.sIx xs.length 0 lo=0/\HT.sIx xs.length xs.length hi=xs.length->Q (.ref a) H) /\
 (¬(HT.sIx xs.length 0 lo=0/\HT.sIx xs.length xs.length hi=xs.length)->∀p,H p=none->Q (.ref p) (upd H p (.tup (c9 xs lo hi))))
theorem Ee:lx X (lJ X.K):=by
 intro pins s σ H x v vl vu lo hi sl Q I rx hs pl pu h;obtain⟨a,xs,rfl,hx,q1,q2⟩:=h;by_cases hw:HT.sIx xs.length 0 lo=0/\HT.sIx xs.length xs.length hi=xs.length
 ·cases rx;obtain⟨its,r,ht,hz⟩:=I.tuple hx;have hlen:its.toArray.size=xs.length:=by rw[List.size_toArray]; exact r.length.symm
  refine⟨"tuple",_,PyProof.Rows.slot_tuple_getitem.lookup,ht.typeIs,?_⟩;exact wJ ht hs pl pu (by rw[hlen]; exact hw) ⟨.ref a,H,I,rfl,q1 hw⟩
 ·exact B2 pins s σ H _ v vl vu lo hi sl Q I rx hs pl pu ⟨a,xs,rfl,hx,hw,q2 hw⟩
theorem DW (f:Nat->β->Sem (ForInStep β))(I:Nat->β->Shared->Prop)(Q:β->Shared->Prop)
  (turn:∀i b s,i<n->I i b s->wpAny M A (f i b) (fun r s'=>match r with | .yield b'=>I (i+1) b' s' | .done b'=>Q b' s') E s)
  (fin:∀b s,I n b s->Q b s)(b:β)(h:I 0 b s):wpAny M A (forIn [0:n] b f) Q E s:=by
 rw[Std.Legacy.Range.forIn_eq_forIn_range'];refine wpAny_forIn_list f (fun rest b s=>∃i,rest=List.range' i (n - i)/\i<=n/\I i b s) Q ?_ ?_ _ b ⟨0,by simp[Std.Legacy.Range.size],Nat.zero_le _,h⟩
 ·rintro x rest b s ⟨i,e,hi,hI⟩;have hlt:i<n:=by
   have:=congrArg List.length e;simp at this;omega
  have e2:n - i=(n - (i+1))+1:=by omega
  rw[e2,List.range'_succ] at e;obtain⟨rfl,rfl⟩:=List.cons.inj e;refine wpAny_mono (turn x b s hlt hI) (fun r s' hr=>?_) fun _ _ h'=>h';cases r with
  | done b'=>exact hr
  | yield b'=>exact⟨x+1,rfl,hlt,hr⟩
 ·rintro b s ⟨i,e,hi,hI⟩;have:i=n:=by
   have:=congrArg List.length e;simp at this;omega
  subst this;exact fin b s hI
theorem wf (l:Addr)(items:Array Value)(n:Nat)(dd:Option Addr)(sl:Array (Option Value))(x:Value)(e:Value->Bool)(j:Nat)(hj:j<items.size)
  (hit:e items[j]=true)(hno:∀m (hm:m<items.size),m<j->e items[m]=false) :
  Meets (Builtin.«tuple.index» ⟨[.ref l,x],[]⟩)
   (fun A R s=>s.heap.get? l=some { cls:=.type "tuple",dict:=dd,data:=.seq items n,slots:=sl }/\(∀y,y∈items->SeqAt.EqAt A.in1 s y x (e y))/\R (.ok (.ret (.int j s.toks))) { s with toks:=s.toks+1 }):=
 .of_wp fun prog w A R s h=>by
  obtain⟨hp,g,d,tk,os⟩:=s; obtain⟨hl,he,h⟩:=h;wp_walk using AutoSeq1.wpAny_loadPart' hl,DW _ (fun i b s'=>b.1=none/\s'=⟨hp,g,d,tk,os⟩/\i<=j) _
  case turn=>
   rintro i b s' hi ⟨hb,rfl,hij⟩;have hi':i<items.size:=by omega
   have e1:items[i]? = some items[i]:=by simp[hi']
   rw[e1];refine af (he _ (Array.getElem_mem hi') prog w _ _ ?_);by_cases hx:i=j
   ·subst hx;rw[hit];wp_walk
    exact⟨_,rfl,h⟩
   ·rw[hno i hi' (by omega)];wp_walk
    exact⟨rfl,rfl,by omega⟩
  case fin=>
   rintro b s' ⟨hb,rfl,hij⟩;omega
  case h=>exact⟨rfl,rfl,Nat.zero_le _⟩
def f9 (K:aG):V->List V->Hp->VK->Prop:=fun x vs H Q=>∃a xs y j,x=.ref a/\vs=[y]/\SqT K H a xs/\flatV y=true/\xs.all flatV=true/\(xs.findIdx? fun z=>eqV z y)=some j/\Q (.int (j:Nat)) H
theorem wG:mT X "tuple.index" (f9 X.K):=by
 intro pins s σ H x vs v us Q I rx rv h;obtain⟨a,xs,y,j,rfl,rfl,hx,fy,fs,hf,q⟩:=h;cases rx;cases rv with
 | @cons _ u _ us ry rn=>
 cases rn;obtain⟨its,r,⟨⟨cls,dd,data,sl⟩,ho,hc,n,hd⟩,_⟩:=I.tuple hx;simp only at hc hd;subst hc hd;obtain⟨hj,hp,hq⟩:=List.findIdx?_eq_some_iff_getElem.mp hf;have len:=r.length;have at':∀i (h1:i<xs.length) (h2:i<its.toArray.size),dq y its.toArray[i]=eqV xs[i] y:=fun i h1 h2=>by
  obtain⟨w,e,rw'⟩:=r.get (i:=i) (x:=xs[i]) (by simp[h1]);have e2:its.toArray[i]=w:=by
   have h2':i<its.length:=by simpa using h2
   rw[List.getElem?_eq_getElem h2'] at e;simpa using bO e
  rw[e2];exact kZ rw' (dF fs _ (List.getElem_mem h1))
 have hj2:j<its.toArray.size:=by rw[List.size_toArray]; omega
 refine call_meets PySem.F.slot_tuple_index ⟨_,ho,rfl⟩ PySem.F.entry_tuple_index (PySem.F.args_tuple_index_2 _ _)
  (wf a its.toArray n dd sl u (dq y) j hj2 (by rw[at' j hj hj2]; exact hp) fun m hm hl=>?_)
  ⟨ho,fun z hz=>iN ry fy r fs z (by simpa using hz),⟨.int (j:Nat),H,I.tok _,⟨_,rfl⟩,q⟩⟩
 have hm':m<xs.length:=by omega
 rw[at' m hm' hm];simpa using hq m hl
theorem E2:fillsNumberSlot (.type "tuple") "mul" = pure false:=
 PySem.fillsNumberSlot_seq (id := "tuple.__mul__") (r:=some (.builtin "tuple.__rmul__")) PySem.F.slot_tuple_mul.lookup (by decide +kernel) PySem.F.slot_tuple_rmul.lookup (by decide +kernel)
theorem xy:seqRepeat? (.type "tuple")=pure (some (.builtin "tuple.__mul__")):=by
 unfold seqRepeat?;rw[PySem.seqSlot_of (T := "tuple") (name := "__mul__") (id := "tuple.__mul__") PySem.F.slot_tuple_mul.lookup (by decide +kernel),PySem.seqSlot_of (T := "tuple") (name := "__rmul__") (id := "tuple.__rmul__") PySem.F.slot_tuple_rmul.lookup (by decide +kernel)];rfl
theorem Ew (a:Int)(t:Tok)(l:Addr)(items:Array Value)(n:Nat)(dd:Option Addr)(sl:Array (Option Value)) :
  Meets (Builtin.«int.__rmul__» ⟨[.int a t,.ref l],[]⟩) (fun _ R s=>s.heap.get? l=some { cls:=.type "tuple",dict:=dd,data:=.seq items n,slots:=sl }/\R (.ok (.ret Value.notImplemented)) s):=
 .of_wp fun prog w A R s h=>by obtain⟨hp,g,d,tk,os⟩:=s; obtain⟨hl,h⟩:=h; wp_walk; exact⟨_,rfl,h⟩
theorem Dz (l:Addr)(items:Array Value)(n:Nat)(dd:Option Addr)(sl:Array (Option Value))(u:Tok) :
  Meets (Builtin.«tuple.__mul__» ⟨[.ref l,.int 1 u],[]⟩) (fun _ R s=>s.heap.get? l=some { cls:=.type "tuple",dict:=dd,data:=.seq items n,slots:=sl }/\R (.ok (.ret (.ref l))) s):=
 .of_wp fun prog w A R s h=>by
  obtain⟨hp,g,d,tk,os⟩:=s; obtain⟨hl,h⟩:=h;wp_walk using AutoSeq1.wpAny_loadPart' hl
  exact⟨_,rfl,h⟩
theorem zl (l:Addr)(items:Array Value)(n:Nat)(dd:Option Addr)(sl:Array (Option Value))(x:Int)(u:Tok)(h0:¬(x < -(2 ^ 63)||x ≥ 2 ^ 63)=true)(h1:¬(items.isEmpty||x == 1)=true)(h2:¬(x<=0||items.isEmpty)=true)
  (h3:¬items.size * x > (2 ^ 63 - 1) / 8)(h4:¬Builtin.Tuple.tupleTooMany (items.size * x)=true)(h5:(List.foldl (·++·) #[] (List.replicate x.toNat items)).size<=sizeLine) :
  Meets (Builtin.«tuple.__mul__» ⟨[.ref l,.int x u],[]⟩) (fun _ R s=>s.heap.get? l=some { cls:=.type "tuple",dict:=dd,data:=.seq items n,slots:=sl }/\R (.ok (.ret (.ref s.heap.objs.size))) { s with heap:=s.heap.push { cls:=.type "tuple",data:=.seq (List.foldl (·++·) #[] (List.replicate x.toNat items)) } }):=
 .of_wp fun prog w A R s h=>by
  obtain⟨hp,g,d,tk,os⟩:=s; obtain⟨hl,h⟩:=h;wp_walk using AutoSeq1.wpAny_loadPart' hl
  rw[if_neg h0];refine af (tupleItemsOf_ (t:=l) (items:=items) ⟨_,hl,rfl,n,rfl⟩ ?_);dsimp only;rw[if_neg h1,if_neg h2,if_neg h3,if_neg h4];wp_walk
  exact⟨_,rfl,h⟩
def lm (K:aG):R2:=fun x y H Q=>∃a k xs,x=.ref a/\y=.int k/\SqT K H a xs/\xs≠[]/\1<=k/\k<=1000/\xs.length * k.toNat<=sizeLine /\
 (k=1->Q (.ref a) H)/\(k≠1->∀p,H p=none->Q (.ref p) (upd H p (.tup (List.replicate k.toNat xs).flatten)))
theorem DB:OpR X (binaryOp .Mult) (lm X.K):=by
 intro pins s σ H x y v u Q I rx ry h;obtain⟨a,k,xs,rfl,rfl,hx,hne,k1,k2,hz,q1,q2⟩:=h;cases rx;obtain⟨t,rfl⟩:=ry;obtain⟨its,r,⟨⟨cls,dd,data,sl⟩,ho,hc,n,hd⟩,hz0⟩:=I.tuple hx;simp only at hc hd;subst hc hd;have hl:=r.length;have hne':its≠[]:=by
  intro e;subst e;exact hne (List.length_eq_zero_iff.mp hl)
 have em:its.toArray.isEmpty=false:=by cases its with | nil=>exact absurd rfl hne' | cons=>rfl
 refine wpAny_binaryOp_repeat_ref (T := "tuple") (U := "int") (by decide) ⟨_,ho,rfl⟩ (fun s'=>typeIs_int s' k t) E2 PySem.F.fills_int_mul PySem.F.slot_int_rmul xy PySem.F.slot_int_index.lookup
  (call_meets PySem.F.slot_int_rmul (typeIs_int s k t) PySem.F.entry_int_rmul (PySem.F.args_int_rmul_2 _ _) (Ew k t a its.toArray n dd sl) ⟨ho,rfl,⟨_,ho,rfl⟩,?_⟩)
 by_cases hk:k=1
 ·subst hk;exact call_meets PySem.F.slot_tuple_mul ⟨_,ho,rfl⟩ PySem.F.entry_tuple_mul (PySem.F.args_tuple_mul_2 _ _) (Dz a its.toArray n dd sl t) ⟨ho,⟨.ref a,H,I,rfl,q1 rfl⟩⟩
 ·have f0:List.foldl (fun x1 x2=>x1++x2) #[] (List.replicate k.toNat its.toArray)=(List.replicate k.toNat its).flatten.toArray:=by
   have:=vI its k.toNat [];rw[List.nil_append] at this;exact this
  have sz:(its.length:Int) * k<=sizeLine:=by
   have:((its.length * k.toNat:Nat):Int)<=(sizeLine:Nat):=by rw[<-hl]; exact_mod_cast hz
   rw[Int.natCast_mul,Int.toNat_of_nonneg (by omega)] at this;exact this
  refine call_meets PySem.F.slot_tuple_mul ⟨_,ho,rfl⟩ PySem.F.entry_tuple_mul (PySem.F.args_tuple_mul_2 _ _)
   (zl a its.toArray n dd sl k t (by simp; omega) (by rw[em]; simpa using hk) (by rw[em]; simp; omega) ?_ ?_ ?_) ⟨ho,?_⟩
  ·have:((sizeLine:Nat):Int)<=(2 ^ 63 - 1) / 8:=by decide
   rw[List.size_toArray];omega
  ·rw[List.size_toArray];unfold Builtin.Tuple.tupleTooMany;simp only[decide_eq_true_eq];omega
  ·rw[f0,List.size_toArray,vn,Nat.mul_comm,<-hl]; exact hz
  ·rw[f0];refine⟨.ref _,_,I.laid (t':=s.toks) (o:=.tup (List.replicate k.toNat xs).flatten) (fun b ob q=>bz _ q) (aX _) ?_,rfl,q2 hk _ (I.hok.fresh (aX _))⟩;exact⟨by rw[vn,Nat.mul_comm]; exact hz,_,r.rep k.toNat,TupN.new _ _⟩
end
section
variable {prog:Program}{w:World}{A:Around}{E:Value->Shared->Prop}{s:Shared}{it t:Addr}{i:Nat}{items:Array Value}
theorem vY (hit:s.heap.IsTupleIter it t i)
  (h:wpAny (model prog w) A.in1 (Builtin.«tuple_iterator.__next__» ⟨[.ref it],[]⟩) (fun fin s'=>∃v,fin=.done (.ret v)/\Q v s') E s):wpAny (model prog w) A (Builtin.SmallTypes.nextOf (.ref it)) Q E s:=by
 unfold Builtin.SmallTypes.nextOf;refine af (wpAny_callSpecial?_slot (name:=Str.ofString "__next__") hit.typeIs PySem.F.slot_tuple_iterator_next (wpAny_call_entry PySem.F.slot_tuple_iterator_next hit.typeIs PySem.F.entry_tuple_iterator_next ?_ (PySem.F.args_tuple_iterator_next_1 _)));refine wpAny_mono h (fun fin s' ⟨v,e,q⟩=>⟨v,e,ay q⟩) fun _ _ e=>e
theorem yz (hit:s.heap.IsTupleIter it t i)(ht:s.heap.IsTuple t items)(hx:items[i]? = some x)(hQ:∀h',h'.IsTupleIter it t (i+1)->Heap.SameBut it s.heap h'->Q x { s with heap:=h' }):wpAny (model prog w) A (Builtin.SmallTypes.nextOf (.ref it)) Q E s:=by
 refine vY hit ?_;obtain⟨o,ho,hc,hd⟩:=id hit;obtain⟨ol,hol,_,nl,hdl⟩:=ht;show wpAny _ _ (field (.ref it) 0 >>= _) _ _ s;refine af (wpAny_field ho hd (x:=.ref t) rfl ?_);show wpAny _ _ (if (Value.ref t == Value.none)=true then _ else _) _ _ s;rw[if_neg (show ¬((Value.ref t == Value.none)=true) from Bool.false_ne_true)];show wpAny _ _ (field (.ref it) 1 >>= _) _ _ s;refine af (wpAny_field ho hd (x:=.int i 0) rfl ?_);show wpAny _ _ (seqItems? (.ref t) >>= _) _ _ s;refine af (wpAny_seqItems hol hdl ?_);simp only[Int.toNat_natCast,hx];refine af (wpAny_setField ho hd (by simp) (ay ⟨x,rfl,hQ _ ?_ (Heap.SameBut.update ..)⟩));exact⟨_,Heap.get?_update_self _ ho (Obj.isFreed_of_fields (Obj.data_mapFields hd _)),(Obj.cls_mapFields ..).trans hc,by rw[Obj.data_mapFields hd]; simp[rawInt]⟩
theorem rT (hh:A.handled=none)(hit:s.heap.IsTupleIter it t i)(ht:s.heap.IsTuple t items)(hx:items[i]? = none)
  (hE:∀h' e,Heap.ExtBut it s.heap h'->(∃o,h'.get? e=some o/\o.cls=.type "StopIteration")->E (.ref e) { s with heap:=h' }):wpAny (model prog w) A (Builtin.SmallTypes.nextOf (.ref it)) Q E s:=by
 refine vY hit ?_;obtain⟨o,ho,hc,hd⟩:=id hit;obtain⟨ol,hol,_,nl,hdl⟩:=ht;show wpAny _ _ (field (.ref it) 0 >>= _) _ _ s;refine af (wpAny_field ho hd (x:=.ref t) rfl ?_);show wpAny _ _ (if (Value.ref t == Value.none)=true then _ else _) _ _ s;rw[if_neg (show ¬((Value.ref t == Value.none)=true) from Bool.false_ne_true)];show wpAny _ _ (field (.ref it) 1 >>= _) _ _ s;refine af (wpAny_field ho hd (x:=.int i 0) rfl ?_);show wpAny _ _ (seqItems? (.ref t) >>= _) _ _ s;refine af (wpAny_seqItems hol hdl ?_);simp only[Int.toNat_natCast,hx];refine af (wpAny_rule (af (wpAny_setField ho hd (by simp) ?_)));show wpAny _ _ (newExc (.type "StopIteration") [] >>= _) _ _ _;refine af ?_;simp only[newExc,newTuple];refine af (wpAny_newObj_type ?_ (by size_fits));refine af (m:=firstArgMember _ _) (wpAny_of_eq (a:=Value.none) (by first | rfl | (simp only[firstArgMember]; rfl)) ?_);refine wpAny_newObj_type ?_ (by size_fits);simp only[raiseNew];refine af (wpAny_handled ?_);rw[show A.in1.handled=none from hh];exact af (ay (wpAny_throw (hE _ _ (((Heap.SameBut.update ..).extBut.push _).push _) ⟨_,cR _ rfl,rfl⟩)))
theorem jE (hh:A.handled=none)(it t:Addr)(hne:t≠it)(items:Array Value) :
  Draws prog w A it [it,t] items.size (fun i v=>items[i]? = some v) (fun i h=>h.IsTupleIter it t i/\h.IsTuple t items) where
 live:=fun _ _ st=>let ⟨o,ho,_⟩:=st.1; ⟨o,ho⟩
 frame:=fun _ _ _ st hk=>⟨st.1.at fun o e=>hk it (by simp) o e,let ⟨o,ho,r⟩:=st.2; ⟨o,hk t (by simp) o ho,r⟩⟩
 item:=fun i s Q E hi st hQ=>yz st.1 st.2 (x:=items[i]) (by simp[hi]) fun h' a b=>hQ _ h' s.toks (by simp[hi]) ⟨a,let ⟨o,ho,r⟩:=st.2; ⟨o,(b.2 t hne).trans ho,r⟩⟩ b
 done:=fun s Q E st hE=>rT hh st.1 st.2 (by simp) hE
theorem C5 (hh:A.handled=none)(it t:Addr)(items:Array Value)(n:Nat)(hx:items[n]? = none) :
  Draws prog w A it [it,t] n (fun _ _=>False) (fun k h=>k=n/\h.IsTupleIter it t n/\h.IsTuple t items) where
 live:=fun _ _ st=>let ⟨o,ho,_⟩:=st.2.1; ⟨o,ho⟩
 frame:=fun _ _ _ st hk=>⟨st.1,st.2.1.at fun o e=>hk it (by simp) o e,let ⟨o,ho,r⟩:=st.2.2; ⟨o,hk t (by simp) o ho,r⟩⟩
 item:=fun i s Q E hi st hQ=>absurd hi (by rw[st.1]; exact Nat.lt_irrefl _)
 done:=fun s Q E st hE=>rT hh st.2.1 st.2.2 hx hE
theorem DF (l:Addr)(items:Array Value)(n:Nat)(dct:Option Addr)(sl:Array (Option Value)) :
  Meets (Builtin.«enumerate.__new__» ⟨[.type "enumerate",.ref l],[]⟩) (fun _ R s=>s.heap.get? l=some { cls:=.type "tuple",dict:=dct,data:=.seq items n,slots:=sl } /\
   R (.ok (.ret (.ref (s.heap.push { cls:=.type "tuple_iterator",data:=.fields #[.ref l,.int 0 0] }).objs.size)))
    { s with heap:=(s.heap.push { cls:=.type "tuple_iterator",data:=.fields #[.ref l,.int 0 0] }).push { cls:=.type "enumerate",data:=.fields #[.none,.bool false,.ref s.heap.objs.size,rawInt 0,.none,.none] } }):=
 .of_wp fun prog w A R s h=>by
  obtain⟨hp,g,d,tk,os⟩:=s; obtain⟨hl,h⟩:=h;have hsub:=sub_enumerate;have hT:Heap.IsTuple (Shared.heap ⟨hp,g,d,tk,os⟩) l items:=⟨_,hl,rfl,n,rfl⟩
  wp_walk using AutoSeq1.wpAny_loadPart' hl
  refine wpAny_stack_any fun st=>ay ?_;split
  ·rename_i c _ _ _ _ _;cases (c == Value.type "enumerate") <;> (wp_walk using AutoSeq1.wpAny_loadPart' hl,wpAny_pyIter_tuple hT; exact⟨_,rfl,h⟩)
  ·wp_walk using AutoSeq1.wpAny_loadPart' hl,wpAny_pyIter_tuple hT
   exact⟨_,rfl,h⟩
theorem zN (hL:s.heap.IsTuple l items)
  (h:∀h',IsEnum h' (s.heap.objs.size+1) s.heap.objs.size 0 .none->h'.IsTupleIter s.heap.objs.size l 0->(∀b o,s.heap.get? b=some o->h'.get? b=some o)->Q (.ref (s.heap.objs.size+1)) { s with heap:=h' }) :
  wpAny (model prog w) A (call (.type "enumerate") [.ref l]) Q E s:=by
 obtain⟨⟨c,dct,dt,sl⟩,hl,hc,n,hd⟩:=hL;have hc':c=.type "tuple":=hc;have hd':dt=.seq items n:=hd;subst hc' hd';refine callType_new PySem.F.called_enumerate (by decide) (PySem.F.typeCall_enumerate_1 _) (PySem.F.newCall_enumerate_1 _) (fun obj=>PySem.F.args_object_init_2 obj _) PySem.F.entry_enumerate_new (DF l items n dct sl) ⟨hl,?_⟩;have hz:(s.heap.push { cls:=.type "tuple_iterator",data:=.fields #[.ref l,.int 0 0] }).objs.size=s.heap.objs.size+1:=Heap.size_push ..;show _/\_;rw[hz];have he:=cR (s.heap.push { cls:=.type "tuple_iterator",data:=.fields #[.ref l,.int 0 0] }) (o:={ cls:=.type "enumerate",data:=.fields #[.none,.bool false,.ref s.heap.objs.size,rawInt 0,.none,.none] }) rfl;rw[hz] at he;exact⟨⟨_,he,rfl⟩,h _ he ⟨_,bz _ (cR _ rfl),rfl,rfl⟩ fun b o x=>bz _ (bz _ x)⟩
end
noncomputable def jW (K:aG)(a:Addr):It:=
 ⟨fun i H=>∃xs x,SqT K H a xs/\xs[i]? = some x,fun i H v H'=>∃x p,v=.ref p/\H p=none/\H'=upd H p (.tup [.int i,x])/\∀xs,SqT K H a xs->xs[i]? = some x,fun i H=>∃xs,SqT K H a xs/\xs.length<=i⟩
def gW (e it l:Addr)(i:Nat)(h:Heap):Prop:=(∃old,IsEnum h e it i old)/\h.IsTupleIter it l i
theorem BO {P:Program}{w:World}{K:aG}{es:List Expr}{k1:Nat}{ps:Pos}(l e it:Addr):Turn P w K (.Tuple es k1 ps) (jW K l) [e,it] e (gW e it l) where
 mem:=by simp
 obj:=fun i h t b hb=>by
  obtain⟨⟨old,te⟩,⟨o1,e1,_,d1⟩⟩:=t;simp only[List.mem_cons,List.not_mem_nil,or_false] at hb;rcases hb with rfl | rfl
  ·exact⟨_,te,(fun v q=>nomatch q)⟩
  ·exact⟨o1,e1,fun v q=>by rw[d1] at q; cases q⟩
 keep:=fun i h h' t k=>by
  obtain⟨⟨old,te⟩,t1⟩:=t;exact⟨⟨old,k e (by simp) _ te⟩,t1.at fun o q=>k it (by simp) o q⟩
 item:=by
  intro X hP hw hK hc i pins s σ H E I hf st hg;subst hP hw hK;obtain⟨xs,x,hx,ex⟩:=hg;obtain⟨its,rv,p,hz⟩:=I.tuple hx;obtain⟨u,hu,ru⟩:=rv.get ex;obtain⟨⟨old,te⟩,t1⟩:=st;have hl:=rv.length;have hi:i<its.toArray.size:=by
   have:=(cr hu).1;simpa using this
  have ne:e≠it:=by
   obtain⟨o1,e1,c1,_⟩:=t1;exact kT "enumerate" "tuple_iterator" te e1 rfl c1 (by decide)
  have nl:l≠it:=by
   obtain⟨o1,e1,c1,_⟩:=t1;obtain⟨o2,e2,c2,_⟩:=p;exact kT "tuple" "tuple_iterator" e2 e1 c2 c1 (by decide)
  have nel:e≠l:=by
   obtain⟨o2,e2,c2,_⟩:=p;exact kT "enumerate" "tuple" te e2 rfl c2 (by decide)
  refine wpAny_pyNext_enum_itemD (jE (A:=X.A.in1) (by exact I.ok.hd hc) it l nl its.toArray) te (show s.heap.IsTupleIter it l i/\s.heap.IsTuple l its.toArray from ⟨t1,p⟩) hi ne (by simp; exact⟨ne,nel⟩) fun y h' tk hy z1 z2 z3 z4 z5=>?_;have ey:y=u:=by
   have hu':its.toArray[i]? = some u:=by simpa using hu
   rw[hu'] at hy;exact (bO hy).symm
  subst ey;refine⟨_,rfl,?_⟩;refine wpAny_letOwnedTupleGo_enum (s:={ s with heap:=h',toks:=tk+1 }) z1 fun h2 z1' sb=>?_;have kk:∀b o,b∉[e,it]->s.heap.get? b=some o->h2.get? b=some o:=fun b o nb q=>by
   simp only[List.mem_cons,List.not_mem_nil,or_false,not_or] at nb;exact (sb.2 b nb.1).trans (z5 b o nb.1 nb.2 q)
  have le:e<s.heap.objs.size:=bn te;have gT:h2.get? s.heap.objs.size=some { cls:=.type "tuple",data:=.seq #[.int i tk,y] }:=(sb.2 _ (Nat.ne_of_gt le)).trans z3;refine⟨.ref s.heap.objs.size,upd H s.heap.objs.size (.tup [.int i,x]),I.turnedN (t':=tk+1) hf kk (aX _) ⟨by show 2<=sizeLine; decide,[.int i tk,y],.cons ⟨_,rfl⟩ (.cons ru .nil),_,gT,rfl,⟨_,rfl⟩,rfl⟩,rfl,
   ⟨x,_,rfl,I.hok.fresh (aX _),rfl,fun zs hq=>by rw[I.tuple_inj hq hx]; exact ex⟩,⟨⟨y,by simpa using z1'⟩,z2.1.at fun o q=>(sb.2 it (Ne.symm ne)).trans q⟩,fun b hb=>?_⟩
  obtain⟨o,q,_⟩:∃o,s.heap.get? b=some o/\True:=by
   simp only[List.mem_cons,List.not_mem_nil,or_false] at hb;obtain⟨o1,e1,_,d1⟩:=t1;rcases hb with rfl | rfl
   ·exact⟨_,te,trivial⟩
   ·exact⟨o1,e1,trivial⟩
  rw[aZ (Nat.ne_of_lt (Heap.lt_size q))];exact (hf b hb).1
 done:=by
  intro X hP hw hK hc i pins s σ H E I hf st hg;subst hP hw hK;obtain⟨xs,hx,hend⟩:=hg;obtain⟨its,rv,p,hz⟩:=I.tuple hx;obtain⟨⟨old,te⟩,t1⟩:=st;have hl:=rv.length;have nl:l≠it:=by
   obtain⟨o1,e1,c1,_⟩:=t1;obtain⟨o2,e2,c2,_⟩:=p;exact kT "tuple" "tuple_iterator" e2 e1 c2 c1 (by decide)
  refine wpAny_pyNext_enum_endD (C5 (A:=X.A.in1) (by exact I.ok.hd hc) it l its.toArray i (by simp; omega)) te ⟨rfl,t1,p⟩ fun h' kp=>⟨rfl,I.turnedL (t':=s.toks) hf fun b o nb q=>?_⟩
  simp only[List.mem_cons,List.not_mem_nil,or_false,not_or] at nb;exact kp b o nb.2 q
 self:=fun _ _ _ _ _ st h=>by
  obtain⟨⟨old,te⟩,_⟩:=st;exact wpAny_pyIter_enum te h
section
variable {X:Cx}{es:List Expr}{k1:Nat}{tp:Pos}
theorem xq {a:Expr}{ta:TA}{p pos:Pos}(hg:Gl X "enumerate")(hm:X.mg "enumerate" = none)(hv:bootBuiltins "enumerate" = some (.type "enumerate"))(ha:PA X [a] ta)(hs:starEach [a] X.env=[(false,eval a X.env)]:=by rfl) :
  PI X (.Tuple es k1 tp) (.Call (.Name "enumerate" p) [a] [] pos) (fun σ H R=>ta σ H fun vs H1=>(∃a xs,vs=[.ref a]/\SqL X.K H1 a xs/\R (rf X.K a) H1)\/∃a xs,vs=[.ref a]/\SqT X.K H1 a xs/\R (jW X.K a) H1):=by
 intro pins s σ H R I h;refine Call_ (ie I hg hm hv (PyProof.Rows.callWith_type1 (aB (ha pos pins s σ H _ I h) fun us s1 hZz=>?_) hs rfl));obtain⟨vs,H1,I1,r1,q1⟩:=hZz;rcases q1 with ⟨l1,xs,rfl,hx,q⟩ | ⟨l1,xs,rfl,hx,q⟩
 ·obtain⟨u,rfl,ru⟩:=vals1 r1;cases ru;obtain⟨its,rx,px,hzx⟩:=I1.list hx;refine call_enumerate_list px.isList fun h' z1 z2 z3 z4=>?_;refine wpAny_pyIter_enum (s:={ s1 with heap:=h' }) z1 ⟨_,_,_,_,H1,rfl,I1.kept (t':=s1.toks) z4,B6 l1 _ _,⟨⟨_,z1⟩,z2⟩,fun b hb=>?_,q⟩;have lb:s1.heap.objs.size<=b:=by
   simp only[List.mem_cons,List.not_mem_nil,or_false] at hb;rcases hb with rfl | rfl <;> omega
  exact I1.fpOk lb (I1.hok.fresh lb)
 ·obtain⟨u,rfl,ru⟩:=vals1 r1;cases ru;obtain⟨its,rx,px,hzx⟩:=I1.tuple hx;refine zN px fun h' z1 z2 z4=>?_;refine wpAny_pyIter_enum (s:={ s1 with heap:=h' }) z1 ⟨_,_,_,_,H1,rfl,I1.kept (t':=s1.toks) z4,BO l1 _ _,⟨⟨_,z1⟩,z2⟩,fun b hb=>?_,q⟩;have lb:s1.heap.objs.size<=b:=by
   simp only[List.mem_cons,List.not_mem_nil,or_false] at hb;rcases hb with rfl | rfl <;> omega
  exact I1.fpOk lb (I1.hok.fresh lb)
end
section
variable {X:Cx}
def fU:V->List V->Hp->VK->Prop:=fun x vs H Q=>∃a xs y j,x=.ref a/\vs=[y]/\Rd H a (.lst xs)/\flatV y=true/\xs.all flatV=true/\(xs.findIdx? fun z=>eqV z y)=some j/\Q (.int (j:Nat)) H
theorem Df:mT X "list.index" fU:=by
 intro pins s σ H x vs v us Q I rx rv h;obtain⟨a,xs,y,j,rfl,rfl,hx,fy,fs,hf,q⟩:=h;cases rx;cases rv with
 | @cons _ u _ us ry rn=>
 cases rn;obtain⟨hz,its,n,r,ho⟩:=hx.ok I.hok;obtain⟨hj,hp,hq⟩:=List.findIdx?_eq_some_iff_getElem.mp hf;have len:=r.length;have at':∀i (h1:i<xs.length) (h2:i<its.toArray.size),dq y its.toArray[i]=eqV xs[i] y:=fun i h1 h2=>by
  obtain⟨w,e,rw'⟩:=r.get (i:=i) (x:=xs[i]) (by simp[h1]);have e2:its.toArray[i]=w:=by
   have h2':i<its.length:=by simpa using h2
   rw[List.getElem?_eq_getElem h2'] at e;simpa using bO e
  rw[e2];exact kZ rw' (dF fs _ (List.getElem_mem h1))
 have hj2:j<its.toArray.size:=by rw[List.size_toArray]; omega
 have hsm:(j:Int)<2 ^ 63 - 1:=by
  have:sizeLine<2 ^ 62:=by decide
  omega
 refine call_meets PySem.F.slot_list_index ⟨_,ho,rfl⟩ PySem.F.entry_list_index (PySem.F.args_list_index_2 _ _)
  (PySem.SeqAt.list_indexAt a its.toArray n none #[] u (dq y) j hj2 hsm (by rw[at' j hj hj2]; exact hp) fun m hm hl=>?_)
  ⟨ho,fun z hz=>iN ry fy r fs z (by simpa using hz),⟨.int (j:Nat),H,I.tok _,⟨_,rfl⟩,q⟩⟩
 have hm':m<xs.length:=by omega
 rw[at' m hm' hm];simpa using hq m hl
end
section
variable {X:Cx}{tg:Expr}
end
section
variable {X:Cx}
theorem sL:∀{xs:List V} {us:List Value},Vals xs us->xs.all flatV=true->us.countP (dq y)=xs.countP fun z=>eqV z y
 | _,_,.nil,_=>rfl
 | x::xs,u::us,.cons r q,f=>by
  rw[List.all_cons,Bool.and_eq_true] at f;rw[List.countP_cons,List.countP_cons,sL q f.2,kZ r f.1]
def gg:V->List V->Hp->VK->Prop:=fun x vs H Q=>∃a xs y,x=.ref a/\vs=[y]/\Rd H a (.lst xs)/\flatV y=true/\xs.all flatV=true/\Q (.int ((xs.countP fun z=>eqV z y):Nat)) H
theorem wx:mT X "list.count" gg:=by
 intro pins s σ H x vs v us Q I rx rv h;obtain⟨a,xs,y,rfl,rfl,hx,fy,fs,q⟩:=h;cases rx;cases rv with
 | @cons _ u _ us ry rn=>
 cases rn;obtain⟨hz,its,n,r,ho⟩:=hx.ok I.hok;have e:its.toArray.toList.countP (dq y)=xs.countP fun z=>eqV z y:=by simpa using sL r fs
 refine call_meets PySem.F.slot_list_count ⟨_,ho,rfl⟩ PySem.F.entry_list_count (PySem.F.args_list_count_2 _ _)
  (PySem.SeqAt.list_countAt a its.toArray n none #[] u (dq y)) ⟨ho,fun z hz=>iN ry fy r fs z (by simpa using hz),?_⟩
 rw[e];exact⟨.int ((xs.countP fun z=>eqV z y):Nat),H,I.tok _,⟨_,rfl⟩,q⟩
end
end L2
end
section
namespace Ip
open PySem (Str)
noncomputable section
inductive D where
 | non | bl (b:Bool) | int (i:Int) | str (s:Str)
 | lst (xs:List D) | tup (xs:List D)
 | ins (c:Nat) (fs:List (Nat×D))
 | exc (c:Nat) (fs:List (Nat×D))
 deriving Inhabited
mutual
@[simp] noncomputable def D.flat:D->Bool
 | .lst _=>false
 | .tup xs=>D.flats xs
 | .ins _ _=>false
 | .exc _ _=>false
 | _=>true
@[simp] noncomputable def D.flats:List D->Bool
 | []=>true
 | d::ds=>d.flat&&D.flats ds
end
theorem jN:∀xs:List D,D.flats xs=xs.all D.flat
 | []=>by rw[D.flats]; rfl
 | d::ds=>by rw[D.flats,jN ds]; rfl
@[simp] noncomputable def D.fb:Nat->D->Bool
 | 0,d=>d.flat
 | k+1,.lst xs=>xs.all (D.fb k)
 | k+1,.tup xs=>xs.all (D.fb k)
 | k+1,.ins _ fs=>fs.all fun p=>D.fb k p.2
 | _+1,.exc _ _=>false
 | _+1,_=>true
noncomputable def D.pur:Nat->D->Bool
 | 0,.lst _=>false
 | 0,.tup _=>false
 | n+1,.lst xs=>xs.all (D.pur n)
 | n+1,.tup xs=>xs.all (D.pur n)
 | _,.ins _ _=>false
 | _,.exc _ _=>false
 | _,.str s=>s.cps.all (·<1114112)
 | _,_=>true
@[simp] theorem pur_non (n:Nat):D.pur n .non=true:=by cases n <;> rfl
@[simp] theorem pur_bl (n:Nat)(b:Bool):D.pur n (.bl b)=true:=by cases n <;> rfl
@[simp] theorem pur_int (n:Nat)(i:Int):D.pur n (.int i)=true:=by cases n <;> rfl
@[simp] theorem B0 (n:Nat)(s:Str):D.pur n (.str s)=s.cps.all (·<1114112):=by cases n <;> rfl
@[simp] theorem uI (n:Nat)(xs:List D):D.pur (n+1) (.lst xs)=xs.all (D.pur n):=rfl
@[simp] theorem rB (n:Nat)(xs:List D):D.pur (n+1) (.tup xs)=xs.all (D.pur n):=rfl
@[simp] theorem pur_ints (n:Nat)(xs:List Int):(xs.map D.int).all (D.pur n)=true:=by simp
noncomputable abbrev D.pures (xs:List D):Bool:=xs.all (D.pur 60)
@[simp] noncomputable def D.scal:D->Bool
 | .non=>true | .bl _=>true | .int _=>true | .str _=>true
 | _=>false
mutual
noncomputable def D.eq:D->D->Bool
 | .non,.non=>true
 | .int i,.int j=>decide (i=j)
 | .int i,.bl b=>decide (i=if b then 1 else 0)
 | .bl b,.int i=>decide ((if b then 1 else 0)=i)
 | .bl b,.bl c=>decide (b=c)
 | .str s,.str t=>decide (s=t)
 | .lst xs,.lst ys=>D.eqs xs ys
 | .tup xs,.tup ys=>D.eqs xs ys
 | _,_=>false
noncomputable def D.eqs:List D->List D->Bool
 | [],[]=>true
 | x::xs,y::ys=>x.eq y&&D.eqs xs ys
 | _,_=>false
end
inductive R (α:Type) where
 | ok (a:α)
 | exc (c:Nat) (fs:List (Nat×D))
 | bad
@[simp,reducible] noncomputable def R.bind {α β:Type}(r:R α)(f:α->R β):R β:=match r with
 | .ok a=>f a
 | .exc c fs=>.exc c fs
 | .bad=>.bad
noncomputable abbrev KD:=Nat×D
noncomputable def aJ (j:Nat)(x:KD):Bool:=x.2.flat||(x.1 == j||(D.fb j x.2&&D.fb x.1 x.2))
noncomputable def aE (xs:List KD):Nat:=match xs.find? fun x=>!x.2.flat with
 | none=>98
 | some x=>if xs.all (aJ x.1) then x.1 else 0
noncomputable def bV (k:Nat)(xs:List D)(v:KD):Nat:=if aJ k v then k else if xs.all (fun d=>aJ v.1 (k,d)) then v.1 else 0
noncomputable abbrev SL:Nat:=1000000
inductive Ty where
 | int | bool | str | list | tuple | dict | verr | cls (c:Nat)
inductive Op where
 | add | sub | mul | fdiv | mod | pow | shr | neg | not
 | eq | ne | lt | le | gt | ge | isN | notN | isin | nin
 | lst | tup | ix | slL | slH | slLH | rev
 | fld (f:Nat) | isi (ts:List Ty)
 | len | list | lrng | lrev | tuple | all | any | toInt | sum | srt | srtSet | symd | min1 | min2 | max2
 | index | count
inductive Wk where
 | seq | rng1 | rng2 | rngD | enum | zip | rev
inductive Tg where
 | one (i:Nat) | many (is:List Nat)
inductive Ex where
 | var (i:Nat)
 | cst (d:D)
 | op (o:Op) (es:List Ex)
 | and (a b:Ex) | or (a b:Ex)
 | chain (o p:Op) (a b c:Ex)
 | sl2 (a l h:Ex)
 | comp (caps:List (Option Nat)) (tg:Tg) (wk:Wk) (it:List Ex) (t:List Ex) (e:Ex)
 | call (f:Nat) (es:List Ex)
 | make (c:Nat) (es:List Ex)
 | meth (m:Nat) (o:Ex) (es:List Ex)
 | bad
 deriving Inhabited
inductive Mu where
 | append | extend | clear | insert | remove | pop0
inductive S where
 | set (i:Nat) (e:Ex)
 | setT (is:List Nat) (e:Ex)
 | ret (e:Ex)
 | ex (e:Ex)
 | iff (c:Ex) (t e:List S)
 | fo (tg:Tg) (wk:Wk) (it:List Ex) (b:List S)
 | brk | cnt | pass
 | rais (c:Nat) (es:List Ex)
 | mut (x:Nat) (path:List Ex) (m:Mu) (es:List Ex)
 | put (x:Nat) (path:List Ex) (i e:Ex)
 | sfld (i:Nat) (f:Nat) (e:Ex)
 | xinit (es:List Ex)
 | tryE (b:List S) (c:Nat) (i x:Nat)
 | raisV (c:Nat)
 | bad
 deriving Inhabited
structure Fn where
 np:Nat
 io:List Nat
 ns:Nat
 dfl:List D
 body:List S
structure Cl where
 init:Option Nat
 meths:List (Nat×Nat)
 ups:List Nat
 isx:Bool
structure Pg where
 fn:Nat->Option Fn
 cl:Nat->Option Cl
inductive Run where
 | ret (k:Nat) (d:D) (outs:List KD)
 | exc (c:Nat) (fs:List (Nat×D)) (outs:List KD)
 | bad
theorem me (n:Nat):∃f:Int->Bool,∀i,f i=true ↔ -(2 ^ n)<=i/\i<2 ^ n:=⟨fun i=>decide (-(2 ^ n)<=i/\i<2 ^ n),fun i=>decide_eq_true_iff⟩
noncomputable def dh:Int->Bool:=Classical.choose (me 62)
theorem gw:dh i=true ↔ -(2 ^ 62)<=i/\i<2 ^ 62:=Classical.choose_spec (me 62) i
noncomputable def ef (n:Nat)(i:Int):Option Nat:=if 0<=i then (if i<n then some i.toNat else none) else if -(n:Int)<=i then some (i+n).toNat else none
noncomputable def cQ (n d:Nat):Option Int->Nat
 | none=>d
 | some i=>if 0<=i then min i.toNat n else (i+n).toNat
noncomputable def cutD {α:Type}(xs:List α)(lo hi:Option Int):List α:=(xs.drop (cQ xs.length 0 lo)).take (cQ xs.length xs.length hi - cQ xs.length 0 lo)
@[simp] noncomputable def lL:Ty->Bool
 | .bool=>true | .int=>true | _=>false
@[simp] noncomputable def hZ:Ty->Bool
 | .int=>true | _=>false
@[simp] noncomputable def iX:Ty->Bool
 | .str=>true | _=>false
@[simp] noncomputable def hG:Ty->Bool
 | .list=>true | _=>false
@[simp] noncomputable def iT:Ty->Bool
 | .tuple=>true | _=>false
@[simp] noncomputable def iU (G:Pg)(c d:Nat):Bool:=match G.cl c with
 | some K=>decide (d=c)||K.ups.contains d
 | none=>false
@[simp] noncomputable def iW (G:Pg)(c:Nat):Ty->Bool
 | .cls d=>iU G c d | _=>false
@[simp] noncomputable def iH (G:Pg)(c:Nat):Ty->Bool
 | .cls d=>iU G c d | .verr=>true | _=>false
noncomputable def ao (G:Pg):D->Ty->Bool
 | .bl _=>lL
 | .int _=>hZ
 | .str _=>iX
 | .lst _=>hG
 | .tup _=>iT
 | .ins c _=>iW G c
 | .exc c _=>iH G c
 | .non=>fun _=>false
@[simp] theorem isTy_bl (G:Pg)(b:Bool)(t:Ty):ao G (.bl b) t=lL t:=rfl
@[simp] theorem isTy_int (G:Pg)(b:Int)(t:Ty):ao G (.int b) t=hZ t:=rfl
@[simp] theorem isTy_str (G:Pg)(b:Str)(t:Ty):ao G (.str b) t=iX t:=rfl
@[simp] theorem isTy_lst (G:Pg)(b:List D)(t:Ty):ao G (.lst b) t=hG t:=rfl
@[simp] theorem isTy_tup (G:Pg)(b:List D)(t:Ty):ao G (.tup b) t=iT t:=rfl
@[simp] theorem isTy_ins (G:Pg)(c:Nat)(fs:List (Nat×D))(t:Ty):ao G (.ins c fs) t=iW G c t:=rfl
@[simp] theorem isTy_exc (G:Pg)(c:Nat)(fs:List (Nat×D))(t:Ty):ao G (.exc c fs) t=iH G c t:=rfl
@[simp] theorem isTy_non (G:Pg)(t:Ty):ao G .non t=false:=rfl
noncomputable def allB:List D->Option Bool
 | []=>some true
 | .bl b::ds=>(allB ds).map fun c=>b&&c
 | _::_=>none
noncomputable def anyB:List D->Option Bool
 | []=>some false
 | .bl b::ds=>(anyB ds).map fun c=>b||c
 | _::_=>none
noncomputable def b7:List D->Option (List Int)
 | []=>some []
 | .int i::ds=>(b7 ds).map fun is=>i::is
 | _::_=>none
noncomputable def D.memb (x:D)(xs:List D):Bool:=xs.any fun y=>y.eq x
noncomputable def D.find (x:D)(xs:List D):Option Nat:=xs.findIdx? fun y=>y.eq x
@[simp] noncomputable def fB (b:Bool):Option KD:=some (99,.bl b)
@[simp] noncomputable def fI (i:Int):Option KD:=some (99,.int i)
@[simp] noncomputable def kH (b:Bool):R KD:=.ok (99,.bl b)
@[simp] noncomputable def D.seq:D->Option (List D)
 | .lst xs=>some xs
 | .tup xs=>some xs
 | _=>none
@[simp] noncomputable def D.lstO:D->Option (List D)
 | .lst xs=>some xs
 | _=>none
@[simp] noncomputable def bJ (f:D->Option KD):List KD->Option KD
 | [x]=>f x.2
 | _=>none
@[simp] noncomputable def bc (f:D->D->Option KD):List KD->Option KD
 | [x,y]=>f x.2 y.2
 | _=>none
@[simp] noncomputable def on3 (f:D->D->D->Option KD):List KD->Option KD
 | [x,y,z]=>f x.2 y.2 z.2
 | _=>none
@[simp] noncomputable def bm (f:Int->Int->Option KD):D->D->Option KD
 | .int i,.int j=>f i j
 | _,_=>none
@[simp] noncomputable def bK:D->D->Option KD
 | .int i,.int j=>fI (i+j)
 | .lst xs,.lst ys=>if xs.length+ys.length<=SL then some (1,.lst (xs++ys)) else none
 | .tup xs,.tup ys=>if xs.length+ys.length<=SL then some (0,.tup (xs++ys)) else none
 | _,_=>none
noncomputable def bW:List D->Option (List Nat)
 | []=>some []
 | .int i::ds=>if 0<=i/\i<6 then (bW ds).map fun ns=>i.toNat::ns else none
 | _::_=>none
noncomputable def aO (ns:List Nat):List Nat:=(List.range 6).filter fun k=>ns.contains k
noncomputable def ah (ns:List Nat):List D:=ns.map fun n=>.int (Int.ofNat n)
@[simp] noncomputable def d5:D->D->Option KD
 | .int i,.int j=>if dh i||dh j then fI (i * j) else none
 | .tup xs,.int j=>if xs.isEmpty=false/\1<=j/\j<=1000/\xs.length * j.toNat<=SL then some (0,.tup (List.replicate j.toNat xs).flatten) else none
 | _,_=>none
@[simp] noncomputable def jX (neg:Bool)(x y:D):Option KD:=if x.pur 60&&y.pur 60 then fB (if neg then !x.eq y else x.eq y) else none
@[simp] noncomputable def jo (neg:Bool)(x y:D):Option KD:=match y.seq with
 | some ys=>if x.scal&&ys.all D.scal then fB (if neg then !x.memb ys else x.memb ys) else none
 | none=>none
@[simp] noncomputable def aF:D->D->Option KD
 | x,.int i=>match x.seq with
  | some xs=>match (ef xs.length i).bind fun j=>xs[j]? with
   | some d=>some (0,d)
   | none=>none
  | none=>none
 | _,_=>none
@[simp] noncomputable def aA (lo hi:Option Int):D->Option KD
 | .lst xs=>some (1,.lst (cutD xs lo hi))
 | .tup xs=>some (0,.tup (cutD xs lo hi))
 | _=>none
noncomputable def gD (f:Nat):D->Option KD
 | .ins _ fs=>match fs.lookup f with | some d=>some (0,d) | none=>none
 | .exc _ fs=>match fs.lookup f with | some d=>some (0,d) | none=>none
 | _=>none
@[simp] noncomputable def fJ (f:List D->Option KD):D->Option KD
 | .lst xs=>f xs
 | _=>none
@[simp] noncomputable def gj (f:List D->Option KD)(x:D):Option KD:=match x.seq with | some xs=>f xs | none=>none
@[simp] noncomputable def intD:D->Option KD
 | .int i=>fI i
 | .bl b=>fI (if b then 1 else 0)
 | _=>none
@[simp] noncomputable def i8:D->Option KD
 | .bl b=>fB (!b)
 | _=>none
@[simp] noncomputable def i6:D->Option KD
 | .int i=>fI (-i)
 | _=>none
@[simp] noncomputable def dJ (neg:Bool):D->Option KD
 | .non=>fB (!neg)
 | _=>fB neg
@[simp] noncomputable def mD:D->Option KD
 | .lst xs=>some (0,.tup xs)
 | .tup xs=>some (0,.tup xs)
 | _=>none
noncomputable def b8 (x y:D):Option KD:=match x.seq with
 | some xs=>if y.scal&&xs.all D.scal then (match y.find xs with | some j=>fI j | none=>none) else none
 | none=>none
@[simp] theorem Ag (xs:List D)(y:D):b8 (.lst xs) y=if y.scal&&xs.all D.scal then (match y.find xs with | some j=>fI j | none=>none) else none:=rfl
@[simp] theorem qP (xs:List D)(y:D):b8 (.tup xs) y=if y.scal&&xs.all D.scal then (match y.find xs with | some j=>fI j | none=>none) else none:=rfl
theorem wz (h:b8 x y=some z):(∃xs,x=.tup xs)\/∃xs,x=.lst xs:=by cases x <;> first | exact .inl ⟨_,rfl⟩ | exact .inr ⟨_,rfl⟩ | cases h
@[simp] noncomputable def countD (x y:D):Option KD:=match x.seq with
 | some xs=>if y.pur 60&&D.pures xs then fI (xs.countP fun z=>z.eq y) else none
 | none=>none
noncomputable def gG (x y:D):Option KD:=match x with
 | .lst xs=>if y.scal&&xs.all D.scal then fI ((xs.countP fun z=>z.eq y:Nat):Int) else none
 | _=>none
@[simp] theorem Aq (xs:List D)(y:D):gG (.lst xs) y=if y.scal&&xs.all D.scal then fI ((xs.countP fun z=>z.eq y:Nat):Int) else none:=rfl
theorem CQ (h:gG x y=some z):∃xs,x=.lst xs:=by cases x <;> first | exact⟨_,rfl⟩ | cases h
noncomputable def D.isL:D->Bool
 | .lst _=>true
 | _=>false
noncomputable def d7:List D->Option KD
 | .int i::xs=>match b7 xs with | some is=>fI (is.foldl (fun a b=>if b<a then b else a) i) | none=>none
 | _=>none
@[simp] noncomputable def iR:D->Option KD
 | .int j=>if 0<=j/\j<=SL then some (1,.lst (ah (List.range j.toNat))) else none
 | _=>none
noncomputable def aR (G:Pg):Op->List KD->Option KD
 | .lst,vs=>some (aE vs+1,.lst (vs.map (·.2)))
 | .tup,vs=>some (aE vs+1,.tup (vs.map (·.2)))
 | .add,vs=>bc bK vs
 | .sub,vs=>bc (bm fun i j=>fI (i - j)) vs
 | .mul,vs=>bc d5 vs
 | .fdiv,vs=>bc (bm fun i j=>if 0<j/\j<1073741824 then fI (i / j) else none) vs
 | .mod,vs=>bc (bm fun i j=>if 0<j then fI (i % j) else none) vs
 | .pow,vs=>bc (bm fun i j=>if 0<=j/\j<=1000000/\dh i=true then fI (i ^ j.toNat) else none) vs
 | .shr,vs=>bc (bm fun i j=>if 0<=j then fI (i / 2 ^ j.toNat) else none) vs
 | .neg,vs=>bJ i6 vs
 | .not,vs=>bJ i8 vs
 | .eq,vs=>bc (jX false) vs
 | .ne,vs=>bc (jX true) vs
 | .lt,vs=>bc (bm fun i j=>fB (decide (i<j))) vs
 | .le,vs=>bc (bm fun i j=>fB (decide (i<=j))) vs
 | .gt,vs=>bc (bm fun i j=>fB (decide (j<i))) vs
 | .ge,vs=>bc (bm fun i j=>fB (decide (j<=i))) vs
 | .isN,vs=>bJ (dJ false) vs
 | .notN,vs=>bJ (dJ true) vs
 | .isin,vs=>bc (jo false) vs
 | .nin,vs=>bc (jo true) vs
 | .ix,vs=>bc aF vs
 | .slL,vs=>bc (fun x y=>match y with | .int i=>aA (some i) none x | _=>none) vs
 | .slH,vs=>bc (fun x y=>match y with | .int i=>aA none (some i) x | _=>none) vs
 | .slLH,_=>none
 | .rev,vs=>bJ (fJ fun xs=>some (1,.lst xs.reverse)) vs
 | .fld f,vs=>bJ (gD f) vs
 | .isi ts,vs=>bJ (fun x=>fB (ts.any (ao G x))) vs
 | .len,vs=>bJ (gj fun xs=>fI xs.length) vs
 | .list,vs=>bJ (gj fun xs=>some (1,.lst xs)) vs
 | .lrng,vs=>bJ iR vs
 | .lrev,_=>none
 | .tuple,vs=>bJ mD vs
 | .all,vs=>bJ (fJ fun xs=>match allB xs with | some b=>fB b | none=>none) vs
 | .any,vs=>bJ (fJ fun xs=>match anyB xs with | some b=>fB b | none=>none) vs
 | .toInt,vs=>bJ intD vs
 | .sum,_=>none
 | .srt,_=>none
 | .srtSet,vs=>bJ (fJ fun xs=>match bW xs with | some ns=>some (1,.lst (ah (aO ns))) | none=>none) vs
 | .symd,_=>none
 | .min1,vs=>bJ (fJ d7) vs
 | .min2,_=>none
 | .max2,vs=>bc (bm fun i j=>fI (if j > i then j else i)) vs
 | .index,vs=>bc b8 vs
 | .count,vs=>bc gG vs
@[simp] theorem BQ (G:Pg)(vs:List KD):aR G .lst vs=some (aE vs+1,.lst (vs.map (·.2))):=rfl
@[simp] theorem DU (G:Pg)(vs:List KD):aR G .tup vs=some (aE vs+1,.tup (vs.map (·.2))):=rfl
@[simp] theorem CJ (G:Pg)(vs:List KD):aR G .add vs=bc bK vs:=rfl
@[simp] theorem opD_sub (G:Pg)(vs:List KD):aR G .sub vs=bc (bm fun i j=>fI (i - j)) vs:=rfl
@[simp] theorem Ea (G:Pg)(vs:List KD):aR G .mul vs=bc d5 vs:=rfl
@[simp] theorem opD_fdiv (G:Pg)(vs:List KD):aR G .fdiv vs=bc (bm fun i j=>if 0<j/\j<1073741824 then fI (i / j) else none) vs:=rfl
@[simp] theorem opD_mod (G:Pg)(vs:List KD):aR G .mod vs=bc (bm fun i j=>if 0<j then fI (i % j) else none) vs:=rfl
@[simp] theorem opD_pow (G:Pg)(vs:List KD):aR G .pow vs=bc (bm fun i j=>if 0<=j/\j<=1000000/\dh i=true then fI (i ^ j.toNat) else none) vs:=rfl
@[simp] theorem opD_shr (G:Pg)(vs:List KD):aR G .shr vs=bc (bm fun i j=>if 0<=j then fI (i / 2 ^ j.toNat) else none) vs:=rfl
@[simp] theorem EC (G:Pg)(vs:List KD):aR G .neg vs=bJ i6 vs:=rfl
@[simp] theorem wS (G:Pg)(vs:List KD):aR G .not vs=bJ i8 vs:=rfl
@[simp] theorem C2 (G:Pg)(vs:List KD):aR G .eq vs=bc (jX false) vs:=rfl
@[simp] theorem Cb (G:Pg)(vs:List KD):aR G .ne vs=bc (jX true) vs:=rfl
@[simp] theorem opD_lt (G:Pg)(vs:List KD):aR G .lt vs=bc (bm fun i j=>fB (decide (i<j))) vs:=rfl
@[simp] theorem opD_le (G:Pg)(vs:List KD):aR G .le vs=bc (bm fun i j=>fB (decide (i<=j))) vs:=rfl
@[simp] theorem opD_gt (G:Pg)(vs:List KD):aR G .gt vs=bc (bm fun i j=>fB (decide (j<i))) vs:=rfl
@[simp] theorem opD_ge (G:Pg)(vs:List KD):aR G .ge vs=bc (bm fun i j=>fB (decide (j<=i))) vs:=rfl
@[simp] theorem Dq (G:Pg)(vs:List KD):aR G .isN vs=bJ (dJ false) vs:=rfl
@[simp] theorem zA (G:Pg)(vs:List KD):aR G .notN vs=bJ (dJ true) vs:=rfl
@[simp] theorem opD_isin (G:Pg)(vs:List KD):aR G .isin vs=bc (jo false) vs:=rfl
@[simp] theorem opD_nin (G:Pg)(vs:List KD):aR G .nin vs=bc (jo true) vs:=rfl
@[simp] theorem yA (G:Pg)(vs:List KD):aR G .ix vs=bc aF vs:=rfl
@[simp] theorem opD_slL (G:Pg)(vs:List KD):aR G .slL vs=bc (fun x y=>match y with | .int i=>aA (some i) none x | _=>none) vs:=rfl
@[simp] theorem opD_slH (G:Pg)(vs:List KD):aR G .slH vs=bc (fun x y=>match y with | .int i=>aA none (some i) x | _=>none) vs:=rfl
@[simp] theorem opD_slLH (G:Pg)(vs:List KD):aR G .slLH vs=none:=rfl
@[simp] theorem opD_rev (G:Pg)(vs:List KD):aR G .rev vs=bJ (fJ fun xs=>some (1,.lst xs.reverse)) vs:=rfl
@[simp] theorem CS (G:Pg)(f:Nat)(vs:List KD):aR G (.fld f) vs=bJ (gD f) vs:=rfl
@[simp] theorem opD_isi (G:Pg)(ts:List Ty)(vs:List KD):aR G (.isi ts) vs=bJ (fun x=>fB (ts.any (ao G x))) vs:=rfl
@[simp] theorem Eo (G:Pg)(vs:List KD):aR G .len vs=bJ (gj fun xs=>fI xs.length) vs:=rfl
@[simp] theorem BS (G:Pg)(vs:List KD):aR G .list vs=bJ (gj fun xs=>some (1,.lst xs)) vs:=rfl
@[simp] theorem opD_lrng (G:Pg)(vs:List KD):aR G .lrng vs=bJ iR vs:=rfl
@[simp] theorem opD_lrev (G:Pg)(vs:List KD):aR G .lrev vs=none:=rfl
@[simp] theorem Ad (G:Pg)(vs:List KD):aR G .tuple vs=bJ mD vs:=rfl
@[simp] theorem CZ (G:Pg)(vs:List KD):aR G .all vs=bJ (fJ fun xs=>match allB xs with | some b=>fB b | none=>none) vs:=rfl
@[simp] theorem zR (G:Pg)(vs:List KD):aR G .any vs=bJ (fJ fun xs=>match anyB xs with | some b=>fB b | none=>none) vs:=rfl
@[simp] theorem y8 (G:Pg)(vs:List KD):aR G .toInt vs=bJ intD vs:=rfl
@[simp] theorem opD_sum (G:Pg)(vs:List KD):aR G .sum vs=none:=rfl
@[simp] theorem opD_srt (G:Pg)(vs:List KD):aR G .srt vs=none:=rfl
@[simp] theorem yg (G:Pg)(vs:List KD):aR G .srtSet vs=bJ (fJ fun xs=>match bW xs with | some ns=>some (1,.lst (ah (aO ns))) | none=>none) vs:=rfl
@[simp] theorem opD_symd (G:Pg)(vs:List KD):aR G .symd vs=none:=rfl
@[simp] theorem zf (G:Pg)(vs:List KD):aR G .min1 vs=bJ (fJ d7) vs:=rfl
@[simp] theorem opD_min2 (G:Pg)(vs:List KD):aR G .min2 vs=none:=rfl
@[simp] theorem zJ (G:Pg)(vs:List KD):aR G .max2 vs=bc (bm fun i j=>fI (if j > i then j else i)) vs:=rfl
@[simp] theorem yO (G:Pg)(vs:List KD):aR G .index vs=bc b8 vs:=rfl
@[simp] theorem yN (G:Pg)(vs:List KD):aR G .count vs=bc gG vs:=rfl
@[simp,reducible] noncomputable def R.of {α:Type}:Option α->R α
 | some a=>.ok a
 | none=>.bad
theorem dm (h:(none:Option α)=some x):False:=nomatch h
noncomputable def nn (f:D->Option (List D)):List KD->Option (List D)
 | []=>none
 | x::r=>match r with
  | []=>f x.2
  | _::_=>none
noncomputable def pM (f:D->D->Option (List D)):List KD->Option (List D)
 | []=>none
 | x::r=>match r with
  | []=>none
  | y::t=>match t with
   | []=>f x.2 y.2
   | _::_=>none
theorem vy (h:nn f vs=some ds):∃x,vs=[x]/\f x.2=some ds:=by
 cases vs with
 | nil=>exact (dm h).elim
 | cons x r=>
  cases r with
  | nil=>exact⟨x,rfl,h⟩
  | cons _ _=>exact (dm h).elim
theorem C3 (h:pM f vs=some ds):∃x y,vs=[x,y]/\f x.2 y.2=some ds:=by
 cases vs with
 | nil=>exact (dm h).elim
 | cons x r=>
  cases r with
  | nil=>exact (dm h).elim
  | cons y t=>
   cases t with
   | nil=>exact⟨x,y,rfl,h⟩
   | cons _ _=>exact (dm h).elim
noncomputable def fZ:D->Option Int
 | .int i=>some i
 | _=>none
theorem BM (h:fZ d=some i):d=.int i:=by
 cases d <;> first | exact (dm h).elim | exact congrArg D.int (bO h)
noncomputable def iY (d:D):Option (List D):=(fZ d).bind fun j=>if dh j=true then some ((List.range j.toNat).map fun (n:Nat)=>.int n) else none
noncomputable def my (d e:D):Option (List D):=(fZ d).bind fun i=>(fZ e).bind fun j=>if dh i=true/\dh j=true then some ((List.range (j - i).toNat).map fun (n:Nat)=>.int (i+n)) else none
noncomputable def iS (x:D):Option (List D):=x.seq.map fun xs=>xs.mapIdx fun n d=>.tup [.int n,d]
noncomputable def mF (x y:D):Option (List D):=x.lstO.bind fun xs=>y.lstO.map fun ys=>(xs.zip ys).map fun p=>.tup [p.1,p.2]
noncomputable def df:Wk->List KD->Option (List D)
 | .seq=>nn D.seq
 | .rng1=>nn iY
 | .rng2=>pM my
 | .enum=>nn iS
 | .zip=>pM mF
 | .rngD=>fun _=>none
 | .rev=>fun _=>none
noncomputable abbrev Sl:=List (Option D)
@[simp] noncomputable def ce (a:Sl):Option Nat->Option D
 | some i=>(a[i]?).join
 | none=>none
@[simp] noncomputable def bP {α:Type}(f:D->α):List Nat->List D->List (Option α)->List (Option α)
 | i::is,d::ds,a=>bP f is ds (a.set i (some (f d)))
 | _,_,a=>a
@[simp] noncomputable def cZ {α:Type}(f:D->α)(a:List (Option α)):Tg->D->Option (List (Option α))
 | .one i,d=>some (a.set i (some (f d)))
 | .many is,d=>match d with
  | .tup ds=>if ds.length=is.length then some (bP f is ds a) else none
  | _=>none
noncomputable def aC (f:D->R (Option KD)):List D->R (List KD)
 | []=>.ok []
 | x::xs=>(f x).bind fun o=>(aC f xs).bind fun ys=>.ok (match o with | some y=>y::ys | none=>ys)
@[simp] noncomputable def R.bl (r:R KD):R Bool:=r.bind fun x=>match x.2 with
 | .bl b=>.ok b
 | _=>.bad
@[simp] noncomputable def R.nox {α:Type}(r:R α):R α:=match r with | .exc _ _=>.bad | r=>r
noncomputable def gu {α:Type}(d:D)(t e b:α):α:=match d with
 | .bl c=>if c then t else e
 | _=>b
@[simp] theorem ki (c:Bool)(t e b:α):gu (.bl c) t e b=if c then t else e:=rfl
section
variable (G:Pg)(cl:Nat->List KD->Run)
@[simp] noncomputable def gM:Run->R KD
 | .ret k d []=>.ok (k,d)
 | .exc c fs []=>.exc c fs
 | _=>.bad
@[simp] noncomputable def fill (F:Fn)(vs:List KD):List KD:=vs++(F.dfl.drop (F.dfl.length - (F.np - vs.length))).map fun d=>(99,d)
@[simp] noncomputable def cP (f m:Nat):Option Fn:=match G.fn f with
 | some F=>if F.io=[]/\m<=F.np/\F.np - m<=F.dfl.length then some F else none
 | none=>none
noncomputable def aW (c m:Nat):Option (Nat×Fn×D):=match G.cl c with
 | some C=>match C.init with
  | some f=>match G.fn f with
   | some F=>if F.io=[0]/\m+1<=F.np/\F.np - (m+1)<=F.dfl.length/\m<=50 then some (f,F,if C.isx then .exc c [] else .ins c []) else none
   | none=>none
  | none=>none
 | none=>none
@[simp] noncomputable def made:Run->R KD
 | .ret _ .non [x]=>.ok x
 | .exc c fs _=>.exc c fs
 | _=>.bad
@[simp] noncomputable def eU (p:Nat×Fn×D)(vs:List KD):R KD:=made (cl p.1 ((1,p.2.2)::fill { p.2.1 with np:=p.2.1.np - 1 } vs))
noncomputable def bL (m k:Nat):D->Option (Nat×Fn)
 | .ins c fs=>match G.cl c with
  | some C=>match C.meths.lookup m with
   | some f=>match G.fn f with
    | some F=>if F.io=[]/\fs.lookup m=none/\k+1<=F.np/\F.np - (k+1)<=F.dfl.length then some (f,F) else none
    | none=>none
   | none=>none
  | none=>none
 | _=>none
@[simp] noncomputable def j7 (i:Int)(x:D):D->R KD
 | .int j=>R.of (aA (some i) (some j) x)
 | _=>.bad
mutual
noncomputable def eval (a:Sl):Ex->R KD
 | .var i=>match a[i]? with
  | some (some d)=>.ok (0,d)
  | _=>.bad
 | .cst d=>.ok (99,d)
 | .op o es=>(evals a es).bind fun vs=>R.of (aR G o vs)
 | .and x y=>(eval a x).bind fun v=>gu v.2 (eval a y) (kH false) .bad
 | .or x y=>(eval a x).bind fun v=>gu v.2 (kH true) (eval a y) .bad
 | .chain o p x y z=>(eval a x).bind fun u=>(eval a y).bind fun v=>(R.of (aR G o [u,v])).bind fun b=>gu b.2 ((eval a z).bind fun w=>R.of (aR G p [v,w])) (kH false) .bad
 | .sl2 x y z=>(eval a x).bind fun u=>(eval a y).bind fun v=>match v.2 with
  | .int i=>(eval a z).bind fun w=>j7 i u.2 w.2
  | _=>.bad
 | .comp caps tg wk it t e=>(evals a it).bind fun vs=>match df wk vs with
  | some xs=>if xs.length<=SL then
    ((aC (fun x=>match cZ id (caps.map (ce a)) tg x with
     | some b=>((evals b t).bind fun ts=>match ts with
      | []=>(eval b e).bind fun y=>.ok (some y)
      | [t]=>gu t.2 ((eval b e).bind fun y=>.ok (some y)) (.ok none) .bad
      | _=>.bad)
     | none=>.bad) xs).nox).bind fun ys=>.ok (aE ys+1,.lst (ys.map (·.2)))
   else .bad
  | none=>.bad
 | .call f es=>(R.of (cP G f es.length)).bind fun F=>(evals a es).bind fun vs=>gM (cl f (fill F vs))
 | .make c es=>(R.of (aW G c es.length)).bind fun p=>(evals a es).bind (eU cl p)
 | .meth m o es=>(eval a o).bind fun x=>(R.of (bL G m es.length x.2)).bind fun p=>(evals a es).bind fun vs=>gM (cl p.1 (fill p.2 (x::vs)))
 | .bad=>.bad
noncomputable def evals (a:Sl):List Ex->R (List KD)
 | []=>.ok []
 | e::es=>(eval a e).bind fun x=>(evals a es).bind fun xs=>.ok (x::xs)
end
@[simp] theorem cM (a:Sl):evals G cl a []=.ok []:=rfl
@[simp] theorem bh (a:Sl)(e:Ex)(es:List Ex):evals G cl a (e::es)=(eval G cl a e).bind fun x=>(evals G cl a es).bind fun xs=>.ok (x::xs):=rfl
noncomputable def compF (b0:Sl)(tg:Tg)(t:List Ex)(e:Ex)(x:D):R (Option KD):=match cZ id b0 tg x with
 | some b=>(evals G cl b t).bind fun ts=>match ts with
  | []=>(eval G cl b e).bind fun y=>.ok (some y)
  | [t]=>gu t.2 ((eval G cl b e).bind fun y=>.ok (some y)) (.ok none) .bad
  | _=>.bad
 | none=>.bad
@[simp] theorem gk (a:Sl)(i:Nat):eval G cl a (.var i)=match a[i]? with
  | some (some d)=>.ok (0,d)
  | _=>.bad:=rfl
@[simp] theorem kl (a:Sl)(d:D):eval G cl a (.cst d)=.ok (99,d):=rfl
@[simp] theorem bQ (a:Sl)(o:Op)(es:List Ex):eval G cl a (.op o es)=(evals G cl a es).bind fun vs=>R.of (aR G o vs):=rfl
@[simp] theorem lB (a:Sl)(x y:Ex):eval G cl a (.and x y)=(eval G cl a x).bind fun v=>gu v.2 (eval G cl a y) (kH false) .bad:=rfl
@[simp] theorem lw (a:Sl)(x y:Ex):eval G cl a (.or x y)=(eval G cl a x).bind fun v=>gu v.2 (kH true) (eval G cl a y) .bad:=rfl
@[simp] theorem qh (a:Sl)(o p:Op)(x y z:Ex):eval G cl a (.chain o p x y z)=(eval G cl a x).bind fun u=>(eval G cl a y).bind fun v=>(R.of (aR G o [u,v])).bind fun b=>
  gu b.2 ((eval G cl a z).bind fun w=>R.of (aR G p [v,w])) (kH false) .bad:=rfl
@[simp] theorem qL (a:Sl)(x y z:Ex):eval G cl a (.sl2 x y z)=(eval G cl a x).bind fun u=>(eval G cl a y).bind fun v=>match v.2 with
  | .int i=>(eval G cl a z).bind fun w=>j7 i u.2 w.2
  | _=>.bad:=rfl
@[simp] theorem iu (a:Sl)(f:Nat)(es:List Ex):eval G cl a (.call f es)=(R.of (cP G f es.length)).bind fun F=>(evals G cl a es).bind fun vs=>gM (cl f (fill F vs)):=rfl
@[simp] theorem kF (a:Sl)(f:Nat)(es:List Ex):eval G cl a (.make f es)=(R.of (aW G f es.length)).bind fun p=>(evals G cl a es).bind (eU cl p):=rfl
@[simp] theorem jI (a:Sl)(m:Nat)(o:Ex)(es:List Ex):eval G cl a (.meth m o es)=(eval G cl a o).bind fun x=>(R.of (bL G m es.length x.2)).bind fun p=>(evals G cl a es).bind fun vs=>gM (cl p.1 (fill p.2 (x::vs))):=rfl
@[simp] theorem fA (a:Sl):eval G cl a .bad=.bad:=rfl
@[simp] theorem kh (a:Sl)(caps:List (Option Nat))(tg:Tg)(wk:Wk)(it t:List Ex)(e:Ex):eval G cl a (.comp caps tg wk it t e)=(evals G cl a it).bind fun vs=>match df wk vs with
  | some xs=>if xs.length<=SL then ((aC (compF G cl (caps.map (ce a)) tg t e) xs).nox).bind fun ys=>.ok (aE ys+1,.lst (ys.map (·.2))) else .bad
  | none=>.bad:=by
 rfl
noncomputable abbrev Fr:=List (Option KD)
@[simp] noncomputable def Fr.sl (A:Fr):Sl:=A.map (Option.map (·.2))
inductive O where
 | nx (A:Fr) | ret (k:Nat) (d:D) (A:Fr) | brk (A:Fr) | cnt (A:Fr) | exc (c:Nat) (fs:List (Nat×D)) (A:Fr) | bad
mutual
@[simp] noncomputable def Ex.names:Ex->List Nat
 | .var i=>[i]
 | .cst _=>[]
 | .op _ es=>Ex.namess es
 | .and a b=>a.names++b.names
 | .or a b=>a.names++b.names
 | .chain _ _ a b c=>a.names++(b.names++c.names)
 | .sl2 a b c=>a.names++(b.names++c.names)
 | .comp caps _ _ it _ _=>caps.filterMap id++Ex.namess it
 | .call _ es=>Ex.namess es
 | .make _ es=>Ex.namess es
 | .meth _ o es=>o.names++Ex.namess es
 | .bad=>[]
@[simp] noncomputable def Ex.namess:List Ex->List Nat
 | []=>[]
 | e::es=>e.names++Ex.namess es
end
@[simp] noncomputable def frz1 (A:Fr)(i:Nat):Fr:=match A[i]? with
 | some (some (_,d))=>A.set i (some (0,d))
 | _=>A
@[simp] noncomputable def frz (ns:List Nat)(A:Fr):Fr:=ns.foldl frz1 A
noncomputable def bE (A:Fr):Fr:=A.map (Option.map fun x=>(0,x.2))
@[simp] noncomputable def settle (ns:List Nat)(A:Fr)(x:KD):Fr:=if x.2.fb x.1 then A else frz ns A
@[simp] noncomputable def excA (A:Fr)(fs:List (Nat×D)):Fr:=if fs.all fun p=>p.2.flat then A else bE A
@[simp] noncomputable def putF (f:Nat)(d:D):List (Nat×D)->List (Nat×D)
 | []=>[(f,d)]
 | (g,e)::r=>if g=f then (g,d)::r else (g,e)::putF f d r
noncomputable def bb (body:D->Fr->O):List D->Fr->O
 | [],A=>.nx A
 | x::xs,A=>match body x A with
  | .nx A=>bb body xs A
  | .cnt A=>bb body xs A
  | .brk A=>.nx A
  | o=>o
@[simp] noncomputable def R.toO {α:Type}(r:R α)(A:Fr)(f:α->O):O:=match r with
 | .ok a=>f a
 | .exc c fs=>.exc c fs (excA A fs)
 | .bad=>.bad
@[simp] noncomputable def O.seq (o:O)(f:Fr->O):O:=match o with
 | .nx A=>f A
 | o=>o
noncomputable def gE (m:Mu)(k:Nat)(xs:List D)(vs:List KD):Option KD:=match m,vs with
 | .append,[v]=>if xs.length<SL then some (bV k xs v+1,.lst (xs++[v.2])) else none
 | .extend,[v]=>match v.2 with
  | .tup ys=>if ys.all D.scal=true/\xs.length+ys.length<=SL then some (1,.lst (xs++ys)) else none
  | _=>none
 | _,_=>none
@[simp] theorem uE (k:Nat)(xs:List D)(v:KD):gE .append k xs [v]=if xs.length<SL then some (bV k xs v+1,.lst (xs++[v.2])) else none:=rfl
@[simp] theorem ue (k:Nat)(xs:List D)(v:KD):gE .extend k xs [v]=match v.2 with
  | .tup ys=>if ys.all D.scal=true/\xs.length+ys.length<=SL then some (1,.lst (xs++ys)) else none
  | _=>none:=rfl
section
variable (io:List Nat)
@[simp] noncomputable def bT (i:Nat)(x:KD)(A:Fr):O:=if io.contains i=false/\i<A.length then .nx (A.set i (some x)) else .bad
@[simp] noncomputable def setFs:List Nat->List KD->Fr->O
 | [],[],A=>.nx A
 | i::is,x::xs,A=>(bT io i x A).seq (setFs is xs)
 | _,_,_=>.bad
@[simp] noncomputable def bB (tg:Tg)(d:D)(A:Fr):O:=match tg,d with
 | .one i,d=>bT io i (0,d) A
 | .many is,.tup ds=>setFs io is (ds.map fun d=>(0,d)) A
 | _,_=>.bad
noncomputable def D.q1:D->Bool
 | .lst xs=>xs.all D.flat
 | d=>d.flat
noncomputable def D.q2:D->Bool
 | .ins _ fs=>fs.all fun p=>p.2.q1
 | d=>d.q1
noncomputable def eO:KD->Bool
 | (k,.tup [a,.exc _ fs])=>decide (k<=1)&&(a.flat&&fs.all fun p=>p.2.flat)
 | _=>false
noncomputable def cY (A:Fr)(i:Nat):Bool:=match A[i]? with
 | some (some y)=>y.2.q2
 | _=>true
noncomputable def settleT (ns:List Nat)(A:Fr)(x:KD):Fr:=if (eO x&&ns.all (cY A))=true then A else settle ns A x
@[simp] noncomputable def dG (io:List Nat)(is:List Nat)(e:Ex)(A:Fr)(x:KD):O:=match x.2 with
 | .tup ds=>setFs io is (ds.map fun d=>(0,d)) (settleT e.names A x)
 | _=>.bad
noncomputable def b9 (A:Fr)(e:Ex)(r:R KD):O:=match e with
 | .var i=>match A[i]? with
  | some (some x)=>.ret x.1 x.2 (A.set i none)
  | _=>.bad
 | e=>r.toO A fun x=>.ret x.1 x.2 (settle e.names A x)
@[simp] theorem vO (A:Fr)(i:Nat)(r:R KD):b9 A (.var i) r=match A[i]? with
  | some (some x)=>.ret x.1 x.2 (A.set i none)
  | _=>.bad:=rfl
@[simp] theorem retO_cst (A:Fr)(d:D)(r:R KD):b9 A (.cst d) r=r.toO A fun x=>.ret x.1 x.2 (settle (Ex.cst d).names A x):=rfl
@[simp] theorem retO_op (A:Fr)(o:Op)(es:List Ex)(r:R KD):b9 A (.op o es) r=r.toO A fun x=>.ret x.1 x.2 (settle (Ex.op o es).names A x):=rfl
@[simp] theorem retO_and (A:Fr)(x y:Ex)(r:R KD):b9 A (.and x y) r=r.toO A fun z=>.ret z.1 z.2 (settle (Ex.and x y).names A z):=rfl
@[simp] theorem retO_or (A:Fr)(x y:Ex)(r:R KD):b9 A (.or x y) r=r.toO A fun z=>.ret z.1 z.2 (settle (Ex.or x y).names A z):=rfl
@[simp] theorem retO_chain (A:Fr)(o p:Op)(x y w:Ex)(r:R KD):b9 A (.chain o p x y w) r=r.toO A fun z=>.ret z.1 z.2 (settle (Ex.chain o p x y w).names A z):=rfl
@[simp] theorem retO_sl2 (A:Fr)(x y w:Ex)(r:R KD):b9 A (.sl2 x y w) r=r.toO A fun z=>.ret z.1 z.2 (settle (Ex.sl2 x y w).names A z):=rfl
@[simp] theorem retO_comp (A:Fr)(caps:List (Option Nat))(tg:Tg)(wk:Wk)(it t:List Ex)(e:Ex)(r:R KD):b9 A (.comp caps tg wk it t e) r=r.toO A fun z=>.ret z.1 z.2 (settle (Ex.comp caps tg wk it t e).names A z):=rfl
@[simp] theorem retO_call (A:Fr)(f:Nat)(es:List Ex)(r:R KD):b9 A (.call f es) r=r.toO A fun z=>.ret z.1 z.2 (settle (Ex.call f es).names A z):=rfl
@[simp] theorem retO_make (A:Fr)(f:Nat)(es:List Ex)(r:R KD):b9 A (.make f es) r=r.toO A fun z=>.ret z.1 z.2 (settle (Ex.make f es).names A z):=rfl
@[simp] theorem retO_meth (A:Fr)(f:Nat)(o:Ex)(es:List Ex)(r:R KD):b9 A (.meth f o es) r=r.toO A fun z=>.ret z.1 z.2 (settle (Ex.meth f o es).names A z):=rfl
@[simp] theorem retO_bad (A:Fr)(r:R KD):b9 A .bad r=r.toO A fun z=>.ret z.1 z.2 (settle Ex.bad.names A z):=rfl
@[simp] noncomputable def fe (ns:List Nat)(A:Fr)(x:KD):O:=match x with
 | (_+1,.exc c fs)=>.exc c fs (excA (settle ns A x) fs)
 | _=>.bad
@[simp] noncomputable def fE (m:Mu)(vs:List KD)(A:Fr)(x:Nat):Option (Option KD)->O
 | some (some (k+1,.lst xs))=>match gE m k xs vs with
  | some y=>.nx (A.set x (some y))
  | none=>.bad
 | _=>.bad
noncomputable def pP (m:Mu)(vs:List KD)(A:Fr)(x:Nat)(i:Int):Option (Option KD)->O
 | some (some (k+2,.lst xs))=>match ef xs.length i with
  | some j=>match xs[j]? with
   | some (.lst ys)=>match gE m k ys vs with
    | some y=>.nx (A.set x (some (bV (k+1) (xs.eraseIdx j) y+1,.lst (xs.set j y.2))))
    | none=>.bad
   | _=>.bad
  | none=>.bad
 | _=>.bad
@[simp] noncomputable def cO:Option (Option KD)->Bool
 | some (some (_,.lst _))=>true
 | _=>false
@[simp] noncomputable def eM (m:Mu)(A:Fr)(x:Nat)(es:List Ex)(ps vs:List KD):O:=
 let A1:=if vs.all (fun v=>v.2.fb v.1) then A else frz (Ex.namess es) A
 match ps with
 | []=>fE m vs A1 x A1[x]?
 | [(_,.int i)]=>pP m vs A1 x i A1[x]?
 | _=>.bad
@[simp] noncomputable def gP (A:Fr)(x:Nat)(v w:KD):Option (Option KD)->O
 | some (some (k+1,.lst xs))=>match w.2 with
  | .int i=>if 0<=i/\i<xs.length then .nx (A.set x (some (1,.lst (xs.set i.toNat v.2)))) else .bad
  | _=>.bad
 | _=>.bad
@[simp] noncomputable def fk (A:Fr)(x f:Nat)(v:KD):Option (Option KD)->O
 | some (some (k+1,.ins c fs))=>if fs.length<50 then .nx (A.set x (some (bV k (fs.map (·.2)) v+1,.ins c (putF f v.2 fs)))) else .bad
 | some (some (k+1,.exc c fs))=>if fs.length<50 then .nx (A.set x (some (bV k (fs.map (·.2)) v+1,.exc c (putF f v.2 fs)))) else .bad
 | _=>.bad
@[simp] noncomputable def fY (A:Fr):List KD->O
 | (_,.exc _ _)::_=>.nx A
 | _=>.bad
@[simp] noncomputable def gC (G:Pg)(io:List Nat)(c i x:Nat):O->O
 | .exc c' fs A'=>if ao G (.exc c' fs) (.cls c)=true then (bT io x (0,.exc c' fs) A').seq fun A=>if io.contains i=false/\i≠x/\i<A.length then .nx (A.set i none) else .bad else .bad
 | o=>o
@[simp] noncomputable def kB (G:Pg)(loop:List D->Fr->O)(wk:Wk)(it:List Ex)(A:Fr)(vs:List KD):O:=match df wk vs with
 | some xs=>if xs.length<=SL then loop xs (frz (Ex.namess it) A) else .bad
 | none=>.bad
mutual
noncomputable def exec (A:Fr):S->O
 | .set i e=>(eval G cl A.sl e).toO A fun x=>bT io i x (settle e.names A x)
 | .setT is e=>(eval G cl A.sl e).toO A (dG io is e A)
 | .ret e=>b9 A e (eval G cl A.sl e)
 | .ex e=>(eval G cl A.sl e).toO A fun x=>.nx (settle e.names A x)
 | .iff c t e=>((eval G cl A.sl c).bl).toO A fun b=>if b then execs A t else execs A e
 | .fo tg wk it b=>(evals G cl A.sl it).toO A (kB G (bb fun x A=>(bB io tg x A).seq fun A=>execs A b) wk it A)
 | .brk=>.brk A
 | .cnt=>.cnt A
 | .pass=>.nx A
 | .rais c es=>(eval G cl A.sl (.make c es)).toO A (fe (Ex.make c es).names A)
 | .mut x path m es=>if cO A[x]? then (evals G cl A.sl path).toO A fun ps=>(evals G cl A.sl es).toO A (eM m A x es ps) else .bad
 | .put x path i e=>if path.isEmpty=true then (eval G cl A.sl e).toO A fun v=>(eval G cl A.sl i).toO A fun w=>gP (settle e.names A v) x v w (settle e.names A v)[x]? else .bad
 | .sfld x f e=>(eval G cl A.sl e).toO A fun v=>fk (settle e.names A v) x f v (settle e.names A v)[x]?
 | .xinit es=>(evals G cl A.sl es).toO A (fY A)
 | .tryE b c i x=>gC G io c i x (execs A b)
 | .raisV c=>.exc c [] (excA A [])
 | .bad=>.bad
noncomputable def execs (A:Fr):List S->O
 | []=>.nx A
 | s::ss=>(exec A s).seq fun A=>execs A ss
end
end
end
section
variable (G:Pg)(cl:Nat->List KD->Run)(io:List Nat)
@[simp] theorem sE (A:Fr):execs G cl io A []=.nx A:=rfl
@[simp] theorem k8 (A:Fr)(s:S)(ss:List S):execs G cl io A (s::ss)=(exec G cl io A s).seq fun A=>execs G cl io A ss:=rfl
noncomputable def eJ (tg:Tg)(b:List S)(x:D)(A:Fr):O:=(bB io tg x A).seq fun A=>execs G cl io A b
@[simp] theorem kK (A:Fr)(i:Nat)(e:Ex):exec G cl io A (.set i e)=(eval G cl A.sl e).toO A fun x=>bT io i x (settle e.names A x):=rfl
@[simp] theorem oX (A:Fr)(is:List Nat)(e:Ex):exec G cl io A (.setT is e)=(eval G cl A.sl e).toO A (dG io is e A):=rfl
@[simp] theorem og (A:Fr)(e:Ex):exec G cl io A (.ret e)=b9 A e (eval G cl A.sl e):=rfl
@[simp] theorem nI (A:Fr)(e:Ex):exec G cl io A (.ex e)=(eval G cl A.sl e).toO A fun x=>.nx (settle e.names A x):=rfl
@[simp] theorem ve (A:Fr)(c:Ex)(t e:List S):exec G cl io A (.iff c t e)=((eval G cl A.sl c).bl).toO A fun b=>if b then execs G cl io A t else execs G cl io A e:=rfl
@[simp] theorem exec_brk (A:Fr):exec G cl io A .brk=.brk A:=rfl
@[simp] theorem exec_cnt (A:Fr):exec G cl io A .cnt=.cnt A:=rfl
@[simp] theorem exec_pass (A:Fr):exec G cl io A .pass=.nx A:=rfl
@[simp] theorem uj (A:Fr)(c:Nat)(es:List Ex):exec G cl io A (.rais c es)=(eval G cl A.sl (.make c es)).toO A (fe (Ex.make c es).names A):=rfl
@[simp] theorem nk (A:Fr)(x:Nat)(path:List Ex)(m:Mu)(es:List Ex):exec G cl io A (.mut x path m es)=if cO A[x]? then (evals G cl A.sl path).toO A fun ps=>(evals G cl A.sl es).toO A (eM m A x es ps) else .bad:=rfl
@[simp] theorem qp (A:Fr)(x:Nat)(path:List Ex)(i e:Ex):exec G cl io A (.put x path i e)=if path.isEmpty=true then (eval G cl A.sl e).toO A fun v=>(eval G cl A.sl i).toO A fun w=>gP (settle e.names A v) x v w (settle e.names A v)[x]? else .bad:=rfl
@[simp] theorem yM (A:Fr)(x f:Nat)(e:Ex):exec G cl io A (.sfld x f e)=(eval G cl A.sl e).toO A fun v=>fk (settle e.names A v) x f v (settle e.names A v)[x]?:=rfl
@[simp] theorem EL (A:Fr)(es:List Ex):exec G cl io A (.xinit es)=(evals G cl A.sl es).toO A (fY A):=rfl
@[simp] theorem tR (A:Fr)(b:List S)(c i x:Nat):exec G cl io A (.tryE b c i x)=gC G io c i x (execs G cl io A b):=rfl
@[simp] theorem uR (A:Fr)(c:Nat):exec G cl io A (.raisV c)=.exc c [] (excA A []):=rfl
@[simp] theorem wI (A:Fr):exec G cl io A .bad=.bad:=rfl
@[simp] theorem pb (A:Fr)(tg:Tg)(wk:Wk)(it:List Ex)(b:List S):exec G cl io A (.fo tg wk it b)=(evals G cl A.sl it).toO A (kB G (bb (eJ G cl io tg b)) wk it A):=by
 rfl
end
theorem vt (h:x.2.flat=true):aJ j x=true:=by simp[aJ,h]
@[simp] theorem joinK_nil:aE []=98:=rfl
@[simp] theorem lU (h:x.2.flat=true):aE (x::xs)=aE xs:=by
 have h2:∀j,aJ j x=true:=fun j=>vt h;unfold aE;rw[List.find?_cons_of_neg (by simp[h])];cases xs.find? fun x=>!x.2.flat with
 | none=>rfl
 | some y=>
  show (if (aJ y.1 x&&xs.all (aJ y.1))=true then y.1 else 0)=if xs.all (aJ y.1)=true then y.1 else 0
  rw[h2 y.1,Bool.true_and]
@[simp] noncomputable def outs (A:Fr):List Nat->Option (List KD)
 | []=>some []
 | i::is=>match A[i]? with
  | some (some x)=>(outs A is).map fun xs=>x::xs
  | _=>none
@[simp] noncomputable def fin (io:List Nat):O->Run
 | .nx A=>match outs A io with
  | some xs=>.ret 99 .non xs
  | none=>.bad
 | .ret k d A=>match outs A io with
  | some xs=>.ret k d xs
  | none=>.bad
 | .exc c fs A=>match outs A io with
  | some xs=>.exc c fs xs
  | none=>.bad
 | _=>.bad
@[simp] noncomputable def bi (F:Fn)(vs:List KD):Fr:=vs.mapIdx (fun i v=>if F.io.contains i then some v else some (0,v.2))++List.replicate (F.ns - F.np) none
noncomputable def run (G:Pg):Nat->Nat->List KD->Run
 | 0,_,_=>.bad
 | n+1,f,vs=>match G.fn f with
  | some F=>if vs.length=F.np then fin F.io (execs G (run G n) F.io (bi F vs) F.body) else .bad
  | none=>.bad
end
end Ip
end
section
namespace Ip
open PySem
structure Tb where
 fns:List (Str×Nat)
 cls:List (Str×Nat)
 wb:Str
 att:List Str
 fl:List Nat
 cst:List (Str×D)
 bare:List (Str×Nat)
noncomputable def pos? (x:Str):List Str->Option Nat
 | []=>none
 | y::ys=>if y == x then some 0 else (pos? x ys).map (·+1)
theorem pos?_get:∀{l:List Str} {i:Nat},pos? x l=some i->l[i]? = some x
 | [],_,h=>by simp[pos?] at h
 | y::ys,i,h=>by
  unfold pos? at h;by_cases e:(y == x)=true
  ·rw[if_pos e] at h;cases h;simpa using e
  ·rw[if_neg e] at h;cases q:pos? x ys with
   | none=>rw[q] at h; cases h
   | some j=>rw[q] at h; cases h; simpa using pos?_get q
noncomputable def pA:Operator->Option Op
 | .Add=>some .add | .Sub=>some .sub | .Mult=>some .mul | .FloorDiv=>some .fdiv | .Mod=>some .mod | .Pow=>some .pow | .RShift=>some .shr
 | _=>none
noncomputable def ft:CmpOp->Option Op
 | .Eq=>some .eq | .NotEq=>some .ne | .Lt=>some .lt | .LtE=>some .le | .Gt=>some .gt | .GtE=>some .ge | .In=>some .isin | .NotIn=>some .nin
 | _=>none
noncomputable def aM (sc:Scope)(x:Str):Bool:=sc.names.lookup x == some .globalImplicit
noncomputable def aL (sc:Scope)(x:Str):Bool:=sc.names.lookup x == some .local||sc.names.lookup x == some .cell||sc.names.lookup x == some .free
noncomputable def aY (sc:Scope)(x:Str):Bool:=sc.names.lookup x == some .local||sc.names.lookup x == some .cell
noncomputable def lR:List (Str×Op):=[("len",.len),("list",.list),("tuple",.tuple),("all",.all),("any",.any),("int",.toInt),("min",.min1)]
noncomputable def jf:List (Str×Ty):=[("int",.int),("bool",.bool),("str",.str),("list",.list),("tuple",.tuple),("dict",.dict),("ValueError",.verr)]
noncomputable def dO (T:Tb)(sc:Scope):Expr->Option Ty
 | .Name x _=>if aM sc x then (match T.cls.lookup x with
  | some c=>some (.cls c)
  | none=>jf.lookup x) else none
 | _=>none
noncomputable def cU (T:Tb)(sc:Scope):Expr->Option (List Ty)
 | .Tuple es _ _=>if es.length<=1000 then es.mapM (dO T sc) else none
 | e=>(dO T sc e).map fun t=>[t]
noncomputable def cu (sc:Scope)(N N':List Str)(caps:List (Option Nat))(scope:Scope):Bool:=
 scope.kind == .function&&scope.names.all (fun y=>(y.2 != .cell||scope.names.lookup y.1 == some .cell)&&(y.2 != .local||scope.names.lookup y.1 == some .local)&&(y.2 != .free||(sc.names.lookup y.1 == some .cell||sc.names.lookup y.1 == some .free))) &&
 caps.length == N'.length&&decide N'.Nodup&&(caps.zip N').all fun p=>match p.1 with
  | none=>true
  | some j=>N[j]? == some p.2&&scope.names.lookup p.2 == some .free
noncomputable def au (scope:Scope):List Str:=(scope.names.filter fun y=>y.2 == .local||y.2 == .cell||y.2 == .free).map (·.1)
noncomputable def aH (N:List Str)(scope:Scope):List (Option Nat):=(scope.names.filter fun y=>y.2 == .local||y.2 == .cell||y.2 == .free).map fun y=>if y.2 == .free then pos? y.1 N else none
noncomputable def ci (sc:Scope)(N:List Str):Expr->Option Tg
 | .Name x _=>if aY sc x then (pos? x N).map .one else none
 | .Tuple es _ _=>(es.mapM fun (e:Expr)=>match e with
  | .Name x _=>if aY sc x then pos? x N else none
  | _=>none).map .many
 | _=>none
theorem um (sc:Scope)(N:List Str)(x:Str)(p:Pos):ci sc N (.Name x p)=if aY sc x then (pos? x N).map .one else none:=rfl
theorem zq (sc:Scope)(N:List Str)(es:List Expr)(k:Nat)(p:Pos):ci sc N (.Tuple es k p)=(es.mapM fun (e:Expr)=>match e with
  | .Name x _=>if aY sc x then pos? x N else none
  | _=>none).map .many:=rfl
noncomputable def ar (x:Str):Bool:=!(x == ("__debug__" : Str))&&!(x == ("__classdict__" : Str))
noncomputable def cj:Expr->Bool
 | .Set _ _ _=>false
 | _=>true
noncomputable def hU:CmpOp->Option Op
 | .Eq=>some .eq | .NotEq=>some .ne | .Lt=>some .lt | .LtE=>some .le | .Gt=>some .gt | .GtE=>some .ge
 | _=>none
noncomputable def isNone:Expr->Bool
 | .Constant .none _ _=>true
 | _=>false
noncomputable def noStar (es:List Expr):Bool:=es.all fun e=>match e with
 | .Starred _ _=>false
 | _=>true
noncomputable def eS:Expr->Bool
 | .Call (.Name _ _) [] [] _=>false
 | _=>true
noncomputable def dD:Wk->Tg->Bool
 | .enum,.one _=>false
 | .zip,.one _=>false
 | _,_=>true
noncomputable def cq:Tg->List Nat
 | .one i=>[i]
 | .many is=>is
noncomputable def bv:Expr->Option Str
 | .Name x _=>some x
 | _=>none
noncomputable def gi:Expr->Option (Expr×List Expr×List Keyword×Pos)
 | .Call f a k p=>some (f,a,k,p)
 | _=>none
noncomputable def fQ:Expr->Option (Expr×Str×Pos)
 | .Attribute o m p=>some (o,m,p)
 | _=>none
noncomputable def j9:Stmt->Option (List Expr×Expr×Pos)
 | .Assign ts e p=>some (ts,e,p)
 | _=>none
noncomputable def cK:ExceptHandler->Option Expr×Option Str×List Stmt×Pos
 | .ExceptHandler t n b p=>(t,n,b,p)
theorem gq (h:bv e=some x):∃p,e=.Name x p:=by
 cases e <;> first | exact (dm h).elim | exact⟨_,congrArg (fun x=>Expr.Name x _) (bO h)⟩
theorem rV (h:gi e=some x):e=.Call x.1 x.2.1 x.2.2.1 x.2.2.2:=by
 cases e <;> first | exact (dm h).elim | exact congrArg (fun x:Expr×List Expr×List Keyword×Pos=>Expr.Call x.1 x.2.1 x.2.2.1 x.2.2.2) (bO h)
theorem sP (h:fQ e=some x):e=.Attribute x.1 x.2.1 x.2.2:=by
 cases e <;> first | exact (dm h).elim | exact congrArg (fun x:Expr×Str×Pos=>Expr.Attribute x.1 x.2.1 x.2.2) (bO h)
theorem E5 (h:j9 l=some x):l=.Assign x.1 x.2.1 x.2.2:=by
 cases l <;> first | exact (dm h).elim | exact congrArg (fun x:List Expr×Expr×Pos=>Stmt.Assign x.1 x.2.1 x.2.2) (bO h)
theorem CY (h:ExceptHandler):h=.ExceptHandler (cK h).1 (cK h).2.1 (cK h).2.2.1 (cK h).2.2.2:=by cases h; rfl
noncomputable def lI:Expr->Option (Expr×Expr×Pos)
 | .Subscript a i p=>some (a,i,p)
 | _=>none
theorem zD (h:lI e=some x):e=.Subscript x.1 x.2.1 x.2.2:=by
 cases e <;> first | exact (dm h).elim | (cases h; rfl)
noncomputable def i7 (e:Expr):Option (Str×Str):=(lI e).bind fun t=>(bv t.1).bind fun x=>(bv t.2.1).map fun j=>(x,j)
theorem Ac (h:i7 e=some (x,j)):∃p1 p2 p3,e=.Subscript (.Name x p1) (.Name j p2) p3:=by
 obtain⟨t,n1,r1⟩:=dL h;obtain⟨x',n2,r2⟩:=dL r1;obtain⟨j',n3,r3⟩:=cy r2;cases r3;obtain⟨p1,e1⟩:=gq n2;obtain⟨p2,e2⟩:=gq n3;exact⟨p1,p2,t.2.2,by rw[zD n1,e1,e2]⟩
noncomputable def jl:Expr->Option (List Expr×Nat×Pos)
 | .Tuple es k p=>some (es,k,p)
 | _=>none
theorem zt (h:jl e=some x):e=.Tuple x.1 x.2.1 x.2.2:=by
 cases e <;> first | exact (dm h).elim | (cases h; rfl)
noncomputable def jG (e:Expr):Option (Str×Str):=(fQ e).bind fun t=>(bv t.1).map fun x=>(x,t.2.1)
theorem AS (h:jG e=some (x,f)):∃p1 p2,e=.Attribute (.Name x p1) f p2:=by
 obtain⟨t,n1,r1⟩:=dL h;obtain⟨x',n2,r2⟩:=cy r1;cases r2;obtain⟨p1,e1⟩:=gq n2;exact⟨p1,t.2.2,by rw[sP n1,e1]⟩
noncomputable def gK (e:Expr):Option (Str×List Expr):=(gi e).bind fun t=>(bv t.1).bind fun x=>if t.2.2.1.isEmpty=true then some (x,t.2.1) else none
theorem vH (h:gK e=some (x,a)):∃p1 p2,e=.Call (.Name x p1) a [] p2:=by
 obtain⟨t,n1,r1⟩:=dL h;obtain⟨x',n2,r2⟩:=dL r1;by_cases c:t.2.2.1.isEmpty=true
 rotate_left
 ·rw[if_neg c] at r2; exact (dm r2).elim
 rw[if_pos c] at r2;cases r2;obtain⟨p1,e1⟩:=gq n2;exact⟨p1,t.2.2.2,by rw[rV n1,e1,List.isEmpty_iff.mp c]⟩
noncomputable def mo:Expr->Bool
 | .ListComp _ _ _ _=>true
 | _=>false
noncomputable def jz (e:Expr):Option (Str×Str×Pos×List Expr×Pos):=(gi e).bind fun c=>(fQ c.1).bind fun t=>(bv t.1).bind fun x=>if c.2.2.1.isEmpty=true then some (x,t.2.1,t.2.2,c.2.1,c.2.2.2) else none
theorem AQ (h:jz e=some (x,f,mp,a,cp)):∃p1,e=.Call (.Attribute (.Name x p1) f mp) a [] cp:=by
 obtain⟨t,n1,r1⟩:=dL h;obtain⟨u,n2,r2⟩:=dL r1;obtain⟨x',n3,r3⟩:=dL r2;by_cases c:t.2.2.1.isEmpty=true
 rotate_left
 ·rw[if_neg c] at r3; exact (dm r3).elim
 rw[if_pos c] at r3;cases r3;obtain⟨p1,e1⟩:=gq n3;exact⟨p1,by rw[rV n1,sP n2,e1,List.isEmpty_iff.mp c]⟩
noncomputable def lM (sc:Scope)(f:Str)(a:Expr):Option Expr:=(gK a).bind fun c=>if c.2.length=1/\(aM sc c.1&&noStar c.2&&f == ("sorted" : Str)&&c.1 == ("set" : Str))=true then c.2.head? else none
theorem Ca (h:lM sc f a=some b):∃p1 p2,a=.Call (.Name "set" p1) [b] [] p2/\aM sc "set" = true/\noStar [b]=true/\f = "sorted":=by
 unfold lM at h;obtain⟨c,n1,r1⟩:=dL h;obtain⟨p1,p2,e1⟩:=vH n1;by_cases c1:c.2.length=1/\(aM sc c.1&&noStar c.2&&f == ("sorted" : Str)&&c.1 == ("set" : Str))=true
 rotate_left
 ·rw[if_neg c1] at r1; exact (dm r1).elim
 rw[if_pos c1] at r1;obtain⟨l1,l2⟩:=c1;obtain⟨x,ex⟩:=List.length_eq_one_iff.mp l1;simp only[Bool.and_eq_true,beq_iff_eq] at l2;obtain⟨⟨⟨q1,q2⟩,q3⟩,q4⟩:=l2;rw[ex] at r1 q2;have r2:x=b:=bO r1;subst r2;rw[q4] at q1;exact⟨p1,p2,by rw[e1,q4,ex],q1,q2,q3⟩
section
variable (T:Tb)
noncomputable def pv? (x:Str)(N:List Str)(f:Nat->Ex):Ex:=match pos? x N with
 | some i=>f i
 | none=>.bad
noncomputable def kD (m:Str):Option Op:=if m == ("index" : Str) then some .index else if m == ("count" : Str) then some .count else none
noncomputable def fG:Ex->Bool
 | .var _=>true
 | .cst _=>true
 | _=>false
mutual
noncomputable def cE (sc:Scope)(N:List Str):Nat->Expr->Ex
 | 0,_=>.bad
 | n+1,.Name x _=>if aL sc x&&ar x then pv? x N .var else if aM sc x then (match T.cst.lookup x with | some d=>.cst d | none=>.bad) else .bad
 | n+1,.Constant c _ _=>match c with
  | .none=>.cst .non
  | .bool b=>.cst (.bl b)
  | .int i=>.cst (.int i)
  | .str s=>.cst (.str s)
  | _=>.bad
 | n+1,.BinOp a o b _=>match pA o with
  | some o=>.op o [cE sc N n a,cE sc N n b]
  | none=>.bad
 | n+1,.UnaryOp o a _=>match o with
  | .Not=>.op .not [cE sc N n a]
  | .USub=>.op .neg [cE sc N n a]
  | _=>.bad
 | n+1,.BoolOp o es p=>match es with
  | []=>.bad
  | [a]=>cE sc N n a
  | a::b::es=>match o with
   | .And=>.and (cE sc N n a) (cE sc N n (.BoolOp o (b::es) p))
   | .Or=>.or (cE sc N n a) (cE sc N n (.BoolOp o (b::es) p))
 | n+1,.Compare a os bs _=>match os,bs with
  | [o],[b]=>match o with
   | .Is=>if isNone b then .op .isN [cE sc N n a] else .bad
   | .IsNot=>if isNone b then .op .notN [cE sc N n a] else .bad
   | o=>match ft o with
    | some o=>if cj b then .op o [cE sc N n a,cE sc N n b] else .bad
    | none=>.bad
  | [o,p],[b,c]=>match hU o,hU p with
   | some o,some p=>.chain o p (cE sc N n a) (cE sc N n b) (cE sc N n c)
   | _,_=>.bad
  | _,_=>.bad
 | n+1,.List es _=>if es.length<=1000 then .op .lst (es.map (cE sc N n)) else .bad
 | n+1,.Tuple es _ _=>if es.length<=1000 then .op .tup (es.map (cE sc N n)) else .bad
 | n+1,.Subscript a i _=>match i with
  | .Slice lo hi st _=>match lo,hi,st with
   | some l,none,none=>.op .slL [cE sc N n a,cE sc N n l]
   | none,some l,none=>.op .slH [cE sc N n a,cE sc N n l]
   | some l,some h,none=>.sl2 (cE sc N n a) (cE sc N n l) (cE sc N n h)
   | _,_,_=>.bad
  | i=>.op .ix [cE sc N n a,cE sc N n i]
 | n+1,.Attribute o f _=>match pos? f T.att with
  | some k=>if T.fl.contains k&&eS o then .op (.fld k) [cE sc N n o] else .bad
  | none=>.bad
 | n+1,.ListComp e gs scope _=>match gs with
  | [⟨tg,iter,ifs,as⟩]=>
   if cu sc N (au scope) (aH N scope) scope&&as == 0&&decide (ifs.length<=1) then
    match ci scope (au scope) tg with
    | some g=>if dD (cI sc N n iter).1 g&&(cq g).all (fun i=>(aH N scope)[i]? == some none) then
      .comp (aH N scope) g (cI sc N n iter).1 (cI sc N n iter).2 (ifs.map (cT scope (au scope) n)) (cE scope (au scope) n e)
     else .bad
    | none=>.bad
   else .bad
  | _=>.bad
 | n+1,.Call f args kws cp=>match kws with
  | []=>match f with
   | .Name f _=>if aM sc f then
     match T.fns.lookup f with
     | some k=>if noStar args then .call k (args.map (cE sc N n)) else .bad
     | none=>match T.cls.lookup f with
      | some c=>if noStar args then .make c (args.map (cE sc N n)) else .bad
      | none=>cB sc N n f args
    else .bad
   | .Attribute o m ap=>match pos? m T.att with
     | some k=>if eS o&&noStar args&&decide (args.length<30)&&ap.endLine == cp.line then .meth k (cE sc N n o) (args.map (cE sc N n)) else .bad
     | none=>match args with
      | [a]=>match kD m with
       | some q=>if fG (cE sc N n a)&&eS o&&noStar [a]&&ap.endLine == cp.line then .op q [cE sc N n o,cE sc N n a] else .bad
       | none=>.bad
      | _=>.bad
   | _=>.bad
  | _=>.bad
 | _,_=>.bad
noncomputable def cT (sc:Scope)(N:List Str):Nat->Expr->Ex
 | 0,_=>.bad
 | n+1,.BoolOp o es p=>match es with
  | []=>.bad
  | [a]=>cT sc N n a
  | a::b::es=>match o with
   | .And=>.and (cT sc N n a) (cT sc N n (.BoolOp o (b::es) p))
   | .Or=>.or (cT sc N n a) (cT sc N n (.BoolOp o (b::es) p))
 | n+1,.UnaryOp .Not a _=>.op .not [cT sc N n a]
 | n+1,.IfExp _ _ _ _=>.bad
 | n+1,e=>cE sc N n e
noncomputable def cB (sc:Scope)(N:List Str):Nat->Str->List Expr->Ex
 | 0,_,_=>.bad
 | n+1,f,args=>match args with
  | [a]=>match lM sc f a with
   | some b=>.op .srtSet [cE sc N n b]
   | none=>match lR.lookup f with
    | some o=>.op o [cE sc N n a]
    | none=>.bad
  | [a,b]=>if f == ("isinstance" : Str) then (match cU T sc b with
    | some ts=>.op (.isi ts) [cE sc N n a]
    | none=>.bad)
   else if f == ("max" : Str)&&noStar [a,b] then .op .max2 [cE sc N n a,cE sc N n b]
   else .bad
  | _=>.bad
noncomputable def cI (sc:Scope)(N:List Str):Nat->Expr->Wk×List Ex
 | 0,_=>(.seq,[.bad])
 | n+1,e=>match e with
  | .Call (.Name f p) args [] q=>
   if aM sc f&&f == ("range" : Str)&&noStar args then match args with
    | [a]=>(.rng1,[cE sc N n a])
    | _=>(.seq,[.bad])
   else if aM sc f&&f == ("enumerate" : Str)&&noStar args then match args with
    | [a]=>(.enum,[cE sc N n a])
    | _=>(.seq,[.bad])
   else if aM sc f&&f == ("zip" : Str)&&noStar args then match args with
    | [a,b]=>(.zip,[cE sc N n a,cE sc N n b])
    | _=>(.seq,[.bad])
   else (.seq,[cE sc N n (.Call (.Name f p) args [] q)])
  | e=>(.seq,[cE sc N n e])
end
theorem xP (sc:Scope)(N:List Str)(n:Nat)(x:Str)(p:Pos):cE T sc N (n+1) (.Name x p)=if aL sc x&&ar x then pv? x N .var else if aM sc x then (match T.cst.lookup x with | some d=>.cst d | none=>.bad) else .bad:=rfl
theorem pf (sc:Scope)(N:List Str)(n:Nat)(a:Expr)(os:List CmpOp)(bs:List Expr)(p:Pos):cE T sc N (n+1) (.Compare a os bs p)=match os,bs with
  | [o],[b]=>match o with
   | .Is=>if isNone b then .op .isN [cE T sc N n a] else .bad
   | .IsNot=>if isNone b then .op .notN [cE T sc N n a] else .bad
   | o=>match ft o with
    | some o=>if cj b then .op o [cE T sc N n a,cE T sc N n b] else .bad
    | none=>.bad
  | [o,p],[b,c]=>match hU o,hU p with
   | some o,some p=>.chain o p (cE T sc N n a) (cE T sc N n b) (cE T sc N n c)
   | _,_=>.bad
  | _,_=>.bad:=rfl
theorem wQ (sc:Scope)(N:List Str)(n:Nat)(c a b:Expr)(p:Pos):cE T sc N (n+1) (.IfExp c a b p)=.bad:=rfl
theorem DQ (sc:Scope)(N:List Str)(n:Nat)(es:List Expr)(p:Pos):cE T sc N (n+1) (.List es p)=if es.length<=1000 then .op .lst (es.map (cE T sc N n)) else .bad:=rfl
theorem Cw (sc:Scope)(N:List Str)(n:Nat)(es:List Expr)(k:Nat)(p:Pos):cE T sc N (n+1) (.Tuple es k p)=if es.length<=1000 then .op .tup (es.map (cE T sc N n)) else .bad:=rfl
theorem nU (sc:Scope)(N:List Str)(n:Nat)(a i:Expr)(p:Pos):cE T sc N (n+1) (.Subscript a i p)=match i with
  | .Slice lo hi st _=>match lo,hi,st with
   | some l,none,none=>.op .slL [cE T sc N n a,cE T sc N n l]
   | none,some l,none=>.op .slH [cE T sc N n a,cE T sc N n l]
   | some l,some h,none=>.sl2 (cE T sc N n a) (cE T sc N n l) (cE T sc N n h)
   | _,_,_=>.bad
  | i=>.op .ix [cE T sc N n a,cE T sc N n i]:=rfl
theorem DH (sc:Scope)(N:List Str)(n:Nat)(o:Expr)(f:Str)(p:Pos):cE T sc N (n+1) (.Attribute o f p)=match pos? f T.att with
  | some k=>if T.fl.contains k&&eS o then .op (.fld k) [cE T sc N n o] else .bad
  | none=>.bad:=rfl
theorem rh (sc:Scope)(N:List Str)(n:Nat)(e:Expr)(gs:List Comprehension)(scope:Scope)(p:Pos):cE T sc N (n+1) (.ListComp e gs scope p)=match gs with
  | [⟨tg,iter,ifs,as⟩]=>
   if cu sc N (au scope) (aH N scope) scope&&as == 0&&decide (ifs.length<=1) then
    match ci scope (au scope) tg with
    | some g=>if dD (cI T sc N n iter).1 g&&(cq g).all (fun i=>(aH N scope)[i]? == some none) then
      .comp (aH N scope) g (cI T sc N n iter).1 (cI T sc N n iter).2 (ifs.map (cT T scope (au scope) n)) (cE T scope (au scope) n e)
     else .bad
    | none=>.bad
   else .bad
  | _=>.bad:=rfl
theorem sK (sc:Scope)(N:List Str)(n:Nat)(f:Expr)(args:List Expr)(kws:List Keyword)(cp:Pos):cE T sc N (n+1) (.Call f args kws cp)=match kws with
  | []=>match f with
   | .Name f _=>if aM sc f then
     match T.fns.lookup f with
     | some k=>if noStar args then .call k (args.map (cE T sc N n)) else .bad
     | none=>match T.cls.lookup f with
      | some c=>if noStar args then .make c (args.map (cE T sc N n)) else .bad
      | none=>cB T sc N n f args
    else .bad
   | .Attribute o m ap=>match pos? m T.att with
     | some k=>if eS o&&noStar args&&decide (args.length<30)&&ap.endLine == cp.line then .meth k (cE T sc N n o) (args.map (cE T sc N n)) else .bad
     | none=>match args with
      | [a]=>match kD m with
       | some q=>if fG (cE T sc N n a)&&eS o&&noStar [a]&&ap.endLine == cp.line then .op q [cE T sc N n o,cE T sc N n a] else .bad
       | none=>.bad
      | _=>.bad
   | _=>.bad
  | _=>.bad:=rfl
theorem tx (sc:Scope)(N:List Str)(n:Nat)(f:Str)(args:List Expr):cB T sc N (n+1) f args=match args with
  | [a]=>match lM sc f a with
   | some b=>.op .srtSet [cE T sc N n b]
   | none=>match lR.lookup f with
    | some o=>.op o [cE T sc N n a]
    | none=>.bad
  | [a,b]=>if f == ("isinstance" : Str) then (match cU T sc b with
    | some ts=>.op (.isi ts) [cE T sc N n a]
    | none=>.bad)
   else if f == ("max" : Str)&&noStar [a,b] then .op .max2 [cE T sc N n a,cE T sc N n b]
   else .bad
  | _=>.bad:=rfl
theorem Dx (sc:Scope)(N:List Str)(n:Nat)(e:Expr):cI T sc N (n+1) e=match e with
  | .Call (.Name f p) args [] q=>
   if aM sc f&&f == ("range" : Str)&&noStar args then match args with
    | [a]=>(.rng1,[cE T sc N n a])
    | _=>(.seq,[.bad])
   else if aM sc f&&f == ("enumerate" : Str)&&noStar args then match args with
    | [a]=>(.enum,[cE T sc N n a])
    | _=>(.seq,[.bad])
   else if aM sc f&&f == ("zip" : Str)&&noStar args then match args with
    | [a,b]=>(.zip,[cE T sc N n a,cE T sc N n b])
    | _=>(.seq,[.bad])
   else (.seq,[cE T sc N n (.Call (.Name f p) args [] q)])
  | e=>(.seq,[cE T sc N n e]):=rfl
noncomputable def u6 (x:Str)(sc:Scope):Bool:=aM sc x&&x == T.wb
noncomputable def pc? (x:Str)(f:Nat->S):S:=match T.cls.lookup x with
 | some i=>f i
 | none=>.bad
noncomputable def ps? (x:Str)(N:List Str)(f:Nat->S):S:=match pos? x N with
 | some i=>f i
 | none=>.bad
noncomputable def gQ (hs:List ExceptHandler):Option (Str×Str×Str×Str):=if hs.length=1 then
 (hs.head?.map cK).bind fun h=>h.1.bind fun te=>(bv te).bind fun c=>h.2.1.bind fun e=>if h.2.2.1.length=1 then (h.2.2.1.head?.bind j9).bind fun a=>if a.1.length=1 then (a.1.head?.bind bv).bind fun x=>(bv a.2.1).bind fun y=>some (c,e,x,y) else none else none
 else none
theorem xZ (h:gQ hs=some (c,e,x,y)):∃p1 p2 p3 p4 p5,hs=[.ExceptHandler (some (.Name c p1)) (some e) [.Assign [.Name x p2] (.Name y p3) p4] p5]:=by
 unfold gQ at h;by_cases c1:hs.length=1
 rotate_left
 ·rw[if_neg c1] at h; exact (dm h).elim
 rw[if_pos c1] at h;obtain⟨hd,rfl⟩:=List.length_eq_one_iff.mp c1;obtain⟨q,n1,r1⟩:=dL h;obtain rfl:cK hd=q:=bO n1;obtain⟨te,n2,r2⟩:=dL r1;obtain⟨c',n3,r3⟩:=dL r2;obtain⟨e',n4,r4⟩:=dL r3;by_cases c2:(cK hd).2.2.1.length=1
 rotate_left
 ·rw[if_neg c2] at r4; exact (dm r4).elim
 rw[if_pos c2] at r4;obtain⟨s,es⟩:=List.length_eq_one_iff.mp c2;rw[es] at r4;obtain⟨a,n5,r5⟩:=dL r4;have e5:=E5 (show j9 s=some a from n5);by_cases c3:a.1.length=1
 rotate_left
 ·rw[if_neg c3] at r5; exact (dm r5).elim
 rw[if_pos c3] at r5;obtain⟨t,et⟩:=List.length_eq_one_iff.mp c3;rw[et] at r5;obtain⟨x',n6,r6⟩:=dL r5;obtain⟨y',n7,r7⟩:=dL r6;cases r7;obtain⟨p1,e3⟩:=gq n3;obtain⟨p2,e6⟩:=gq (show bv t=some x from n6);obtain⟨p3,e7⟩:=gq n7;refine⟨p1,p2,p3,a.2.2,(cK hd).2.2.2,?_⟩;have hh:=CY hd;rw[n2,n4,es,e5,et,e3,e6,e7] at hh;exact congrArg (fun h=>[h]) hh
noncomputable def eG:Expr->Bool
 | .Call _ _ _ _=>true
 | .Name _ _=>true
 | _=>false
noncomputable def jV (sc:Scope)(N:List Str)(n:Nat)(ts:List Expr)(e:Expr):S:=match ts with
 | []=>.bad
 | t::r=>if r.isEmpty=true then (match bv t with
  | some x=>if aY sc x then ps? x N fun i=>.set i (cE T sc N n e) else .bad
  | none=>match i7 t with
   | some (x,j)=>if aL sc x&&ar x&&aL sc j&&ar j then ps? x N fun k=>ps? j N fun i=>.put k [] (.var i) (cE T sc N n e) else .bad
   | none=>match jG t with
    | some (x,f)=>if aL sc x&&ar x then ps? x N fun k=>ps? f T.att fun j=>if T.fl.contains j then .sfld k j (cE T sc N n e) else .bad else .bad
    | none=>match jl t with
     | some _=>if eG e then (match ci sc N t with
      | some (.many is)=>.setT is (cE T sc N n e)
      | _=>.bad) else .bad
     | none=>.bad) else .bad
noncomputable def lK (sc:Scope)(N:List Str)(n:Nat)(x:Str)(mp cp:Pos)(args:List Expr):S:=match args with
 | [a]=>if noStar [a]&&mp.endLine == cp.line then ps? x N fun i=>.mut i [] .append [cE T sc N n a] else .bad
 | _=>.bad
noncomputable def lE (sc:Scope)(N:List Str)(n:Nat)(x:Str)(mp cp:Pos)(args:List Expr):S:=match args with
 | [a]=>if noStar [a]&&mp.endLine == cp.line then ps? x N fun i=>.mut i [] .extend [cE T sc N n a] else .bad
 | _=>.bad
noncomputable def lC (sc:Scope)(N:List Str)(n:Nat)(mp cp:Pos)(args:List Expr):S:=match args with
 | []=>.bad
 | a::as=>if noStar (a::as)&&decide (as.length<29)&&mp.endLine == cp.line then .xinit ((a::as).map (cE T sc N n)) else .bad
noncomputable def jO (sc:Scope)(N:List Str)(n:Nat)(e:Expr):S:=match jz e with
 | some (x,m,mp,args,cp)=>
  if aL sc x&&ar x&&m == ("append" : Str) then lK T sc N n x mp cp args
  else if aL sc x&&ar x&&m == ("extend" : Str) then lE T sc N n x mp cp args
  else if u6 T x sc&&m == ("__init__" : Str) then lC T sc N n mp cp args
  else .ex (cE T sc N n e)
 | none=>if mo e then .bad else .ex (cE T sc N n e)
noncomputable def nD:Ex->Bool
 | .var _=>true
 | _=>false
noncomputable def jh (sc:Scope)(N:List Str)(n:Nat)(o:Option Expr):S:=match o with
 | none=>.ret (.cst .non)
 | some e=>match bv e with
  | some x=>if aL sc x&&ar x then ps? x N fun i=>.ret (.var i) else .bad
  | none=>if nD (cE T sc N n e) then .bad else .ret (cE T sc N n e)
noncomputable def jA (sc:Scope)(N:List Str)(n:Nat)(tg it:Expr)(b els:List Stmt)(cb:List S):S:=match els with
 | _::_=>.bad
 | []=>match ci sc N tg with
   | some g=>if dD (cI T sc N n it).1 g then .fo g (cI T sc N n it).1 (cI T sc N n it).2 cb else .bad
   | none=>.bad
noncomputable def jt (sc:Scope)(N:List Str)(n:Nat)(e c:Option Expr):S:=match c with
 | some _=>.bad
 | none=>match e with
  | none=>.bad
  | some e=>match gK e with
   | some (x,args)=>if aM sc x&&noStar args then (match T.bare.lookup x with
     | some c=>if args.isEmpty then .raisV c else .bad
     | none=>pc? T x fun c=>.rais c (args.map (cE T sc N n))) else .bad
   | none=>.bad
noncomputable def jB (sc:Scope)(N:List Str)(hs:List ExceptHandler)(els fin:List Stmt)(cb:List S):S:=match gQ hs with
 | some (c,e,x,y)=>
  if els.isEmpty=true/\fin.isEmpty=true/\(aM sc c&&c == T.wb&&y == e&&ar e&&aY sc x&&sc.names.lookup e == some .local)=true then pc? T c fun k=>ps? e N fun i=>ps? x N fun j=>.tryE cb k i j else .bad
 | none=>.bad
noncomputable def cS (sc:Scope)(N:List Str):Nat->Stmt->S
 | 0,_=>.bad
 | n+1,.Assign ts e _=>jV T sc N n ts e
 | n+1,.Expr e _=>jO T sc N n e
 | n+1,.Return o _=>jh T sc N n o
 | n+1,.If c a b _=>.iff (cT T sc N n c) (a.map (cS sc N n)) (b.map (cS sc N n))
 | n+1,.For tg it b els _=>jA T sc N n tg it b els (b.map (cS sc N n))
 | n+1,.Break _=>.brk
 | n+1,.Continue _=>.cnt
 | n+1,.Pass _=>.pass
 | n+1,.Raise e c _=>jt T sc N n e c
 | n+1,.Try b hs els fin _=>jB T sc N hs els fin (b.map (cS sc N n))
 | _,_=>.bad
theorem De (sc:Scope)(N:List Str)(n:Nat)(ts:List Expr)(e:Expr)(p:Pos):cS T sc N (n+1) (.Assign ts e p)=jV T sc N n ts e:=rfl
theorem A3 (sc:Scope)(N:List Str)(n:Nat)(e:Expr)(p:Pos):cS T sc N (n+1) (.Expr e p)=jO T sc N n e:=rfl
theorem DY (sc:Scope)(N:List Str)(n:Nat)(o:Option Expr)(p:Pos):cS T sc N (n+1) (.Return o p)=jh T sc N n o:=rfl
theorem wA (sc:Scope)(N:List Str)(n:Nat)(tg it:Expr)(b els:List Stmt)(p:Pos):cS T sc N (n+1) (.For tg it b els p)=jA T sc N n tg it b els (b.map (cS T sc N n)):=rfl
theorem Da (sc:Scope)(N:List Str)(n:Nat)(e c:Option Expr)(p:Pos):cS T sc N (n+1) (.Raise e c p)=jt T sc N n e c:=rfl
theorem DM (sc:Scope)(N:List Str)(n:Nat)(b:List Stmt)(hs:List ExceptHandler)(els fin:List Stmt)(p:Pos):cS T sc N (n+1) (.Try b hs els fin p)=jB T sc N hs els fin (b.map (cS T sc N n)):=rfl
noncomputable def oO:Expr->Option D
 | .Constant .none _ _=>some .non
 | .Constant (.bool b) _ _=>some (.bl b)
 | .Constant (.int i) _ _=>some (.int i)
 | .Constant (.str s) _ _=>some (.str s)
 | _=>none
noncomputable def d9 (a:Arguments)(sc:Scope):List Str:=
 let ps:=a.args.map (·.arg)
 ps++((sc.names.filter fun y=>(y.2 == .local||y.2 == .cell)&&!ps.contains y.1).map (·.1))
noncomputable def cF (io:List Nat):Stmt->Option Fn
 | .FunctionDef _ a body [] _ _ sc _ _ _=>(a.defaults.mapM oO).map fun ds=>⟨a.args.length,io,(d9 a sc).length,ds,body.map (cS T sc (d9 a sc) 60)⟩
 | _=>none
end
end Ip
end
section
namespace L2
open PySem PySem.Spec PyProof.Rows
open Ip (D KD Ex Op Pg Fn Sl Fr Wk Tg Tb)
structure Wd where
 K:aG
 iA:Nat->Option Addr
 xA:Nat->Option Addr
 att:List Str
def Sub (S H:Hp):Prop:=∀a o,S a=some o->H a=some o
theorem Sub.refl (H:Hp):Sub H H:=fun _ _ h=>h
theorem Sub.trans {A B C:Hp}(h:Sub A B)(k:Sub B C):Sub A C:=fun a o e=>k a o (h a o e)
theorem Sub.upd {H:Hp}{a:Addr}{o:HO}(h:H a=none):Sub H (upd H a o):=fun b u e=>by
 rw[aZ (fun z=>by rw[z,h] at e; cases e)]; exact e
theorem Sub.none {A B:Hp}(h:Sub A B){a:Addr}(e:B a=none):A a=none:=by
 cases q:A a with
 | none=>rfl
 | some o=>rw[h a o q] at e; cases e
open Classical in
noncomputable def hid (N:Addr->Prop)(H:Hp):Hp:=fun a=>if N a then none else H a
theorem ax {N:Addr->Prop}{H:Hp}{a:Addr}{o:HO}:hid N H a=some o↔¬N a/\H a=some o:=by
 unfold hid;by_cases h:N a
 ·simp[h]
 ·simp[h]
theorem bj {N:Addr->Prop}{H:Hp}:Sub (hid N H) H:=fun _ _ e=>(ax.mp e).2
theorem fD {N N':Addr->Prop}{H H':Hp}(h:Sub H H')(n:∀a,N' a->N a\/H a=none):Sub (hid N H) (hid N' H'):=fun a o e=>by
 obtain⟨h1,h2⟩:=ax.mp e;refine ax.mpr ⟨fun z=>?_,h a o h2⟩;rcases n a z with q | q
 ·exact h1 q
 ·rw[h2] at q; cases q
theorem Rd.sub {S H:Hp}{a:Addr}{u:HO}(h:Sub S H):Rd S a u->Rd H a u
 | .inl e=>.inl (h _ _ e)
 | .inr ⟨o,e⟩=>.inr ⟨o,h _ _ e⟩
theorem SqL.sub {K:aG}{S H:Hp}{a:Addr}{xs:List V}(h:Sub S H):SqL K S a xs->SqL K H a xs
 | .inl e=>.inl (Rd.sub h e)
 | .inr e=>.inr e
theorem SqT.sub {K:aG}{S H:Hp}{a:Addr}{xs:List V}(h:Sub S H):SqT K S a xs->SqT K H a xs
 | .inl e=>.inl (Rd.sub h e)
 | .inr e=>.inr e
mutual
inductive Den (W:Wd) (S:Hp):V->D->Prop
 | non:Den W S .non .non
 | bl {b:Bool}:Den W S (.bl b) (.bl b)
 | int {i:Int}:Den W S (.int i) (.int i)
 | str {s:Str}:Den W S (.str s) (.str s)
 | lst {a:Addr} {vs:List V} {ds:List D} (h:Rd S a (.lst vs)) (q:Dens W S vs ds):Den W S (.ref a) (.lst ds)
 | tup {a:Addr} {vs:List V} {ds:List D} (h:SqT W.K S a vs) (q:Dens W S vs ds):Den W S (.ref a) (.tup ds)
 | ins {a C dx:Addr} {c:Nat} {fs:List (Str×V)} {ds:List (Nat×D)} (h:S a=some (.ins C dx fs)) (hc:W.iA c=some C) (q:DenF W S fs ds):Den W S (.ref a) (.ins c ds)
 | exc {a C:Addr} {nw:Bool} {c:Nat} {fs:List (Str×V)} {ds:List (Nat×D)} (h:S a=some (.exc C nw fs)) (hc:W.xA c=some C) (q:DenF W S fs ds):Den W S (.ref a) (.exc c ds)
inductive Dens (W:Wd) (S:Hp):List V->List D->Prop
 | nil:Dens W S [] []
 | cons {v:V} {d:D} {vs:List V} {ds:List D} (h:Den W S v d) (q:Dens W S vs ds):Dens W S (v::vs) (d::ds)
inductive DenF (W:Wd) (S:Hp):List (Str×V)->List (Nat×D)->Prop
 | nil:DenF W S [] []
 | cons {n:Str} {f:Nat} {v:V} {d:D} {vs:List (Str×V)} {ds:List (Nat×D)} (hf:W.att[f]? = some n) (h:Den W S v d) (q:DenF W S vs ds):DenF W S ((n,v)::vs) ((f,d)::ds)
end
mutual
theorem Den.mono {W:Wd}{S H:Hp}(h:Sub S H):∀{v d},Den W S v d->Den W H v d
 | _,_,.non=>.non
 | _,_,.bl=>.bl
 | _,_,.int=>.int
 | _,_,.str=>.str
 | _,_,.lst e q=>.lst (Rd.sub h e) (q.mono h)
 | _,_,.tup e q=>.tup (SqT.sub h e) (q.mono h)
 | _,_,.ins e hc q=>.ins (h _ _ e) hc (q.mono h)
 | _,_,.exc e hc q=>.exc (h _ _ e) hc (q.mono h)
theorem Dens.mono {W:Wd}{S H:Hp}(h:Sub S H):∀{v d},Dens W S v d->Dens W H v d
 | _,_,.nil=>.nil
 | _,_,.cons e q=>.cons (e.mono h) (q.mono h)
theorem DenF.mono {W:Wd}{S H:Hp}(h:Sub S H):∀{v d},DenF W S v d->DenF W H v d
 | _,_,.nil=>.nil
 | _,_,.cons f e q=>.cons f (e.mono h) (q.mono h)
end
theorem Dens.length {W:Wd}{S:Hp}:∀{vs ds},Dens W S vs ds->vs.length=ds.length
 | _,_,.nil=>rfl
 | _,_,.cons _ q=>by rw[List.length_cons,List.length_cons,q.length]
theorem Dens.get {W:Wd}{S:Hp}:∀{vs ds} {i:Nat} {d:D},Dens W S vs ds->ds[i]? = some d->∃v,vs[i]? = some v/\Den W S v d
 | _,_,_,_,.nil,e=>by simp at e
 | _,_,0,_,.cons h _,e=>by simp at e; subst e; exact⟨_,rfl,h⟩
 | _,_,i+1,_,.cons _ q,e=>by simpa using q.get (i:=i) (by simpa using e)
theorem Dens.append {W:Wd}{S:Hp}:∀{vs ws ds es},Dens W S vs ds->Dens W S ws es->Dens W S (vs++ws) (ds++es)
 | _,_,_,_,.nil,q=>q
 | _,_,_,_,.cons h t,q=>.cons h (t.append q)
theorem Dens.take {W:Wd}{S:Hp}:∀{vs ds} (n:Nat),Dens W S vs ds->Dens W S (vs.take n) (ds.take n)
 | _,_,0,_=>.nil
 | _,_,_+1,.nil=>.nil
 | _,_,n+1,.cons h t=>.cons h (t.take n)
theorem Dens.drop {W:Wd}{S:Hp}:∀{vs ds} (n:Nat),Dens W S vs ds->Dens W S (vs.drop n) (ds.drop n)
 | _,_,0,h=>h
 | _,_,_+1,.nil=>.nil
 | _,_,n+1,.cons _ t=>t.drop n
theorem Dens.set {W:Wd}{S:Hp}{v:V}{d:D}(r:Den W S v d):∀{vs ds} (i:Nat),Dens W S vs ds->Dens W S (vs.set i v) (ds.set i d)
 | _,_,_,.nil=>.nil
 | _,_,0,.cons _ t=>.cons r t
 | _,_,i+1,.cons q t=>.cons q (t.set r i)
theorem DenF.length {W:Wd}{S:Hp}:∀{vs ds},DenF W S vs ds->vs.length=ds.length
 | _,_,.nil=>rfl
 | _,_,.cons _ _ q=>by rw[List.length_cons,List.length_cons,q.length]
theorem pJ {l:List Str}(nd:l.Nodup){i j:Nat}{x:Str}(h:l[i]? = some x)(k:l[j]? = some x):i=j:=mW nd h k
theorem DenF.lookup {W:Wd}{S:Hp}(nd:W.att.Nodup){f:Nat}{n:Str}(hn:W.att[f]? = some n):∀{vs ds},DenF W S vs ds->(∀d,ds.lookup f=some d->∃v,vs.lookup n=some v/\Den W S v d)/\(ds.lookup f=none->vs.lookup n=none)
 | _,_,.nil=>⟨(fun _ e=>nomatch e),fun _=>rfl⟩
 | _,_,.cons (n:=m) (f:=g) hg h q=>by
  obtain⟨i1,i2⟩:=q.lookup nd hn;by_cases e:g=f
  ·subst e;have:m=n:=by rw[hn] at hg; exact (bO hg).symm
   subst this;simp only[List.lookup_cons,beq_self_eq_true];exact⟨fun d z=>⟨_,rfl,by cases bO z; exact h⟩,fun z=>nomatch z⟩
  ·have nm:n≠m:=fun z=>e (pJ nd hg (by rw[<-z]; exact hn));have b1:(f == g)=false:=by simpa using fun z=>e (Eq.symm z)
   have b2:(n == m)=false:=by simpa using nm
   simp only[List.lookup_cons,b1,b2];exact⟨i1,i2⟩
theorem DenF.put {W:Wd}{S:Hp}(nd:W.att.Nodup){f:Nat}{n:Str}{v:V}{d:D}(hn:W.att[f]? = some n)(r:Den W S v d):∀{vs ds},DenF W S vs ds->DenF W S (putF n v vs) (Ip.putF f d ds)
 | _,_,.nil=>.cons hn r .nil
 | _,_,.cons (n:=m) (f:=g) hg h q=>by
  unfold putF Ip.putF;by_cases e:g=f
  ·subst e;have:m=n:=by rw[hn] at hg; exact (bO hg).symm
   subst this;rw[if_pos rfl,if_pos rfl];exact .cons hg r q
  ·have nm:m≠n:=fun z=>e (pJ nd hg (by rw[z]; exact hn));rw[if_neg e,if_neg nm];exact .cons hg h (q.put nd hn r)
inductive OwnL (P:V->D->List Addr->Prop):List V->List D->List Addr->Prop
 | nil:OwnL P [] [] []
 | cons {v:V} {d:D} {f:List Addr} {vs:List V} {ds:List D} {g:List Addr} (h:P v d f) (q:OwnL P vs ds g):OwnL P (v::vs) (d::ds) (f++g)
inductive OwnF (att:List Str) (P:V->D->List Addr->Prop):List (Str×V)->List (Nat×D)->List Addr->Prop
 | nil:OwnF att P [] [] []
 | cons {n:Str} {i:Nat} {v:V} {d:D} {f:List Addr} {vs:List (Str×V)} {ds:List (Nat×D)} {g:List Addr} (hf:att[i]? = some n) (h:P v d f) (q:OwnF att P vs ds g):OwnF att P ((n,v)::vs) ((i,d)::ds) (f++g)
theorem OwnL.imp {P Q:V->D->List Addr->Prop}:∀{vs ds fp},OwnL P vs ds fp->(∀v d f,(∀a∈f,a∈fp)->P v d f->Q v d f)->OwnL Q vs ds fp
 | _,_,_,.nil,_=>.nil
 | _,_,_,.cons h q,k=>.cons (k _ _ _ (fun _ z=>dP _ z) h) (q.imp fun v d f z=>k v d f fun a y=>bR _ (z a y))
theorem OwnF.imp {att:List Str}{P Q:V->D->List Addr->Prop}:∀{vs ds fp},OwnF att P vs ds fp->(∀v d f,(∀a∈f,a∈fp)->P v d f->Q v d f)->OwnF att Q vs ds fp
 | _,_,_,.nil,_=>.nil
 | _,_,_,.cons hf h q,k=>.cons hf (k _ _ _ (fun _ z=>dP _ z) h) (q.imp fun v d f z=>k v d f fun a y=>bR _ (z a y))
theorem OwnL.dens {W:Wd}{T:Hp}{P:V->D->List Addr->Prop}:∀{vs ds fp},OwnL P vs ds fp->(∀v d f,(∀a∈f,a∈fp)->P v d f->Den W T v d)->Dens W T vs ds
 | _,_,_,.nil,_=>.nil
 | _,_,_,.cons h q,k=>.cons (k _ _ _ (fun _ z=>dP _ z) h) (q.dens fun v d f z=>k v d f fun a y=>bR _ (z a y))
theorem OwnF.dens {W:Wd}{T:Hp}{P:V->D->List Addr->Prop}:∀{vs ds fp},OwnF W.att P vs ds fp->(∀v d f,(∀a∈f,a∈fp)->P v d f->Den W T v d)->DenF W T vs ds
 | _,_,_,.nil,_=>.nil
 | _,_,_,.cons hf h q,k=>.cons hf (k _ _ _ (fun _ z=>dP _ z) h) (q.dens fun v d f z=>k v d f fun a y=>bR _ (z a y))
theorem OwnL.length {P:V->D->List Addr->Prop}:∀{vs ds fp},OwnL P vs ds fp->vs.length=ds.length
 | _,_,_,.nil=>rfl
 | _,_,_,.cons _ q=>by rw[List.length_cons,List.length_cons,q.length]
noncomputable def Own (W:Wd)(S H:Hp):Nat->V->D->List Addr->Prop
 | 0,v,d,fp=>fp=[]/\Den W S v d
 | k+1,v,.lst ds,fp=>∃a vs fq,v=.ref a/\H a=some (.lst vs)/\OwnL (Own W S H k) vs ds fq/\fp=a::fq
 | k+1,v,.tup ds,fp=>∃a vs,v=.ref a/\SqT W.K S a vs/\OwnL (Own W S H k) vs ds fp
 | k+1,v,.ins c ds,fp=>∃a C dx fs fq,v=.ref a/\H a=some (.ins C dx fs)/\W.iA c=some C/\OwnF W.att (Own W S H k) fs ds fq/\fp=a::fq
 | k+1,v,.exc c ds,fp=>∃a C nw fs fq,v=.ref a/\H a=some (.exc C nw fs)/\(W.xA c=some C/\nw=true)/\OwnF W.att (Own W S H k) fs ds fq/\fp=a::fq
 | _+1,v,d,fp=>fp=[]/\Den W S v d
theorem Own.mono {W:Wd}{S S' H H':Hp}(hs:Sub S S'):∀{k v d fp},(∀a∈fp,∀o,H a=some o->H' a=some o)->Own W S H k v d fp->Own W S' H' k v d fp
 | 0,_,_,_,_,h=>⟨h.1,h.2.mono hs⟩
 | k+1,_,.lst ds,_,hf,⟨a,vs,fq,e1,e2,e3,e4⟩=>⟨a,vs,fq,e1,hf a (by rw[e4]; exact bD) _ e2,e3.imp fun _ _ _ z y=>Own.mono hs (fun b hb=>hf b (by rw[e4]; exact bw _ (z b hb))) y,e4⟩
 | k+1,_,.tup ds,_,hf,⟨a,vs,e1,e2,e3⟩=>⟨a,vs,e1,SqT.sub hs e2,e3.imp fun _ _ _ z y=>Own.mono hs (fun b hb=>hf b (z b hb)) y⟩
 | k+1,_,.ins c ds,_,hf,⟨a,C,dx,fs,fq,e1,e2,e5,e3,e4⟩=>⟨a,C,dx,fs,fq,e1,hf a (by rw[e4]; exact bD) _ e2,e5,e3.imp fun _ _ _ z y=>Own.mono hs (fun b hb=>hf b (by rw[e4]; exact bw _ (z b hb))) y,e4⟩
 | k+1,_,.exc c ds,_,hf,⟨a,C,dx,fs,fq,e1,e2,e5,e3,e4⟩=>⟨a,C,dx,fs,fq,e1,hf a (by rw[e4]; exact bD) _ e2,e5,e3.imp fun _ _ _ z y=>Own.mono hs (fun b hb=>hf b (by rw[e4]; exact bw _ (z b hb))) y,e4⟩
 | _+1,_,.non,_,_,h=>⟨h.1,h.2.mono hs⟩
 | _+1,_,.bl _,_,_,h=>⟨h.1,h.2.mono hs⟩
 | _+1,_,.int _,_,_,h=>⟨h.1,h.2.mono hs⟩
 | _+1,_,.str _,_,_,h=>⟨h.1,h.2.mono hs⟩
theorem Own.den {W:Wd}{S H T:Hp}(hs:Sub S T):∀{k v d fp},(∀a∈fp,∀o,H a=some o->T a=some o)->Own W S H k v d fp->Den W T v d
 | 0,_,_,_,_,h=>h.2.mono hs
 | k+1,_,.lst ds,_,hf,⟨a,vs,fq,e1,e2,e3,e4⟩=>by
  subst e1;exact .lst (.inl (hf a (by rw[e4]; exact bD) _ e2)) (e3.dens fun _ _ _ z y=>Own.den hs (fun b hb=>hf b (by rw[e4]; exact bw _ (z b hb))) y)
 | k+1,_,.tup ds,_,hf,⟨a,vs,e1,e2,e3⟩=>by
  subst e1;exact .tup (SqT.sub hs e2) (e3.dens fun _ _ _ z y=>Own.den hs (fun b hb=>hf b (z b hb)) y)
 | k+1,_,.ins c ds,_,hf,⟨a,C,dx,fs,fq,e1,e2,e5,e3,e4⟩=>by
  subst e1;exact .ins (hf a (by rw[e4]; exact bD) _ e2) e5 (e3.dens fun _ _ _ z y=>Own.den hs (fun b hb=>hf b (by rw[e4]; exact bw _ (z b hb))) y)
 | k+1,_,.exc c ds,_,hf,⟨a,C,dx,fs,fq,e1,e2,e5,e3,e4⟩=>by
  subst e1;exact .exc (hf a (by rw[e4]; exact bD) _ e2) e5.1 (e3.dens fun _ _ _ z y=>Own.den hs (fun b hb=>hf b (by rw[e4]; exact bw _ (z b hb))) y)
 | _+1,_,.non,_,_,h=>h.2.mono hs
 | _+1,_,.bl _,_,_,h=>h.2.mono hs
 | _+1,_,.int _,_,_,h=>h.2.mono hs
 | _+1,_,.str _,_,_,h=>h.2.mono hs
theorem OwnL.mem {P:V->D->List Addr->Prop}{R:Addr->Prop}(hP:∀v d f,P v d f->∀a∈f,R a):∀{vs ds fp},OwnL P vs ds fp->∀a∈fp,R a
 | _,_,_,.nil,_,z=>by simp at z
 | _,_,_,.cons h q,a,z=>(dk z).elim (hP _ _ _ h a) (q.mem hP a)
theorem OwnF.mem {att:List Str}{P:V->D->List Addr->Prop}{R:Addr->Prop}(hP:∀v d f,P v d f->∀a∈f,R a):∀{vs ds fp},OwnF att P vs ds fp->∀a∈fp,R a
 | _,_,_,.nil,_,z=>by simp at z
 | _,_,_,.cons _ h q,a,z=>(dk z).elim (hP _ _ _ h a) (q.mem hP a)
theorem Own.dom {W:Wd}{S H:Hp}:∀{k v d fp},Own W S H k v d fp->∀a∈fp,H a≠none
 | 0,_,_,_,h,a,z=>by rw[h.1] at z; simp at z
 | k+1,_,.lst ds,_,⟨a,vs,fq,e1,e2,e3,e4⟩,b,z=>by
  rw[e4] at z;rcases bN z with q | q
  ·rw[q,e2]; simp
  ·exact e3.mem (fun _ _ _ y=>Own.dom y) b q
 | k+1,_,.tup ds,_,⟨a,vs,e1,e2,e3⟩,b,z=>e3.mem (fun _ _ _ y=>Own.dom y) b z
 | k+1,_,.ins c ds,_,⟨a,C,dx,fs,fq,e1,e2,e5,e3,e4⟩,b,z=>by
  rw[e4] at z;rcases bN z with q | q
  ·rw[q,e2]; simp
  ·exact e3.mem (fun _ _ _ y=>Own.dom y) b q
 | k+1,_,.exc c ds,_,⟨a,C,dx,fs,fq,e1,e2,e5,e3,e4⟩,b,z=>by
  rw[e4] at z;rcases bN z with q | q
  ·rw[q,e2]; simp
  ·exact e3.mem (fun _ _ _ y=>Own.dom y) b q
 | _+1,_,.non,_,h,a,z=>by rw[h.1] at z; simp at z
 | _+1,_,.bl _,_,h,a,z=>by rw[h.1] at z; simp at z
 | _+1,_,.int _,_,h,a,z=>by rw[h.1] at z; simp at z
 | _+1,_,.str _,_,h,a,z=>by rw[h.1] at z; simp at z
theorem OwnL.flat {W:Wd}{S:Hp}{P:V->D->List Addr->Prop}(hP:∀v d,d.flat=true->Den W S v d->P v d []):∀{vs ds},D.flats ds=true->Dens W S vs ds->OwnL P vs ds []
 | _,_,_,.nil=>.nil
 | _,_,hf,.cons h q=>by
  rw[D.flats,Bool.and_eq_true] at hf;exact OwnL.cons (f:=[]) (g:=[]) (hP _ _ hf.1 h) (OwnL.flat hP hf.2 q)
theorem OwnL.flat_inv {W:Wd}{S:Hp}{P:V->D->List Addr->Prop}(hP:∀v d f,d.flat=true->P v d f->f=[]/\Den W S v d):∀{vs ds fp},D.flats ds=true->OwnL P vs ds fp->fp=[]/\Dens W S vs ds
 | _,_,_,_,.nil=>⟨rfl,.nil⟩
 | _,_,_,hf,.cons h q=>by
  rw[D.flats,Bool.and_eq_true] at hf;obtain⟨e1,d1⟩:=hP _ _ _ hf.1 h;obtain⟨e2,d2⟩:=q.flat_inv hP hf.2;exact⟨by rw[e1,e2]; rfl,.cons d1 d2⟩
theorem Own.flat {W:Wd}{S H:Hp}:∀{k v d},d.flat=true->Den W S v d->Own W S H k v d []
 | 0,_,_,_,h=>⟨rfl,h⟩
 | k+1,_,.lst _,hf,_=>by simp[D.flat] at hf
 | k+1,_,.tup ds,hf,.tup e q=>⟨_,_,rfl,e,OwnL.flat (fun _ _=>Own.flat) (by rw[D.flat] at hf; exact hf) q⟩
 | k+1,_,.ins _ _,hf,_=>by simp[D.flat] at hf
 | k+1,_,.exc _ _,hf,_=>by simp[D.flat] at hf
 | _+1,_,.non,_,h=>⟨rfl,h⟩
 | _+1,_,.bl _,_,h=>⟨rfl,h⟩
 | _+1,_,.int _,_,h=>⟨rfl,h⟩
 | _+1,_,.str _,_,h=>⟨rfl,h⟩
theorem Own.flat_inv {W:Wd}{S H:Hp}:∀{k v d fp},d.flat=true->Own W S H k v d fp->fp=[]/\Den W S v d
 | 0,_,_,_,_,h=>h
 | k+1,_,.lst _,_,hf,_=>by simp[D.flat] at hf
 | k+1,_,.tup ds,_,hf,⟨a,vs,e1,e2,e3⟩=>by
  obtain⟨h1,h2⟩:=e3.flat_inv (fun _ _ _=>Own.flat_inv) (by rw[D.flat] at hf; exact hf);subst e1;exact⟨h1,.tup e2 h2⟩
 | k+1,_,.ins _ _,_,hf,_=>by simp[D.flat] at hf
 | k+1,_,.exc _ _,_,hf,_=>by simp[D.flat] at hf
 | _+1,_,.non,_,_,h=>h
 | _+1,_,.bl _,_,_,h=>h
 | _+1,_,.int _,_,_,h=>h
 | _+1,_,.str _,_,_,h=>h
theorem OwnL.re {P Q:V->D->List Addr->Prop}{b:D->Bool}(hP:∀v d f,b d=true->P v d f->Q v d f):∀{vs ds fp},ds.all b=true->OwnL P vs ds fp->OwnL Q vs ds fp
 | _,_,_,_,.nil=>.nil
 | _,_,_,hf,.cons h q=>by
  rw[List.all_cons,Bool.and_eq_true] at hf;exact .cons (hP _ _ _ hf.1 h) (q.re hP hf.2)
def NOk (N:Addr->Prop)(H:Hp):Prop:=∀a,N a->H a≠none
def RelS (W:Wd)(S:Hp)(a:Sl)(σ:St):Prop:=∀(i:Nat) (d:D),a[i]? = some (some d)->∃v,σ[i]? = some (some v)/\Den W S v d
theorem RelS.mono {W:Wd}{S S':Hp}{a:Sl}{σ:St}(h:Sub S S')(r:RelS W S a σ):RelS W S' a σ:=fun i d e=>by
 obtain⟨v,h1,h2⟩:=r i d e;exact⟨v,h1,h2.mono h⟩
def Res (W:Wd)(H:Hp)(N:Addr->Prop)(H':Hp)(x:KD)(v:V):Prop:=
 Sub H H'/\∃fp:List Addr,fp.Nodup/\(∀a∈fp,H a=none)/\Own W (hid (fun a=>N a\/a∈fp) H') H' x.1 v x.2 fp
inductive OwnV (W:Wd) (S H:Hp):List V->List KD->List Addr->Prop
 | nil:OwnV W S H [] [] []
 | cons {v:V} {x:KD} {f:List Addr} {vs:List V} {xs:List KD} {g:List Addr} (h:Own W S H x.1 v x.2 f) (q:OwnV W S H vs xs g):OwnV W S H (v::vs) (x::xs) (f++g)
theorem OwnV.mono {W:Wd}{S S' H H':Hp}(hs:Sub S S'):∀{vs xs fp},(∀a∈fp,∀o,H a=some o->H' a=some o)->OwnV W S H vs xs fp->OwnV W S' H' vs xs fp
 | _,_,_,_,.nil=>.nil
 | _,_,_,hf,.cons h q=>.cons (h.mono hs fun a z=>hf a (dP _ z)) (q.mono hs fun a z=>hf a (bR _ z))
theorem OwnV.dens {W:Wd}{S H T:Hp}(hs:Sub S T):∀{vs xs fp},(∀a∈fp,∀o,H a=some o->T a=some o)->OwnV W S H vs xs fp->Dens W T vs (xs.map (·.2))
 | _,_,_,_,.nil=>.nil
 | _,_,_,hf,.cons h q=>.cons (h.den hs fun a z=>hf a (dP _ z)) (q.dens hs fun a z=>hf a (bR _ z))
theorem OwnV.dom {W:Wd}{S H:Hp}:∀{vs xs fp},OwnV W S H vs xs fp->∀a∈fp,H a≠none
 | _,_,_,.nil,a,z=>by simp at z
 | _,_,_,.cons h q,a,z=>(dk z).elim (h.dom a) (q.dom a)
theorem OwnV.length {W:Wd}{S H:Hp}:∀{vs xs fp},OwnV W S H vs xs fp->vs.length=xs.length
 | _,_,_,.nil=>rfl
 | _,_,_,.cons _ q=>by rw[List.length_cons,List.length_cons,q.length]
def ResL (W:Wd)(H:Hp)(N:Addr->Prop)(H':Hp)(xs:List KD)(vs:List V):Prop:=
 Sub H H'/\∃fp:List Addr,fp.Nodup/\(∀a∈fp,H a=none)/\OwnV W (hid (fun a=>N a\/a∈fp) H') H' vs xs fp
def ExcR (W:Wd)(H:Hp)(N:Addr->Prop)(H':Hp)(c:Nat)(fs:List (Nat×D))(e:Addr):Prop:=
 Sub H H'/\H e=none/\∃C vs,H' e=some (.exc C false vs)/\W.xA c=some C/\DenF W (hid N H') vs fs
theorem Res.den {W:Wd}{H H':Hp}{N:Addr->Prop}{x:KD}{v:V}(hN:NOk N H)(r:Res W H N H' x v):Den W (hid N H') v x.2:=by
 obtain⟨hs,fp,_,hf,o⟩:=r;refine o.den (fun a u e=>?_) fun a ha u e=>ax.mpr ⟨fun z=>hN a z (hf a ha),e⟩;obtain⟨h1,h2⟩:=ax.mp e;exact ax.mpr ⟨fun z=>h1 (.inl z),h2⟩
theorem ResL.dens {W:Wd}{H H':Hp}{N:Addr->Prop}{xs:List KD}{vs:List V}(hN:NOk N H)(r:ResL W H N H' xs vs):Dens W (hid N H') vs (xs.map (·.2)):=by
 obtain⟨hs,fp,_,hf,o⟩:=r;refine o.dens (fun a u e=>?_) fun a ha u e=>ax.mpr ⟨fun z=>hN a z (hf a ha),e⟩;obtain⟨h1,h2⟩:=ax.mp e;exact ax.mpr ⟨fun z=>h1 (.inl z),h2⟩
theorem Res.of_den {W:Wd}{H H':Hp}{N:Addr->Prop}{v:V}{d:D}(hs:Sub H H')(h:Den W (hid N H') v d):Res W H N H' (0,d) v:=
 ⟨hs,[],.nil,fun a z=>by simp at z,rfl,h.mono fun a o e=>ax.mpr ⟨fun z=>(ax.mp e).1 (by simpa using z),(ax.mp e).2⟩⟩
theorem Res.of_flat {W:Wd}{H H':Hp}{N:Addr->Prop}{v:V}{k:Nat}{d:D}(hs:Sub H H')(hf:d.flat=true)(h:Den W (hid N H') v d):Res W H N H' (k,d) v:=
 ⟨hs,[],.nil,fun a z=>by simp at z,Own.flat hf (h.mono fun a o e=>ax.mpr ⟨fun z=>(ax.mp e).1 (by simpa using z),(ax.mp e).2⟩)⟩
theorem NOk.mono {N:Addr->Prop}{H H':Hp}(h:NOk N H)(hs:Sub H H'):NOk N H':=fun a z q=>h a z (hs.none q)
section
variable (W:Wd)(G:Pg)(cl:Nat->List KD->Ip.Run)
def az (ir:Ex)(E:St->XK):TE:=fun σ H Q=>∃(N:Addr->Prop) (a:Sl),NOk N H/\RelS W (hid N H) a σ/\match Ip.eval G cl a ir with
 | .ok x=>∀v H',Res W H N H' x v->Q v H'
 | .exc c fs=>∀e H',ExcR W H N H' c fs e->E σ (.ref e) none H'
 | .bad=>False
def be (irs:List Ex)(E:St->XK):TA:=fun σ H Q=>∃(N:Addr->Prop) (a:Sl),NOk N H/\RelS W (hid N H) a σ/\match Ip.evals G cl a irs with
 | .ok xs=>∀vs H',ResL W H N H' xs vs->Q vs H'
 | .exc c fs=>∀e H',ExcR W H N H' c fs e->E σ (.ref e) none H'
 | .bad=>False
end
theorem PE.mono {X:Cx}{e:Expr}{t t':TE}(h:PE X e t)(k:∀σ H Q,t' σ H Q->t σ H Q):PE X e t':=fun pins s σ H Q I q=>h pins s σ H Q I (k σ H Q q)
theorem PA.mono {X:Cx}{e:List Expr}{t t':TA}(h:PA X e t)(k:∀σ H Q,t' σ H Q->t σ H Q):PA X e t':=fun pos pins s σ H Q I q=>h pos pins s σ H Q I (k σ H Q q)
theorem PT.mono {X:Cx}{e:Expr}{t t':TT}(h:PT X e t)(k:∀σ H Q,t' σ H Q->t σ H Q):PT X e t':=fun pins s σ H Q I q=>h pins s σ H Q I (k σ H Q q)
theorem PS.mono {X:Cx}{e:Stmt}{t t':TS}(h:PS X e t)(k:∀D σ H,t' D σ H->t D σ H):PS X e t':=fun pins s σ H D I q=>h pins s σ H D I (k D σ H q)
theorem PSs.mono {X:Cx}{e:List Stmt}{t t':TS}(h:PSs X e t)(k:∀D σ H,t' D σ H->t D σ H):PSs X e t':=fun pins s σ H D I q=>h pins s σ H D I (k D σ H q)
theorem bg {X:Cx}{e:Expr}{W:Wd}{G:Pg}{cl:Nat->List KD->Ip.Run}{E:St->XK}:PE X e (az W G cl .bad E):=fun _ _ _ _ _ _ ⟨_,_,_,_,h⟩=>by
 rw[Ip.eval] at h; exact h.elim
section
variable {W:Wd}{G:Pg}{cl:Nat->List KD->Ip.Run}{E:St->XK}{σ:St}{H:Hp}
theorem ExcR.trans {H1 H':Hp}{N N':Addr->Prop}{c:Nat}{fs:List (Nat×D)}{e:Addr}(hs:Sub H H1)(hn:∀a,N a->N' a)(r:ExcR W H1 N' H' c fs e):ExcR W H N H' c fs e:=by
 obtain⟨s1,e1,C,vs,h1,h2,h3⟩:=r;exact⟨hs.trans s1,hs.none e1,C,vs,h1,h2,h3.mono fun a o z=>ax.mpr ⟨fun q=>(ax.mp z).1 (hn a q),(ax.mp z).2⟩⟩
theorem fw {ir:Ex}{Q:VK}{N:Addr->Prop}{a:Sl}(hN:NOk N H)(hS:RelS W (hid N H) a σ)
  (ok:∀x,Ip.eval G cl a ir=.ok x->∀v H1 fp,Sub H H1->fp.Nodup->(∀b∈fp,H b=none)->Own W (hid (fun b=>N b\/b∈fp) H1) H1 x.1 v x.2 fp ->
   NOk (fun b=>N b\/b∈fp) H1->RelS W (hid (fun b=>N b\/b∈fp) H1) a σ->Q v H1)
  (ex:∀c fs,Ip.eval G cl a ir=.exc c fs->∀e H',ExcR W H N H' c fs e->E σ (.ref e) none H')(nb:Ip.eval G cl a ir≠.bad):az W G cl ir E σ H Q:=by
 refine⟨N,a,hN,hS,?_⟩;cases q:Ip.eval G cl a ir with
 | bad=>exact absurd q nb
 | exc c fs=>exact ex c fs q
 | ok x=>
  rintro v H1 ⟨hs,fp,nd,hf,o⟩;refine ok x q v H1 fp hs nd hf o (fun b z=>?_) (hS.mono (fD hs fun b z=>z.imp id fun y=>hf b y));exact z.elim (fun y=>(hN.mono hs) b y) (o.dom b)
end
end L2
end
section
namespace L2
open PySem PySem.Spec PyProof.Rows
open Ip (D KD Ex Op Pg Fn Sl Fr Wk Tg Tb R jX bQ bh dh bm bc aR)
def rD (W:Wd)(G:Pg)(o:Op)(vs:List V)(H:Hp)(Q:VK):Prop:=∃(N:Addr->Prop) (xs:List KD) (x:KD),NOk N H/\Dens W (hid N H) vs (xs.map (·.2))/\aR G o xs=some x/\∀v H',Res W H N H' x v->Q v H'
theorem Res.trans (hs:Sub H H2)(r:Res W H2 N H' x v):Res W H N H' x v:=by
 obtain⟨h1,fp,nd,hf,o⟩:=r;exact⟨hs.trans h1,fp,nd,fun a z=>hs.none (hf a z),o⟩
theorem Own.later {W:Wd}{H H1 H2:Hp}{N M:Addr->Prop}{k:Nat}{v:V}{d:D}{fp:List Addr}(hN:NOk N H)(hs:Sub H1 H2)(hf:∀b∈fp,H b=none)(hM:∀b,N b->M b)(o:Own W (hid (fun b=>M b\/b∈fp) H1) H1 k v d fp):Den W (hid N H2) v d:=by
 refine o.den (fun a u e=>?_) fun a ha u e=>ax.mpr ⟨fun z=>hN a z (hf a ha),hs a u e⟩;obtain⟨h1,h2⟩:=ax.mp e;exact ax.mpr ⟨fun z=>h1 (.inl (hM a z)),hs a u h2⟩
section
variable {W:Wd}{G:Pg}{cl:Nat->List KD->Ip.Run}{E:St->XK}{σ:St}{H:Hp}{Q:VK}{o:Op}
theorem jP (hr:∀x H Q,rD W G o [x] H Q->r x H Q)(h:az W G cl (.op o [ia]) E σ H Q):o4 r (az W G cl ia E) σ H Q:=by
 obtain⟨N,a,hN,hS,h⟩:=h;unfold o4;refine fw hN hS (fun x ex v H1 fp hs nd hf ow hN1 hS1=>?_) (fun c fs ee=>?_) fun ee=>?_
 ·simp only[bQ,Ip.cM,bh,ex,R.bind] at h;cases q:aR G o [x] with
  | none=>simp only[q,R.of] at h
  | some z=>
   simp only[q,R.of] at h;exact hr _ _ _ ⟨N,[x],z,hN.mono hs,.cons (ow.later hN (Sub.refl _) hf fun _ y=>y) .nil,q,fun w H' r=>h w H' (r.trans hs)⟩
 ·simp only[bQ,bh,ee,R.bind] at h;exact h
 ·simp only[bQ,bh,ee,R.bind] at h
theorem gz (hr:∀x y H Q,rD W G o [x,y] H Q->r x y H Q)(h:az W G cl (.op o [ia,ib]) E σ H Q):kP r (az W G cl ia E) (az W G cl ib E) σ H Q:=by
 obtain⟨N,a,hN,hS,h⟩:=h;unfold kP;refine fw hN hS (fun x ex v H1 fp hs nd hf ow hN1 hS1=>?_) (fun c fs ee=>?_) fun ee=>?_
 ·refine fw hN1 hS1 (fun y ey w H2 fq hs2 nd2 hf2 ow2 hN2 hS2=>?_) (fun c fs ee e H' r=>?_) fun ee=>?_
  ·simp only[bQ,Ip.cM,bh,ex,ey,R.bind] at h;cases q:aR G o [x,y] with
   | none=>simp only[q,R.of] at h
   | some z=>
    simp only[q,R.of] at h;exact hr _ _ _ _ ⟨N,[x,y],z,hN.mono (hs.trans hs2),.cons (ow.later hN hs2 hf fun _ y=>y) (.cons (ow2.later (hN.mono hs) (Sub.refl _) hf2 fun _ y=>.inl y) .nil),q,fun w H' r=>h w H' (r.trans (hs.trans hs2))⟩
  ·simp only[bQ,bh,ex,ee,R.bind] at h;exact h e H' (r.trans hs fun _ y=>.inl y)
  ·simp only[bQ,bh,ex,ee,R.bind] at h
 ·simp only[bQ,bh,ee,R.bind] at h;exact h
 ·simp only[bQ,bh,ee,R.bind] at h
end
theorem Dens.one (h:Dens W S vs [d]):∃v,vs=[v]/\Den W S v d:=by
 cases h with
 | cons h r=>cases r; exact⟨_,rfl,h⟩
theorem Dens.two (h:Dens W S vs [d,e]):∃v w,vs=[v,w]/\Den W S v d/\Den W S w e:=by
 cases h with
 | cons h r=>
  obtain⟨w,e,h2⟩:=r.one;subst e;exact⟨_,_,rfl,h,h2⟩
theorem dW {W:Wd}{S:Hp}{x:V}{xs:List KD}(h:Dens W S [x] (xs.map (·.2))):∃p,xs=[p]/\Den W S x p.2:=by
 cases xs with
 | nil=>cases h
 | cons p r=>
  cases h with
  | cons h1 h2=>
   cases r with
   | nil=>exact⟨p,rfl,h1⟩
   | cons _ _=>cases h2
theorem dg {W:Wd}{S:Hp}{x y:V}{xs:List KD}(h:Dens W S [x,y] (xs.map (·.2))):∃p q,xs=[p,q]/\Den W S x p.2/\Den W S y q.2:=by
 cases xs with
 | nil=>cases h
 | cons p r=>
  cases h with
  | cons h1 h2=>
   obtain⟨q,rfl,h3⟩:=dW h2;exact⟨p,q,rfl,h1,h3⟩
theorem Den.int_inv (h:Den W S v (.int i)):v=.int i:=by cases h; rfl
theorem Den.bl_inv (h:Den W S v (.bl i)):v=.bl i:=by cases h; rfl
theorem Res.int:Res W H N H (k,.int i) (.int i):=Res.of_flat (Sub.refl _) rfl .int
theorem Res.bl:Res W H N H (k,.bl i) (.bl i):=Res.of_flat (Sub.refl _) rfl .bl
section
variable {X:Cx}{W:Wd}{G:Pg}
theorem OpR.imp (h:OpR X f r)(k:∀x y H Q,r' x y H Q->r x y H Q):OpR X f r':=fun pins s σ H x y v u Q I rx ry q=>h pins s σ H x y v u Q I rx ry (k x y H Q q)
theorem gR (ho:∀xs,aR G o xs=bc (bm f) xs)(hf:∀i j x,f i j=some x->C i j/\∀(N:Addr->Prop) (H:Hp),Res W H N H x (g i j)) :
  ∀x y H Q,rD W G o [x,y] H Q->rI C g x y H Q:=by
 rintro x y H Q ⟨N,xs,z,hN,hd,hz,hq⟩;obtain⟨p,q,rfl,d1,d2⟩:=dg hd;rw[ho] at hz;obtain⟨k1,p⟩:=p;obtain⟨k2,q⟩:=q;simp only[bc] at hz;cases p <;> cases q <;> simp only[bm] at hz <;> try (cases hz; done)
 cases d1;cases d2;obtain⟨hc,hr⟩:=hf _ _ _ hz;exact⟨_,_,rfl,rfl,hc,hq _ _ (hr N H)⟩
theorem wH:OpR X (binaryOp .Sub) (fun x y=>rD W G .sub [x,y]):=BN.imp fun x y H Q h=>by
 obtain⟨i,j,e1,e2,_,q⟩:=gR (C:=fun _ _=>True) (g:=fun i j=>.int (i - j)) (fun _=>rfl) (fun i j x e=>by cases e; exact⟨trivial,fun _ _=>Res.int⟩) x y H Q h;exact⟨i,j,e1,e2,q⟩
theorem Eu:OpR X (binaryOp .FloorDiv) (fun x y=>rD W G .fdiv [x,y]):=Eh.imp (gR (fun _=>rfl) fun i j x e=>by
 by_cases h:0<j/\j<1073741824
 ·rw[if_pos h] at e; cases e; exact⟨h,fun _ _=>Res.int⟩
 ·rw[if_neg h] at e; cases e)
theorem En:OpR X (binaryOp .Mod) (fun x y=>rD W G .mod [x,y]):=A5.imp (gR (fun _=>rfl) fun i j x e=>by
 by_cases h:0<j
 ·rw[if_pos h] at e; cases e; exact⟨h,fun _ _=>Res.int⟩
 ·rw[if_neg h] at e; cases e)
theorem CV (h:dh i=true):i.natAbs<2 ^ 64:=by
 rw[Ip.gw] at h;omega
theorem CI:OpR X (binaryOp .Pow) (fun x y=>rD W G .pow [x,y]):=Cf.imp (gR (fun _=>rfl) fun i j x e=>by
 by_cases h:0<=j/\j<=1000000/\dh i=true
 ·rw[if_pos h] at e; cases e; exact⟨⟨h.1,h.2.1,CV h.2.2⟩,fun _ _=>Res.int⟩
 ·rw[if_neg h] at e; cases e)
theorem CC:OpR X (binaryOp .RShift) (fun x y=>rD W G .shr [x,y]):=wC.imp (gR (fun _=>rfl) fun i j x e=>by
 by_cases h:0<=j
 ·rw[if_pos h] at e; cases e; exact⟨h,fun _ _=>Res.int⟩
 ·rw[if_neg h] at e; cases e)
theorem pD:OpR X (compareOp .LtE) (fun x y=>rD W G .le [x,y]):=AL.imp fun x y H Q h=>by
 obtain⟨i,j,e1,e2,_,q⟩:=gR (C:=fun _ _=>True) (g:=fun i j=>.bl (decide (i<=j))) (fun _=>rfl) (fun i j x e=>by cases e; exact⟨trivial,fun _ _=>Res.bl⟩) x y H Q h;exact⟨i,j,e1,e2,q⟩
theorem qg:OpR X (compareOp .Gt) (fun x y=>rD W G .gt [x,y]):=CW.imp fun x y H Q h=>by
 obtain⟨i,j,e1,e2,_,q⟩:=gR (C:=fun _ _=>True) (g:=fun i j=>.bl (decide (j<i))) (fun _=>rfl) (fun i j x e=>by cases e; exact⟨trivial,fun _ _=>Res.bl⟩) x y H Q h;exact⟨i,j,e1,e2,q⟩
theorem pI:OpR X (compareOp .GtE) (fun x y=>rD W G .ge [x,y]):=AA.imp fun x y H Q h=>by
 obtain⟨i,j,e1,e2,_,q⟩:=gR (C:=fun _ _=>True) (g:=fun i j=>.bl (decide (j<=i))) (fun _=>rfl) (fun i j x e=>by cases e; exact⟨trivial,fun _ _=>Res.bl⟩) x y H Q h;exact⟨i,j,e1,e2,q⟩
theorem qq:OpR X (compareOp .Lt) (fun x y=>rD W G .lt [x,y]):=Bt.imp fun x y H Q h=>by
 obtain⟨i,j,e1,e2,_,q⟩:=gR (C:=fun _ _=>True) (g:=fun i j=>.bl (decide (i<j))) (fun _=>rfl) (fun i j x e=>by cases e; exact⟨trivial,fun _ _=>Res.bl⟩) x y H Q h;exact⟨i,j,e1,e2,q⟩
theorem OwnL.zero:∀{vs ds},Dens W S vs ds->OwnL (Own W S T 0) vs ds []
 | _,_,.nil=>.nil
 | _,_,.cons h q=>OwnL.cons (f:=[]) (g:=[]) ⟨rfl,h⟩ (OwnL.zero q)
theorem xX (hp:H p=none):Sub (hid N H) (hid (fun a=>N a\/a∈[p]) (upd H p o)):=
 fD (Sub.upd hp) fun a z=>z.imp id fun y=>by rw[List.mem_singleton.mp y]; exact hp
theorem Res.newL (hp:H p=none)(h:Dens W (hid N H) vs ds):Res W H N (upd H p (.lst vs)) (1,.lst ds) (.ref p):=
 ⟨Sub.upd hp,[p],by simp,fun a z=>by rw[List.mem_singleton.mp z]; exact hp,p,vs,[],rfl,bu,OwnL.zero (h.mono (xX hp)),rfl⟩
theorem Res.newT (hN:NOk N H)(hp:H p=none)(h:Dens W (hid N H) vs ds):Res W H N (upd H p (.tup vs)) (0,.tup ds) (.ref p):=
 Res.of_den (Sub.upd hp) (.tup (SqT.of (ax.mpr ⟨fun z=>hN p z hp,bu⟩)) (h.mono (fD (Sub.upd hp) fun a z=>.inl z)))
theorem Inv.rdL (I:Inv X pins σ H s)(h:Rd H l (.lst xs)):xs.length<=sizeLine/\∃(its:List Value) (n:Nat),Vals xs its/\xs.length=its.length/\s.heap.get? l=some { cls:=.type "list",data:=.seq its.toArray n }:=by
 obtain⟨z,its,n,r,e⟩:=h.ok I.hok;exact⟨z,its,n,r,r.length,e⟩
def l8:R2:=fun x y H Q=>∃l b xs zs,x=.ref l/\y=.ref b/\Rd H l (.lst xs)/\Rd H b (.lst zs)/\xs.length+zs.length<=sizeLine/\∀p,H p=none->Q (.ref p) (upd H p (.lst (xs++zs)))
theorem yc:OpR X (binaryOp .Add) l8:=by
 intro pins s σ H x y v u Q I rx ry h;obtain⟨l,b,xs,zs,rfl,rfl,hH,hB,hz,q⟩:=h;cases rx;cases ry;obtain⟨z,its,n,r,hl,e⟩:=I.rdL hH;obtain⟨z2,its2,n2,r2,hl2,e2⟩:=I.rdL hB;refine PySem.P.add_list e e2 ?_ (by rw[List.size_toArray,List.size_toArray]; omega);have ea:its.toArray++its2.toArray=(its++its2).toArray:=by simp
 rw[ea];exact⟨.ref _,_,I.lnew (t':=s.toks) (r.append r2) (by rw[List.length_append]; omega),rfl,q _ I.fresh⟩
theorem jg (h:n<=Ip.SL):n<=sizeLine:=br h (by decide)
theorem Dens.rep (h:Dens W S vs ds):∀k,Dens W S (List.replicate k vs).flatten (List.replicate k ds).flatten
 | 0=>.nil
 | k+1=>by
  rw[List.replicate_succ,List.replicate_succ,List.flatten_cons,List.flatten_cons];exact h.append (h.rep k)
theorem A0 (hK:W.K=X.K):OpR X (binaryOp .Mult) (fun x y=>rD W G .mul [x,y]):=by
 refine (v3.or DB).imp fun x y H Q hZz=>?_;obtain⟨N,xs,z,hN,hd,hz,hq⟩:=hZz;obtain⟨⟨k1,p⟩,⟨k2,q⟩,rfl,d1,d2⟩:=dg hd;simp only[Ip.Ea,bc] at hz;cases p <;> cases q <;> simp only[Ip.d5] at hz <;> try (cases hz; done)
 ·rename_i i j;cases d1;cases d2;by_cases h:(dh i||dh j)=true
  ·rw[if_pos h] at hz;cases hz;refine .inl ⟨i,j,rfl,rfl,?_,hq _ _ Res.int⟩;simp only[Bool.or_eq_true,Ip.gw] at h;unfold CMul;omega
  ·rw[if_neg h] at hz; cases hz
 ·rename_i xs j;cases d2;split at hz
  ·rename_i hl;cases hz;cases d1 with | @tup a vs _ e1 q1=>?_
   have ln:=q1.length;refine .inr ⟨a,j,vs,rfl,rfl,by rw[<-hK]; exact SqT.sub bj e1,?_,hl.2.1,hl.2.2.1,?_,fun e=>hq _ _ (Res.of_den (Sub.refl _) ?_),fun _ p hp=>hq _ _ (Res.newT hN hp (q1.rep _))⟩
   ·intro e;subst e;have:xs=[]:=List.length_eq_zero_iff.mp ln.symm;subst this;exact absurd hl.1 (by decide)
   ·rw[ln]; exact br hl.2.2.2 (by decide)
   ·subst e;have e2:(List.replicate (1:Int).toNat xs).flatten=xs:=by simp
    rw[e2];exact .tup e1 q1
  ·cases hz
theorem Bn (hK:W.K=X.K):OpR X (binaryOp .Add) (fun x y=>rD W G .add [x,y]):=by
 refine ((Bd.or yc).or (CK.or AB)).imp fun x y H Q hZz=>?_;obtain⟨N,xs,z,hN,hd,hz,hq⟩:=hZz;obtain⟨⟨k1,p⟩,⟨k2,q⟩,rfl,d1,d2⟩:=dg hd;simp only[Ip.CJ,bc] at hz;cases p <;> cases q <;> simp only[Ip.bK] at hz <;> try (cases hz; done)
 ·cases d1;cases d2;cases hz;exact .inl (.inl ⟨_,_,rfl,rfl,hq _ _ Res.int⟩)
 ·rename_i xs ys;split at hz
  ·rename_i hl;cases hz;cases d1 with | lst e1 q1=>?_
   cases d2 with | lst e2 q2=>?_
   refine .inl (.inr ⟨_,_,_,_,rfl,rfl,Rd.sub bj e1,Rd.sub bj e2,?_,fun p hp=>hq _ _ (Res.newL hp (q1.append q2))⟩);rw[q1.length,q2.length];exact jg hl
  ·cases hz
 ·rename_i xs ys;split at hz
  ·rename_i hl;cases hz;cases d1 with | @tup a vs _ e1 q1=>?_
   cases d2 with | @tup b ws _ e2 q2=>?_
   have s1:SqT X.K H a vs:=by rw[<-hK]; exact SqT.sub bj e1
   have s2:SqT X.K H b ws:=by rw[<-hK]; exact SqT.sub bj e2
   by_cases c1:vs=[]
   ·subst c1;cases q1;exact .inr (.inl ⟨a,b,ws,rfl,rfl,s1,s2,hq _ _ (Res.of_den (Sub.refl _) (.tup e2 q2))⟩)
   ·refine .inr (.inr ⟨a,b,vs,ws,rfl,rfl,s1,s2,c1,?_,fun c2=>?_,fun _ p hp=>hq _ _ (Res.newT hN hp (q1.append q2))⟩)
    ·rw[q1.length,q2.length];exact jg hl
    ·subst c2;cases q2;rw[List.append_nil] at hq;exact hq _ _ (Res.of_den (Sub.refl _) (.tup e1 q1))
  ·cases hz
end
mutual
noncomputable def bM:D->PyData
 | .non=>.none
 | .bl b=>.bool b
 | .int i=>.int i
 | .str s=>.str s
 | .lst xs=>.list (pyDs xs)
 | .tup xs=>.tuple (pyDs xs)
 | .ins _ _=>.none
 | .exc _ _=>.none
noncomputable def pyDs:List D->List PyData
 | []=>[]
 | d::ds=>bM d::pyDs ds
end
mutual
theorem oY:∀x y:D,∀n m,x.pur n=true->y.pur m=true->PyData.eqv (bM x) (bM y)=x.eq y
 | .lst xs,y,n,m,hx,hy=>by
  cases n with
  | zero=>cases hx
  | succ n=>
   cases y with
   | lst ys=>
    cases m with
    | zero=>cases hy
    | succ m=>rw[bM,bM,D.eq,PyData.eqv]; exact zHh xs ys n m hx hy
   | ins _ _=>cases m <;> cases hy
   | exc _ _=>cases m <;> cases hy
   | _=>simp[bM,D.eq,PyData.eqv]
 | .tup xs,y,n,m,hx,hy=>by
  cases n with
  | zero=>cases hx
  | succ n=>
   cases y with
   | tup ys=>
    cases m with
    | zero=>cases hy
    | succ m=>rw[bM,bM,D.eq,PyData.eqv]; exact zHh xs ys n m hx hy
   | ins _ _=>cases m <;> cases hy
   | exc _ _=>cases m <;> cases hy
   | _=>simp[bM,D.eq,PyData.eqv]
 | .ins _ _,_,n,_,hx,_=>by cases n <;> cases hx
 | .exc _ _,_,n,_,hx,_=>by cases n <;> cases hx
 | .non,y,_,m,_,hy=>by
  cases y with
  | ins _ _=>cases m <;> cases hy
  | exc _ _=>cases m <;> cases hy
  | _=>simp[bM,D.eq,PyData.eqv]
 | .bl b,y,_,m,_,hy=>by
  cases y with
  | bl c=>cases b <;> cases c <;> rfl
  | int i=>rw[bM,bM,D.eq,PyData.eqv]; rfl
  | ins _ _=>cases m <;> cases hy
  | exc _ _=>cases m <;> cases hy
  | _=>simp[bM,D.eq,PyData.eqv]
 | .int i,y,_,m,_,hy=>by
  cases y with
  | bl c=>rw[bM,bM,D.eq,PyData.eqv]; rfl
  | int i=>rw[bM,bM,D.eq,PyData.eqv]; rfl
  | ins _ _=>cases m <;> cases hy
  | exc _ _=>cases m <;> cases hy
  | _=>simp[bM,D.eq,PyData.eqv]
 | .str i,y,_,m,_,hy=>by
  cases y with
  | str j=>rw[bM,bM,D.eq,PyData.eqv]; by_cases h:i=j <;> simp[h]
  | ins _ _=>cases m <;> cases hy
  | exc _ _=>cases m <;> cases hy
  | _=>simp[bM,D.eq,PyData.eqv]
theorem zHh:∀xs ys:List D,∀n m,xs.all (D.pur n)=true->ys.all (D.pur m)=true->PyData.eqvAll (pyDs xs) (pyDs ys)=D.eqs xs ys
 | [],[],_,_,_,_=>by simp[pyDs,D.eqs,PyData.eqvAll]
 | [],_::_,_,_,_,_=>by simp[pyDs,D.eqs,PyData.eqvAll]
 | _::_,[],_,_,_,_=>by simp[pyDs,D.eqs,PyData.eqvAll]
 | x::xs,y::ys,n,m,hx,hy=>by
  rw[List.all_cons,Bool.and_eq_true] at hx hy;rw[pyDs,pyDs,D.eqs,PyData.eqvAll,oY x y n m hx.1 hy.1,zHh xs ys n m hx.2 hy.2]
end
mutual
theorem sU:∀x:D,∀n,x.pur n=true->(bM x).canLay0=true/\(bM x).depth<=n
 | .lst xs,n,hx=>by
  cases n with
  | zero=>cases hx
  | succ n=>
   obtain⟨h1,h2⟩:=zG0 xs n hx;rw[bM,PyData.canLay0,PyData.depth];exact⟨h1,by omega⟩
 | .tup xs,n,hx=>by
  cases n with
  | zero=>cases hx
  | succ n=>
   obtain⟨h1,h2⟩:=zG0 xs n hx;rw[bM,PyData.canLay0,PyData.depth];exact⟨h1,by omega⟩
 | .ins _ _,n,hx=>by cases n <;> cases hx
 | .exc _ _,n,hx=>by cases n <;> cases hx
 | .non,_,_=>by simp[bM,PyData.canLay0,PyData.depth]
 | .bl _,_,_=>by simp[bM,PyData.canLay0,PyData.depth]
 | .int _,_,_=>by simp[bM,PyData.canLay0,PyData.depth]
 | .str s,n,hx=>by
  rw[Ip.B0] at hx;rw[bM,PyData.canLay0,PyData.depth];exact⟨hx,Nat.zero_le _⟩
theorem zG0:∀xs:List D,∀n,xs.all (D.pur n)=true->PyData.canLayAll0 (pyDs xs)=true/\PyData.depthAll (pyDs xs)<=n
 | [],_,_=>by simp[pyDs,PyData.canLayAll0,PyData.depthAll]
 | x::xs,n,hx=>by
  rw[List.all_cons,Bool.and_eq_true] at hx;obtain⟨h1,h2⟩:=sU x n hx.1;obtain⟨h3,h4⟩:=zG0 xs n hx.2;rw[pyDs,PyData.canLayAll0,PyData.depthAll,h1,h3];exact⟨rfl,Nat.max_le.mpr ⟨h2,h4⟩⟩
end
theorem nM (h:x.pur 60=true):SeqAt.shaped (bM x)=true:=by
 obtain⟨h1,h2⟩:=sU x 60 h;unfold SeqAt.shaped;rw[h1,Bool.true_and];exact decide_eq_true (by omega)
section
variable {X:Cx}{W:Wd}{G:Pg}{pins:List (Addr×Obj)}{σ:St}{H:Hp}{s:Shared}
mutual
theorem Den.reads (hK:W.K=X.K)(I:Inv X pins σ H s):∀{v:V} {d:D} {u:Value} (n:Nat),Den W H v d->d.pur n=true->RelV v u->∃as,Reads s.heap u (bM d) as
 | _,_,_,_,.non,_,r=>by cases r; exact⟨_,by rw[bM]; exact .none⟩
 | _,_,_,_,.bl,_,r=>by cases r; exact⟨_,by rw[bM]; exact .bool _⟩
 | _,_,_,_,.int,_,r=>by obtain⟨t,rfl⟩:=r; exact⟨_,by rw[bM]; exact .int _ t⟩
 | _,_,_,_,.str,_,r=>by obtain⟨t,rfl⟩:=r; exact⟨_,by rw[bM]; exact .str _ t⟩
 | _,_,_,n,.lst e q,hp,r=>by
  cases r;cases n with
  | zero=>cases hp
  | succ n=>
   obtain⟨_,its,k,rv,_,eo⟩:=I.rdL e;obtain⟨as,ra⟩:=q.reads hK I n hp rv;exact⟨_,by rw[bM]; exact reads_list_at eo rfl rfl (by simpa using ra)⟩
 | _,_,_,n,.tup e q,hp,r=>by
  cases r;cases n with
  | zero=>cases hp
  | succ n=>
   obtain⟨its,rv,⟨o,eo,hc,k,hd⟩,_⟩:=I.tuple (hK ▸ e);obtain⟨as,ra⟩:=q.reads hK I n hp rv;exact⟨_,by rw[bM]; exact reads_tuple_at eo hc hd (by simpa using ra)⟩
 | _,_,_,n,.ins _ _ _,hp,_=>by cases n <;> cases hp
 | _,_,_,n,.exc _ _ _,hp,_=>by cases n <;> cases hp
theorem Dens.reads (hK:W.K=X.K)(I:Inv X pins σ H s):∀{vs:List V} {ds:List D} {us:List Value} (n:Nat),Dens W H vs ds->ds.all (D.pur n)=true->Vals vs us->∃as,ReadsAll s.heap us (pyDs ds) as
 | _,_,_,_,.nil,_,.nil=>⟨_,by rw[pyDs]; exact .nil⟩
 | _,_,_,n,.cons h q,hp,.cons r t=>by
  rw[List.all_cons,Bool.and_eq_true] at hp;obtain⟨as,h1⟩:=h.reads hK I n hp.1 r;obtain⟨bs,h2⟩:=q.reads hK I n hp.2 t;exact⟨_,by rw[pyDs]; exact .cons h1 h2⟩
end
theorem pz (hK:W.K=X.K)(hu:X.A.units+64<cLine):OpR X (compareOp .Eq) (fun x y=>rD W G .eq [x,y]):=by
 rintro pins s σ H x y v u Q I rx ry ⟨N,xs,z,hN,hd,hz,hq⟩;obtain⟨⟨k1,p⟩,⟨k2,q⟩,rfl,d1,d2⟩:=dg hd;simp only[Ip.C2,bc,jX] at hz;split at hz
 ·rename_i hp;rw[Bool.and_eq_true] at hp;cases hz;obtain⟨_,r1⟩:=(d1.mono bj).reads hK I 60 hp.1 rx;obtain⟨_,r2⟩:=(d2.mono bj).reads hK I 60 hp.2 ry;refine eq_dataH r1 r2 (nM hp.1) (nM hp.2) hu ⟨.bl _,H,I,rfl,?_⟩;rw[oY p q 60 60 hp.1 hp.2];exact hq _ _ Res.bl
 ·cases hz
theorem oM (hK:W.K=X.K)(hu:X.A.units+64<cLine):OpR X (compareOp .NotEq) (fun x y=>rD W G .ne [x,y]):=by
 rintro pins s σ H x y v u Q I rx ry ⟨N,xs,z,hN,hd,hz,hq⟩;obtain⟨⟨k1,p⟩,⟨k2,q⟩,rfl,d1,d2⟩:=dg hd;simp only[Ip.Cb,bc,jX] at hz;split at hz
 ·rename_i hp;rw[Bool.and_eq_true] at hp;cases hz;obtain⟨_,r1⟩:=(d1.mono bj).reads hK I 60 hp.1 rx;obtain⟨_,r2⟩:=(d2.mono bj).reads hK I 60 hp.2 ry;refine ne_dataH r1 r2 (nM hp.1) (nM hp.2) hu ⟨.bl _,H,I,rfl,?_⟩;rw[oY p q 60 60 hp.1 hp.2];exact hq _ _ Res.bl
 ·cases hz
end
end L2
end
section
namespace L2
open PySem PySem.Spec PyProof.Rows
open Ip (D KD Ex Op Pg Fn Sl Fr Wk Tg Tb SL ki lR cZ aH au cB cE cI cT cP ce hU ft cu aC compF aA lB fA iu kh kl kF jI bQ lw gk evals bh cM excA fB frz frz1 bE jo b7 aM aY dJ isNone ao aL aE eO aW bL kD ah bW noStar dm cj eS fG aJ bJ bc fJ gj aR pos? pos?_get aO cq ci dO cU df dD)
section
variable {X:Cx}{W:Wd}{G:Pg}
theorem B5:∀x H Q,rD W G .neg [x] H Q->rU (fun i=>.int (-i)) x H Q:=by
 rintro x H Q ⟨N,xs,z,hN,hd,hz,hq⟩;obtain⟨⟨k1,p⟩,rfl,d1⟩:=dW hd;simp only[Ip.EC,bJ] at hz;cases p <;> simp only[Ip.i6] at hz <;> try (cases hz; done)
 cases d1;cases hz;exact⟨_,rfl,hq _ _ Res.int⟩
theorem zS:∀x H Q,rD W G .not [x] H Q->∃c,x=.bl c/\Q (.bl (!c)) H:=by
 rintro x H Q ⟨N,xs,z,hN,hd,hz,hq⟩;obtain⟨⟨k1,p⟩,rfl,d1⟩:=dW hd;simp only[Ip.wS,bJ] at hz;cases p <;> simp only[Ip.i8] at hz <;> try (cases hz; done)
 cases d1;cases hz;exact⟨_,rfl,hq _ _ Res.bl⟩
theorem Den.non_iff {S:Hp}{v:V}{d:D}(h:Den W S v d):decide (v=.non)=(match d with | .non=>true | _=>false):=by
 cases h <;> simp
theorem sR:∀x H Q,rD W G .isN [x] H Q->Q (.bl (decide (x=.non))) H:=by
 rintro x H Q ⟨N,xs,z,hN,hd,hz,hq⟩;obtain⟨⟨k1,p⟩,rfl,d1⟩:=dW hd;rw[d1.non_iff];simp only[Ip.Dq,bJ] at hz;cases p <;> simp only[dJ,fB] at hz <;> cases hz <;> exact hq _ _ Res.bl
theorem ur:∀x H Q,rD W G .notN [x] H Q->Q (.bl (!decide (x=.non))) H:=by
 rintro x H Q ⟨N,xs,z,hN,hd,hz,hq⟩;obtain⟨⟨k1,p⟩,rfl,d1⟩:=dW hd;rw[d1.non_iff];simp only[Ip.zA,bJ] at hz;cases p <;> simp only[dJ,fB] at hz <;> cases hz <;> exact hq _ _ Res.bl
theorem Den.flatV {S:Hp}{v:V}{d:D}(h:Den W S v d)(hs:d.scal=true):flatV v=true:=by
 cases h <;> first | rfl | cases hs
theorem Den.eqV {S:Hp}{v w:V}{d e:D}(h:Den W S v d)(k:Den W S w e)(hs:d.scal=true)(ks:e.scal=true):eqV v w=d.eq e:=by
 cases h <;> first | (cases hs; done) | (cases k <;> first | (cases ks; done) | rfl | simp[L2.eqV,D.eq])
theorem Dens.flatV {S:Hp}:∀{vs:List V} {ds:List D},Dens W S vs ds->ds.all D.scal=true->vs.all L2.flatV=true
 | _,_,.nil,_=>rfl
 | _,_,.cons h q,hs=>by
  rw[List.all_cons,Bool.and_eq_true] at hs;rw[List.all_cons,h.flatV hs.1,q.flatV hs.2]; rfl
theorem Dens.inV {S:Hp}{x:V}{d:D}(hx:Den W S x d)(sx:d.scal=true):∀{vs:List V} {ds:List D},Dens W S vs ds->ds.all D.scal=true->inV x vs=d.memb ds
 | _,_,.nil,_=>rfl
 | _,_,.cons h q,hs=>by
  rw[List.all_cons,Bool.and_eq_true] at hs;have e:=q.inV hx sx hs.2;unfold L2.inV D.memb at e ⊢;rw[List.any_cons,List.any_cons,h.eqV hx hs.1 sx,e]
theorem Den.seq {S:Hp}{v:V}{d:D}{xs:List D}(h:Den W S v d)(e:d.seq=some xs):∃a vs,v=.ref a/\((SqL W.K S a vs/\Rd S a (.lst vs))\/SqT W.K S a vs)/\Dens W S vs xs:=by
 cases h <;> simp only[D.seq] at e <;> try (cases e; done)
 ·rename_i h1 h2;cases e;exact⟨_,_,rfl,.inl ⟨.inl h1,h1⟩,h2⟩
 ·rename_i h1 h2;cases e;exact⟨_,_,rfl,.inr h1,h2⟩
theorem vd {neg:Bool}{o:Op}(ho:∀xs,aR G o xs=bc (jo neg) xs)(hK:W.K=X.K):∀x y H Q,rD W G o [x,y] H Q->qo X.K neg x y H Q:=by
 rintro x y H Q ⟨N,xs,z,hN,hd,hz,hq⟩;obtain⟨⟨k1,p⟩,⟨k2,q⟩,rfl,d1,d2⟩:=dg hd;rw[ho] at hz;simp only[bc,jo] at hz;cases e:q.seq with
 | none=>rw[e] at hz; cases hz
 | some ys=>
  rw[e] at hz;simp only at hz;split at hz
  ·rename_i hp;rw[Bool.and_eq_true] at hp;cases hz;obtain⟨a,vs,rfl,hs,hv⟩:=d2.seq e;refine⟨a,vs,rfl,?_,d1.flatV hp.1,hv.flatV hp.2,?_⟩
   ·rw[<-hK];exact hs.imp (fun h=>SqL.sub bj h.1) (SqT.sub bj)
   ·rw[hv.inV d1 hp.1 hp.2];exact hq _ _ Res.bl
  ·cases hz
theorem qC (hK:W.K=X.K):OpR X (compareOp .In) (fun x y=>rD W G .isin [x,y]):=C8.imp (vd (fun _=>rfl) hK)
theorem Bc (hK:W.K=X.K):OpR X (compareOp .NotIn) (fun x y=>rD W G .nin [x,y]):=AV.imp (vd (fun _=>rfl) hK)
theorem qk (hK:W.K=X.K):mY X (fun x y=>rD W G .ix [x,y]):=by
 rintro value slice pins s σ H x y v u Q I rx ry ⟨N,xs,z,hN,hd,hz,hq⟩ hs;obtain⟨⟨k1,p⟩,⟨k2,q⟩,rfl,d1,d2⟩:=dg hd;simp only[Ip.yA,bc] at hz;cases q <;> simp only[Ip.aF] at hz <;> try (cases hz; done)
 cases d2;rename_i i;cases e:p.seq with
 | none=>rw[e] at hz; cases hz
 | some ds=>
  rw[e] at hz;simp only at hz;obtain⟨a,vs,rfl,hsq,hv⟩:=d1.seq e;cases e2:(Ip.ef ds.length i).bind fun j=>ds[j]? with
  | none=>rw[e2] at hz; cases hz
  | some d=>
   rw[e2] at hz;cases hz;obtain⟨j,ej,ed⟩:=dL e2;obtain⟨w,ew,dw⟩:=hv.get ed;have ha:kX vs i=some w:=by
    unfold kX;have:kE vs.length i=some j:=by rw[hv.length]; exact ej
    rw[this]; exact ew
   have hr:Q w H:=hq _ _ (Res.of_den (Sub.refl _) dw);rcases hsq with hl | ht
   ·exact ER value slice pins s σ H _ _ v u Q I rx ry ⟨a,vs,i,w,rfl,rfl,by rw[<-hK]; exact SqL.sub bj hl.1,ha,hr⟩ hs
   ·exact AH value slice pins s σ H _ _ v u Q I rx ry ⟨a,vs,i,w,rfl,rfl,by rw[<-hK]; exact SqT.sub bj ht,ha,hr⟩ hs
theorem uA (n d:Nat)(o:Option Int):HT.sIx n d o=Ip.cQ n d o:=by
 cases o with
 | none=>rfl
 | some i=>
  show (if i<0 then (i+(n:Int)).toNat else min i.toNat n)=if 0<=i then min i.toNat n else (i+n).toNat
  by_cases h:i<0
  ·rw[if_pos h,if_neg (by omega)]
  ·rw[if_neg h,if_pos (by omega)]
theorem Dens.cut {S:Hp}{vs:List V}{ds:List D}(h:Dens W S vs ds)(lo hi:Option Int):Dens W S (c9 vs lo hi) (Ip.cutD ds lo hi):=by
 unfold c9 Ip.cutD;rw[uA,uA,h.length];exact (h.drop _).take _
def jn (W:Wd):V->Option Int->Option Int->Hp->VK->Prop:=fun x lo hi H Q=>∃N d z,NOk N H/\Den W (hid N H) x d/\aA lo hi d=some z/\∀v H',Res W H N H' z v->Q v H'
theorem oy (hK:W.K=X.K):lx X (jn W):=by
 rintro pins s σ H x v vl vu lo hi sl Q I rx hs pl pu ⟨N,d,z,hN,hd,hz,hq⟩;cases hd <;> simp only[aA] at hz <;> try (cases hz; done)
 rotate_left
 ·rename_i a vs ds h1 h2;cases hz;refine Ee pins s σ H _ v vl vu lo hi sl Q I rx hs pl pu ⟨a,vs,rfl,by rw[<-hK]; exact SqT.sub bj h1,fun hw=>hq _ _ (Res.of_den (Sub.refl _) ?_),fun _ p hp=>hq _ _ (Res.newT hN hp (h2.cut lo hi))⟩;have c:=h2.cut lo hi;have e:c9 vs lo hi=vs:=by
   unfold c9;rw[hw.1,hw.2];simp
  rw[e] at c;exact .tup h1 c
 rename_i a vs ds h1 h2;cases hz;exact zi pins s σ H _ v vl vu lo hi sl Q I rx hs pl pu ⟨a,vs,rfl,by rw[<-hK]; exact .inl (Rd.sub bj h1),fun p hp=>hq _ _ (Res.newL hp (h2.cut lo hi))⟩
theorem CallR.imp {f:Value}{r r':List V->Hp->VK->Prop}(h:CallR X f r)(k:∀xs H Q,r' xs H Q->r xs H Q):CallR X f r':=fun pins s σ H xs us Q I r q=>h pins s σ H xs us Q I r (k xs H Q q)
theorem Dens.vs1 {S:Hp}{vs:List V}{xs:List KD}{o:Op}{f:D->Option KD}{z:KD}(h:Dens W S vs (xs.map (·.2)))(e:bJ f xs=some z):∃v p,vs=[v]/\xs=[p]/\Den W S v p.2/\f p.2=some z:=by
 cases xs with
 | nil=>exact (dm e).elim
 | cons p r=>
  cases r with
  | nil=>
   obtain⟨v,rfl,h1⟩:=Dens.one h;exact⟨v,p,rfl,rfl,h1,e⟩
  | cons _ _=>exact (dm e).elim
theorem rj {f:List D->Option KD}{d:D}{z:KD}(e:gj f d=some z):∃xs,d.seq=some xs/\f xs=some z:=by
 unfold gj at e;cases q:d.seq with
 | none=>rw[q] at e; cases e
 | some xs=>rw[q] at e; exact⟨xs,rfl,e⟩
theorem nJ {f:List D->Option KD}{d:D}{z:KD}(e:fJ f d=some z):∃xs,d=.lst xs/\f xs=some z:=by
 cases d <;> simp only[fJ] at e <;> first | exact⟨_,rfl,e⟩ | cases e
theorem yu (hK:W.K=X.K):CallR X (.builtin "len") (fun xs=>rD W G .len xs):=B3.imp fun vs H Q ⟨N,xs,z,hN,hd,hz,hq⟩=>by
 simp only[Ip.Eo] at hz;obtain⟨v,p,rfl,rfl,dv,ez⟩:=hd.vs1 (o:=.len) hz;obtain⟨ds,e1,e2⟩:=rj ez;obtain⟨a,ws,rfl,hs,hv⟩:=dv.seq e1;cases e2;refine⟨a,ws,rfl,?_,?_⟩
 ·rw[<-hK]; exact hs.imp (fun h=>SqL.sub bj h.1) (SqT.sub bj)
 ·rw[hv.length]; exact hq _ _ Res.int
theorem xW (hK:W.K=X.K):CallR X (.type "list") (fun xs=>rD W G .list xs):=BE.imp fun vs H Q ⟨N,xs,z,hN,hd,hz,hq⟩=>by
 simp only[Ip.BS] at hz;obtain⟨v,p,rfl,rfl,dv,ez⟩:=hd.vs1 (o:=.list) hz;obtain⟨ds,e1,e2⟩:=rj ez;obtain⟨a,ws,rfl,hs,hv⟩:=dv.seq e1;cases e2;refine⟨a,ws,rfl,?_,fun l hl=>hq _ _ (Res.newL hl hv)⟩;rw[<-hK]; exact hs.imp (fun h=>SqL.sub bj h.1) (SqT.sub bj)
theorem zu (hK:W.K=X.K):CallR X (.type "tuple") (fun xs=>rD W G .tuple xs):=wF.imp fun vs H Q ⟨N,xs,z,hN,hd,hz,hq⟩=>by
 simp only[Ip.Ad] at hz;obtain⟨v,p,rfl,rfl,dv,ez⟩:=hd.vs1 (o:=.tuple) hz;obtain⟨k,d⟩:=p;cases dv with
 | @lst a ws ds h1 h2=>
  cases ez;exact⟨a,ws,rfl,.inl ⟨by rw[<-hK]; exact .inl (Rd.sub bj h1),fun l hl=>hq _ _ (Res.newT hN hl h2)⟩⟩
 | @tup a ws ds h1 h2=>
  cases ez;exact⟨a,ws,rfl,.inr ⟨by rw[<-hK]; exact SqT.sub bj h1,hq _ _ (Res.of_den (Sub.refl _) (.tup h1 h2))⟩⟩
 | _=>cases ez
theorem Ai:CallR X (.type "int") (fun xs=>rD W G .toInt xs):=EY.imp fun vs H Q ⟨N,xs,z,hN,hd,hz,hq⟩=>by
 simp only[Ip.y8] at hz;obtain⟨v,p,rfl,rfl,dv,ez⟩:=hd.vs1 (o:=.toInt) hz;obtain⟨k,d⟩:=p;cases dv <;> simp only[Ip.intD] at ez <;> try (cases ez; done)
 ·cases ez;exact .inr ⟨_,rfl,hq _ _ Res.int⟩
 ·cases ez;exact .inl ⟨_,rfl,hq _ _ Res.int⟩
theorem u8:∀{ds:List D} {b:Bool},Ip.allB ds=some b->∃bs:List Bool,ds=bs.map .bl/\b=bs.all id
 | [],b,h=>⟨[],rfl,by cases h; rfl⟩
 | .bl c::ds,b,h=>by
  rw[Ip.allB] at h;obtain⟨c',e,rfl⟩:=cy h;obtain⟨bs,rfl,rfl⟩:=u8 e;exact⟨c::bs,rfl,rfl⟩
theorem vz:∀{ds:List D} {b:Bool},Ip.anyB ds=some b->∃bs:List Bool,ds=bs.map .bl/\b=bs.any id
 | [],b,h=>⟨[],rfl,by cases h; rfl⟩
 | .bl c::ds,b,h=>by
  rw[Ip.anyB] at h;obtain⟨c',e,rfl⟩:=cy h;obtain⟨bs,rfl,rfl⟩:=vz e;exact⟨c::bs,rfl,rfl⟩
theorem Dens.bools {S:Hp}:∀{vs:List V} {bs:List Bool},Dens W S vs (bs.map .bl)->vs=bs.map .bl
 | [],[],_=>rfl
 | v::vs,b::bs,.cons h q=>by rw[h.bl_inv,q.bools]; rfl
theorem Vals.bool_at {bs:List Bool}:∀{us:List Value} {i:Nat} {v:Value},Vals (bs.map .bl) us->us[i]? = some v->∃b,bs[i]? = some b/\v=.bool b:=by
 intro us i v r e;have hl:bs.length=us.length:=by simpa using r.length
 have hi:i<us.length:=(cr e).1;have hb:(bs.map V.bl)[i]? = some (.bl bs[i]):=by simp[List.getElem?_map,List.getElem?_eq_getElem (by omega:i<bs.length)]
 obtain⟨u,e2,r2⟩:=r.get hb;rw[e] at e2;cases e2;exact⟨_,List.getElem?_eq_getElem (by omega),r2⟩
theorem Ah (hc:X.calm=true):CallR X (.builtin "all") (fun xs=>rD W G .all xs):=by
 rintro pins s σ H vs us Q I rs ⟨N,xs,z,hN,hd,hz,hq⟩;simp only[Ip.CZ] at hz;obtain⟨v,p,rfl,rfl,dv,ez⟩:=hd.vs1 (o:=.all) hz;obtain⟨ds,e1,e2⟩:=nJ ez;obtain⟨u,rfl,ru⟩:=rs.one;rw[e1] at dv;cases dv with | @lst l ws _ h1 h2=>?_
 cases ru;cases e3:Ip.allB ds with
 | none=>rw[e3] at e2; cases e2
 | some b=>
  rw[e3] at e2;cases e2;obtain⟨bs,rfl,rfl⟩:=u8 e3;have:=h2.bools;subst this;obtain⟨_,its,n,rv,hlen,eo⟩:=I.rdL (Rd.sub bj h1);have hl:s.heap.IsList l its.toArray:=⟨_,eo,rfl,n,rfl⟩
  have hlt:l<s.heap.objs.size:=bn eo;refine call_all_walk (wpAny_pyIter_list hl ?_);refine⟨s.heap.objs.size,[s.heap.objs.size,l],[s.heap.objs.size],its.toArray.size,_,_,fun i=>(bs[i]?).getD true,rfl,Walks.list (A:=X.A.in1) (I.ok.hd hc) _ l (cH hlt) its.toArray,
   ⟨⟨_,cR _ rfl,rfl,rfl⟩,hl.push _⟩,fun i v s' Q' E' hP hQ=>?_,fun h' tk hk=>?_⟩
  ·obtain⟨b,e,rfl⟩:=rv.bool_at (i:=i) (v:=v) (by simpa using hP);simp only[e,Option.getD_some] at hQ;exact wpAny_truthy_bool hQ
  ·have e:((List.range its.toArray.size).all fun i=>(bs[i]?).getD true)=bs.all id:=by
    rw[List.size_toArray,<-hlen,List.length_map]; exact LSm.range_all bs
   rw[e];exact⟨.bl _,H,I.kept (t':=tk) (LSm.kept_iter hk),rfl,hq _ _ Res.bl⟩
theorem EK (hc:X.calm=true):CallR X (.builtin "any") (fun xs=>rD W G .any xs):=by
 rintro pins s σ H vs us Q I rs ⟨N,xs,z,hN,hd,hz,hq⟩;simp only[Ip.zR] at hz;obtain⟨v,p,rfl,rfl,dv,ez⟩:=hd.vs1 (o:=.any) hz;obtain⟨ds,e1,e2⟩:=nJ ez;obtain⟨u,rfl,ru⟩:=rs.one;rw[e1] at dv;cases dv with | @lst l ws _ h1 h2=>?_
 cases ru;cases e3:Ip.anyB ds with
 | none=>rw[e3] at e2; cases e2
 | some b=>
  rw[e3] at e2;cases e2;obtain⟨bs,rfl,rfl⟩:=vz e3;have:=h2.bools;subst this;obtain⟨_,its,n,rv,hlen,eo⟩:=I.rdL (Rd.sub bj h1);have hl:s.heap.IsList l its.toArray:=⟨_,eo,rfl,n,rfl⟩
  have hlt:l<s.heap.objs.size:=bn eo;refine call_any_walk (wpAny_pyIter_list hl ?_);refine⟨s.heap.objs.size,[s.heap.objs.size,l],[s.heap.objs.size],its.toArray.size,_,_,fun i=>(bs[i]?).getD false,rfl,Walks.list (A:=X.A.in1) (I.ok.hd hc) _ l (cH hlt) its.toArray,
   ⟨⟨_,cR _ rfl,rfl,rfl⟩,hl.push _⟩,fun i v s' Q' E' hP hQ=>?_,fun h' tk hk=>?_⟩
  ·obtain⟨b,e,rfl⟩:=rv.bool_at (i:=i) (v:=v) (by simpa using hP);simp only[e,Option.getD_some] at hQ;exact wpAny_truthy_bool hQ
  ·have e:((List.range its.toArray.size).any fun i=>(bs[i]?).getD false)=bs.any id:=by
    rw[List.size_toArray,<-hlen,List.length_map]; exact LSm.range_any bs
   rw[e];exact⟨.bl _,H,I.kept (t':=tk) (LSm.kept_iter hk),rfl,hq _ _ Res.bl⟩
theorem uN {S:Hp}:∀{ns:List Nat} {vs:List V},Dens W S vs (ah ns)->vs=dB ns
 | [],_,h=>by cases h; rfl
 | n::ns,_,h=>by
  cases h with
  | cons h q=>
   cases h;rw[uN q];rfl
theorem ug {S:Hp}:∀{ns:List Nat},Dens W S (dB ns) (ah ns)
 | []=>.nil
 | n::ns=>.cons .int ug
theorem uP:∀{ds:List D} {ns:List Nat},bW ds=some ns->ds=ah ns/\∀n∈ns,n<6
 | [],ns,h=>by cases h; exact⟨rfl,fun n hn=>by simp at hn⟩
 | d::ds,ns,h=>by
  cases d with
  | int i=>
   unfold bW at h;by_cases c:0<=i/\i<6
   ·rw[if_pos c] at h;obtain⟨ms,e1,e2⟩:=cy h;obtain⟨h1,h2⟩:=uP e1;subst e2;refine⟨?_,fun n hn=>?_⟩
    ·rw[h1];show _=D.int (Int.ofNat i.toNat)::ah ms;rw[Int.ofNat_eq_natCast,Int.toNat_of_nonneg c.1]
    ·rcases bN hn with z | z
     ·rw[z]; omega
     ·exact h2 n z
   ·rw[if_neg c] at h; cases h
  | _=>exact nomatch h
theorem xl:((St.subs 6).all fun l=>decide (l=(List.range 6).filter fun k=>l.contains k))=true:=by decide +kernel
theorem xM {l:List Nat}{k x:Nat}:x∈St.stp l k↔x∈l\/x=k:=by
 unfold St.stp St.ins;by_cases c:k∈l
 ·rw[if_pos c];exact⟨.inl,fun h=>h.elim id fun z=>z ▸ c⟩
 ·rw[if_neg c];simp only[List.mem_append,List.mem_filter,List.mem_cons];have b1:∀a b:Nat,Nat.blt a b=true↔a<b:=fun a b=>⟨Nat.le_of_ble_eq_true,Nat.ble_eq_true_of_le⟩
  simp only[b1];constructor
  ·rintro (h | h | h)
   ·exact .inl h.1
   ·exact .inr h
   ·exact .inl h.1
  ·rintro (h | h)
   ·rcases Nat.lt_trichotomy x k with z | z | z
    ·exact .inl ⟨h,z⟩
    ·exact .inr (.inl z)
    ·exact .inr (.inr ⟨h,z⟩)
   ·exact .inr (.inl h)
theorem Dk {l:List Nat}{k:Nat}(hl:l∈St.subs 6)(hk:k<6):St.stp l k∈St.subs 6:=by
 unfold St.stp;by_cases c:k∈l
 ·rw[if_pos c]; exact hl
 ·rw[if_neg c];exact (St.ins_of hl hk c).2.2.2.2.1
theorem tf:∀(ns l:List Nat),l∈St.subs 6->(∀n∈ns,n<6)->ns.foldl St.stp l∈St.subs 6/\∀x,x∈ns.foldl St.stp l↔x∈l\/x∈ns
 | [],l,hl,_=>⟨hl,fun x=>by simp⟩
 | n::ns,l,hl,h=>by
  obtain⟨h1,h2⟩:=tf ns (St.stp l n) (Dk hl (h n bD)) fun m hm=>h m (bw _ hm);refine⟨h1,fun x=>?_⟩;rw[List.foldl_cons,h2 x,xM,List.mem_cons,or_assoc]
theorem CA {ns:List Nat}(h:∀n∈ns,n<6):ns.foldl St.stp []=aO ns:=by
 obtain⟨h1,h2⟩:=tf ns [] (by decide +kernel) h;have:=of_decide_eq_true (dF xl _ h1);rw[this];unfold aO;refine List.filter_congr fun k _=>?_;rw[Bool.eq_iff_iff,List.contains_iff_mem,List.contains_iff_mem,h2 k];simp
theorem BR (hK:W.K=X.K):∀x H Q,rD W G .srtSet [x] H Q->∃a ns,x=.ref a/\SqL X.K H a (dB ns)/\(∀n∈ns,n<6)/\∀p,H p=none->Q (.ref p) (upd H p (.lst (dB (ns.foldl St.stp [])))):=by
 rintro x H Q ⟨N,xs,z,hN,hd,hz,hq⟩;simp only[Ip.yg] at hz;obtain⟨v,p,e,rfl,dv,ez⟩:=hd.vs1 (o:=.srtSet) hz;cases e;obtain⟨ds,e1,e2⟩:=nJ ez;rw[e1] at dv;cases dv with | @lst a vs _ h1 h2=>?_
 cases q:bW ds with
 | none=>rw[q] at e2; cases e2
 | some ns=>
  rw[q] at e2;cases e2;obtain⟨r1,r2⟩:=uP q;rw[r1] at h2;have ev:=uN h2;subst ev;refine⟨a,ns,rfl,by rw[<-hK]; exact .inl (Rd.sub bj h1),r2,fun p hp=>hq _ _ ?_⟩;rw[CA r2];exact Res.newL hp ug
end
theorem OwnF.re {att:List Str}{P Q:V->D->List Addr->Prop}{b:D->Bool}(hP:∀v d f,b d=true->P v d f->Q v d f):∀{vs ds fp},(ds.all fun p=>b p.2)=true->OwnF att P vs ds fp->OwnF att Q vs ds fp
 | _,_,_,_,.nil=>.nil
 | _,_,_,hf,.cons e h q=>by
  rw[List.all_cons,Bool.and_eq_true] at hf;exact .cons e (hP _ _ _ hf.1 h) (q.re hP hf.2)
theorem nP:∀{xs:List α},xs.all p=true->xs.all q=true->(xs.all fun x=>p x&&q x)=true
 | [],_,_=>rfl
 | x::xs,h,k=>by
  rw[List.all_cons,Bool.and_eq_true] at h k;rw[List.all_cons,h.1,k.1,nP h.2 k.2]; rfl
section
variable {W:Wd}{S H:Hp}
theorem Own.fb:∀{k j v d fp},D.fb k d=true->D.fb j d=true->Own W S H k v d fp->Own W S H j v d fp
 | 0,j,_,d,_,h,_,o=>by
  rw[D.fb] at h;obtain⟨e1,e2⟩:=o.flat_inv h;rw[e1];exact Own.flat h e2
 | k+1,0,_,d,_,_,h,o=>by
  rw[D.fb] at h;obtain⟨e1,e2⟩:=o.flat_inv h;exact⟨e1,e2⟩
 | k+1,j+1,_,.lst ds,_,h1,h2,⟨a,vs,fq,e1,e2,e3,e4⟩=>⟨a,vs,fq,e1,e2,e3.re (b:=fun d=>D.fb k d&&D.fb j d) (fun v d f hb o=>by rw[Bool.and_eq_true] at hb; exact Own.fb hb.1 hb.2 o) (nP h1 h2),e4⟩
 | k+1,j+1,_,.tup ds,_,h1,h2,⟨a,vs,e1,e2,e3⟩=>⟨a,vs,e1,e2,e3.re (b:=fun d=>D.fb k d&&D.fb j d) (fun v d f hb o=>by rw[Bool.and_eq_true] at hb; exact Own.fb hb.1 hb.2 o) (nP h1 h2)⟩
 | k+1,j+1,_,.ins c ds,_,h1,h2,⟨a,C,dx,fs,fq,e1,e2,e5,e3,e4⟩=>⟨a,C,dx,fs,fq,e1,e2,e5,e3.re (b:=fun d=>D.fb k d&&D.fb j d) (fun v d f hb o=>by rw[Bool.and_eq_true] at hb; exact Own.fb hb.1 hb.2 o) (nP h1 h2),e4⟩
 | k+1,j+1,_,.exc c ds,_,h1,_,_=>by cases h1
 | _+1,_+1,_,.non,_,_,_,h=>h
 | _+1,_+1,_,.bl _,_,_,_,h=>h
 | _+1,_+1,_,.int _,_,_,_,h=>h
 | _+1,_+1,_,.str _,_,_,_,h=>h
theorem Own.at (h:aJ j (k,d)=true)(o:Own W S H k v d fp):Own W S H j v d fp:=by
 unfold aJ at h;rw[Bool.or_eq_true,Bool.or_eq_true,Bool.and_eq_true] at h;rcases h with h | h | ⟨h1,h2⟩
 ·obtain⟨e1,e2⟩:=o.flat_inv h;rw[e1];exact Own.flat h e2
 ·have:k=j:=by simpa using h
  rw[<-this]; exact o
 ·exact o.fb h2 h1
theorem OwnV.at:∀{vs xs fp},xs.all (aJ j)=true->OwnV W S H vs xs fp->OwnL (Own W S H j) vs (xs.map (·.2)) fp
 | _,_,_,_,.nil=>.nil
 | _,_,_,hf,.cons h q=>by
  rw[List.all_cons,Bool.and_eq_true] at hf;exact .cons (h.at hf.1) (q.at hf.2)
theorem vZ:xs.all (aJ (aE xs))=true\/aE xs=0:=by
 unfold aE;cases e:xs.find? fun x=>!x.2.flat with
 | none=>
  refine .inl (List.all_eq_true.mpr fun x hx=>Ip.vt ?_);have:=List.find?_eq_none.mp e x hx;simpa using this
 | some y=>
  show xs.all (aJ (if xs.all (aJ y.1)=true then y.1 else 0))=true\/(if xs.all (aJ y.1)=true then y.1 else 0)=0;by_cases h:xs.all (aJ y.1)=true
  ·rw[if_pos h]; exact .inl h
  ·rw[if_neg h]; exact .inr rfl
theorem OwnV.join {N:Addr->Prop}{vs:List V}{xs:List KD}{fp:List Addr}(nd:fp.Nodup)(hn:∀a∈fp,¬N a)(o:OwnV W (hid (fun a=>N a\/a∈fp) H) H vs xs fp) :
  ∃fq:List Addr,fq.Nodup/\(∀a∈fq,a∈fp)/\OwnL (Own W (hid (fun a=>N a\/a∈fq) H) H (aE xs)) vs (xs.map (·.2)) fq:=by
 rcases vZ (xs:=xs) with h | h
 ·exact⟨fp,nd,fun _ z=>z,o.at h⟩
 ·rw[h];refine⟨[],.nil,fun _ z=>by simp at z,OwnL.zero ?_⟩;refine o.dens (fun a u e=>?_) fun a ha u e=>ax.mpr ⟨fun z=>z.elim (hn a ha) (by simp),e⟩;obtain⟨h1,h2⟩:=ax.mp e;exact ax.mpr ⟨fun z=>z.elim (fun y=>h1 (.inl y)) (by simp),h2⟩
end
section
variable {X:Cx}{W:Wd}{G:Pg}{cl:Nat->List KD->Ip.Run}{E:St->XK}
theorem oh (e:Expr)(es:List Expr)(env:Env):(∃x p,e=.Starred x p)\/starEach (e::es) env=(false,PySem.eval e env)::starEach es env:=by
 cases e <;> first | exact .inl ⟨_,_,rfl⟩ | exact .inr rfl
theorem A7 (h:be W G cl (ir::irs) E σ H Q):cV (az W G cl ir E) (be W G cl irs E) σ H Q:=by
 obtain⟨N,a,hN,hS,h⟩:=h;unfold cV;refine fw hN hS (fun x ex v H1 fp hs nd hf ow hN1 hS1=>?_) (fun c fs ee=>?_) fun ee=>?_
 ·refine⟨_,a,hN1,hS1,?_⟩;cases q:evals G cl a irs with
  | bad=>simp only[bh,ex,q,Ip.R.bind] at h
  | exc c fs=>
   simp only[bh,ex,q,Ip.R.bind] at h;exact fun e H' r=>h e H' (r.trans hs fun _ y=>.inl y)
  | ok xs=>
   simp only[bh,ex,q,Ip.R.bind] at h;rintro vs H2 ⟨hs2,fq,nd2,hf2,o2⟩;refine h _ _ ⟨hs.trans hs2,fp++fq,?_,fun b z=>(dk z).elim (hf b) fun y=>hs.none (hf2 b y),?_⟩
   ·refine List.nodup_append.mpr ⟨nd,nd2,fun b hb c hc z=>?_⟩;rw[z] at hb;exact ow.dom c hb (hf2 c hc)
   ·refine .cons (ow.mono (fD hs2 fun b z=>?_) fun b hb o e=>hs2 b o e) (o2.mono (fun b o e=>?_) fun b _ o e=>e)
    ·rcases z with z | z
     ·exact .inl (.inl z)
     ·exact (dk z).elim (fun y=>.inl (.inr y)) fun y=>.inr (hf2 b y)
    ·obtain⟨h1,h2⟩:=ax.mp e;refine ax.mpr ⟨fun z=>h1 ?_,h2⟩;rcases z with z | z
     ·exact .inl (.inl z)
     ·exact (dk z).elim (fun y=>.inl (.inr y)) .inr
 ·simp only[bh,ee,Ip.R.bind] at h;exact h
 ·simp only[bh,ee,Ip.R.bind] at h
theorem lP (h:be W G cl [] E σ H Q):dZ σ H Q:=by
 obtain⟨N,a,hN,hS,h⟩:=h;simp only[cM] at h;exact h _ _ ⟨Sub.refl _,[],.nil,fun a z=>by simp at z,.nil⟩
theorem rN:∀{es:List Expr} {f:Expr->Ex},(∀e∈es,PE X e (az W G cl (f e) E))->(∀e∈es,∀x p,e=.Starred x p->f e=.bad)->PA X es (be W G cl (es.map f) E)
 | [],_,_,_=>km.mono fun σ H Q h=>lP h
 | e::es,f,h,k=>by
  rcases oh e es X.env with ⟨x,p,hx⟩ | hs
  ·rintro pos pins s σ H Q I ⟨N,a,_,_,q⟩;rw[List.map_cons,k e List.mem_cons_self x p hx,bh,fA] at q;exact q.elim
  ·refine (iG (h e bD) (rN (fun y hy=>h y (bw _ hy)) fun y hy=>k y (bw _ hy)) hs).mono fun σ H Q q=>?_;rw[List.map_cons] at q;exact A7 q
theorem qJ (hl:irs.length<=1000)(h:PA X es (be W G cl irs E)):PE X (.List es pos) (az W G cl (.op .lst irs) E):=by
 refine (A8 h).mono fun σ H Q hZz=>?_;obtain⟨N,a,hN,hS,q⟩:=hZz;refine⟨N,a,hN,hS,?_⟩;rw[bQ] at q;cases e:evals G cl a irs with
 | bad=>rw[e] at q; exact q
 | exc c fs=>rw[e] at q; exact q
 | ok xs=>
  simp only[e,Ip.R.bind,Ip.R.of,Ip.BQ] at q;rintro vs H1 ⟨hs,fp,nd,hf,o⟩;have hx:xs.length=irs.length:=evals_length e;refine⟨?_,fun p hp=>?_⟩
  ·rw[o.length,hx];exact br hl (by decide)
  obtain⟨fq,nd2,sub,o2⟩:=o.join nd fun b hb z=>hN b z (hf b hb);refine q _ _ ⟨hs.trans (Sub.upd hp),p::fq,List.nodup_cons.mpr ⟨fun z=>o.dom p (sub p z) hp,nd2⟩,fun b z=>?_,p,vs,fq,rfl,bu,?_,rfl⟩
  ·rcases bN z with y | y
   ·rw[y]; exact hs.none hp
   ·exact hf b (sub b y)
  ·refine o2.imp fun v d f hf2 ow=>ow.mono (fD (Sub.upd hp) fun b z=>?_) fun b _ u e=>Sub.upd hp b u e;rcases z with z | z
   ·exact .inl (.inl z)
   ·rcases bN z with y | y
    ·rw[y]; exact .inr hp
    ·exact .inl (.inr y)
where
 evals_length {a:Sl}:∀{irs:List Ex} {xs:List KD},evals G cl a irs=.ok xs->xs.length=irs.length
  | [],xs,h=>by rw[cM] at h; cases h; rfl
  | ir::irs,xs,h=>by
   rw[bh] at h;cases e1:Ip.eval G cl a ir with
   | bad=>rw[e1] at h; cases h
   | exc c fs=>rw[e1] at h; cases h
   | ok x=>
    cases e2:evals G cl a irs with
    | bad=>rw[e1,e2] at h; cases h
    | exc c fs=>rw[e1,e2] at h; cases h
    | ok ys=>
     rw[e1,e2] at h;cases h;rw[List.length_cons,List.length_cons,evals_length e2]
theorem yi (hl:irs.length<=1000)(h:PA X es (be W G cl irs E)):PE X (.Tuple es k pos) (az W G cl (.op .tup irs) E):=by
 refine (uO h).mono fun σ H Q hZz=>?_;obtain⟨N,a,hN,hS,q⟩:=hZz;refine⟨N,a,hN,hS,?_⟩;rw[bQ] at q;cases e:evals G cl a irs with
 | bad=>rw[e] at q; exact q
 | exc c fs=>rw[e] at q; exact q
 | ok xs=>
  simp only[e,Ip.R.bind,Ip.R.of,Ip.DU] at q;rintro vs H1 ⟨hs,fp,nd,hf,o⟩;have hx:xs.length=irs.length:=qJ.evals_length e;refine⟨?_,fun p hp=>?_⟩
  ·rw[o.length,hx];exact br hl (by decide)
  obtain⟨fq,nd2,sub,o2⟩:=o.join nd fun b hb z=>hN b z (hf b hb);refine q _ _ ⟨hs.trans (Sub.upd hp),fq,nd2,fun b z=>hf b (sub b z),p,vs,rfl,SqT.of (ax.mpr ⟨fun z=>?_,bu⟩),?_⟩
  ·rcases z with z | z
   ·exact (hN.mono hs) p z hp
   ·exact o.dom p (sub p z) hp
  ·refine o2.imp fun v d f hf2 ow=>ow.mono (fD (Sub.upd hp) fun b z=>.inl z) fun b _ u e=>Sub.upd hp b u e
end
section
variable {X:Cx}{W:Wd}{G:Pg}{cl:Nat->List KD->Ip.Run}{E:St->XK}{σ:St}{H:Hp}
theorem yn (h:PE X e (de i)):PE X e (az W G cl (.var i) E):=h.mono fun σ H Q ⟨N,a,hN,hS,q⟩=>by
 rw[gk] at q;cases e:a[i]? with
 | none=>rw[e] at q; exact q.elim
 | some o=>
  cases o with
  | none=>rw[e] at q; exact q.elim
  | some d=>
   rw[e] at q;obtain⟨v,h1,h2⟩:=hS i d e;exact⟨v,h1,q v H (Res.of_den (Sub.refl _) h2)⟩
theorem lv (hd:d.flat=true)(hv:∀S,Den W S v d)(h:PE X e (tC v)):PE X e (az W G cl (.cst d) E):=h.mono fun σ H Q ⟨N,a,hN,hS,q⟩=>by
 rw[kl] at q;exact q v H (Res.of_flat (Sub.refl _) hd (hv _))
def bF (W:Wd)(G:Pg)(cl:Nat->List KD->Ip.Run)(ir:Ex)(E:St->XK):TT:=fun σ H Q=>∃(N:Addr->Prop) (a:Sl),NOk N H/\RelS W (hid N H) a σ/\match (Ip.eval G cl a ir).bl with
 | .ok b=>∀H',Sub H H'->Q b H'
 | .exc c fs=>∀e H',ExcR W H N H' c fs e->E σ (.ref e) none H'
 | .bad=>False
theorem RelS.grow (hS:RelS W (hid N H) a σ)(hs:Sub H H1):RelS W (hid N H1) a σ:=hS.mono (fD hs fun _ z=>.inl z)
theorem mM (h:bF W G cl ir E σ H Q):az W G cl ir E σ H (fun x H1=>∃c,x=.bl c/\Q c H1):=by
 obtain⟨N,a,hN,hS,h⟩:=h;refine⟨N,a,hN,hS,?_⟩;cases e:Ip.eval G cl a ir with
 | bad=>rw[e] at h; exact h
 | exc c fs=>rw[e] at h; exact h
 | ok x=>
  obtain⟨k,d⟩:=x;rw[e] at h;intro v H' r;cases d <;> try (exact h.elim)
  have:=(r.den hN).bl_inv;subst this;exact⟨_,rfl,h H' r.1⟩
theorem sC (h:PE X e (az W G cl ir E))(he:∀whole,isTrue e X.env whole=(do let v <-whole; standAt e.pos; holding [v] (truthy v))):PT X e (bF W G cl ir E):=
 (Dt h he).mono fun σ H Q q=>mM q
theorem gY {α β:Type}{r:Ip.R α}{f:α->Ip.R β}{b:β}(h:r.bind f=.ok b):∃a,r=.ok a/\f a=.ok b:=by
 cases r with
 | ok a=>exact⟨a,rfl,h⟩
 | exc c fs=>cases h
 | bad=>cases h
theorem ExcR.of_sub (hs:Sub H H1)(r:ExcR W H1 N H' c fs e):ExcR W H N H' c fs e:=r.trans hs fun _ z=>z
theorem Ci (h:bF W G cl (.and x y) E σ H Q):jU (bF W G cl x E) (bF W G cl y E) σ H Q:=by
 obtain⟨N,a,hN,hS,h⟩:=h;rw[lB] at h;unfold jU;refine⟨N,a,hN,hS,?_⟩;cases e:Ip.eval G cl a x with
 | bad=>rw[e] at h; exact h
 | exc c fs=>rw[e] at h; exact h
 | ok v=>
  obtain⟨k,d⟩:=v;rw[e] at h;cases d <;> try (exact h.elim)
  rename_i b;intro H1 hs;cases b with
  | false=>exact h H1 hs
  | true=>
   rw[if_pos rfl];refine⟨N,a,hN.mono hs,hS.grow hs,?_⟩;simp only[Ip.R.bind,ki,if_true] at h;cases e2:(Ip.eval G cl a y).bl with
   | bad=>rw[e2] at h; exact h
   | exc c fs=>rw[e2] at h; exact fun e' H' r=>h e' H' (r.of_sub hs)
   | ok b=>rw[e2] at h; exact fun H' hs2=>h H' (hs.trans hs2)
theorem zm (h:bF W G cl (.or x y) E σ H Q):pG (bF W G cl x E) (bF W G cl y E) σ H Q:=by
 obtain⟨N,a,hN,hS,h⟩:=h;rw[lw] at h;unfold pG;refine⟨N,a,hN,hS,?_⟩;cases e:Ip.eval G cl a x with
 | bad=>rw[e] at h; exact h
 | exc c fs=>rw[e] at h; exact h
 | ok v=>
  obtain⟨k,d⟩:=v;rw[e] at h;cases d <;> try (exact h.elim)
  rename_i b;intro H1 hs;cases b with
  | true=>exact h H1 hs
  | false=>
   rw[if_neg (by decide)];refine⟨N,a,hN.mono hs,hS.grow hs,?_⟩;simp only[Ip.R.bind,ki,Bool.false_eq_true,if_false] at h;cases e2:(Ip.eval G cl a y).bl with
   | bad=>rw[e2] at h; exact h
   | exc c fs=>rw[e2] at h; exact fun e' H' r=>h e' H' (r.of_sub hs)
   | ok b=>rw[e2] at h; exact fun H' hs2=>h H' (hs.trans hs2)
theorem yy (h:bF W G cl (.op .not [x]) E σ H Q):jq (bF W G cl x E) σ H Q:=by
 obtain⟨N,a,hN,hS,h⟩:=h;rw[bQ,bh,cM] at h;unfold jq;refine⟨N,a,hN,hS,?_⟩;cases e:Ip.eval G cl a x with
 | bad=>rw[e] at h; exact h
 | exc c fs=>rw[e] at h; exact h
 | ok v=>
  obtain⟨k,d⟩:=v;rw[e] at h;cases d <;> first | exact h | exact h.elim
theorem D8 (h:az W G cl (.and x y) E σ H Q):fV (az W G cl x E) (az W G cl y E) σ H Q:=by
 obtain⟨N,a,hN,hS,h⟩:=h;rw[lB] at h;unfold fV;refine⟨N,a,hN,hS,?_⟩;cases e:Ip.eval G cl a x with
 | bad=>rw[e] at h; exact h
 | exc c fs=>rw[e] at h; exact h
 | ok v=>
  obtain⟨k,d⟩:=v;rw[e] at h;cases d <;> try (exact h.elim)
  rename_i b;intro v H1 r;have:=(r.den hN).bl_inv;subst this;have hs:=r.1;refine⟨b,rfl,?_⟩;cases b with
  | false=>exact h _ _ (Res.of_flat hs rfl .bl)
  | true=>
   rw[if_pos rfl];refine⟨N,a,hN.mono hs,hS.grow hs,?_⟩;simp only[Ip.R.bind,ki,if_true] at h;cases e2:Ip.eval G cl a y with
   | bad=>rw[e2] at h; exact h
   | exc c fs=>rw[e2] at h; exact fun e' H' r=>h e' H' (r.of_sub hs)
   | ok b=>rw[e2] at h; exact fun v H' r2=>h v H' (r2.trans hs)
theorem qf (h:az W G cl (.or x y) E σ H Q):i5 (az W G cl x E) (az W G cl y E) σ H Q:=by
 obtain⟨N,a,hN,hS,h⟩:=h;rw[lw] at h;unfold i5;refine⟨N,a,hN,hS,?_⟩;cases e:Ip.eval G cl a x with
 | bad=>rw[e] at h; exact h
 | exc c fs=>rw[e] at h; exact h
 | ok v=>
  obtain⟨k,d⟩:=v;rw[e] at h;cases d <;> try (exact h.elim)
  rename_i b;intro v H1 r;have:=(r.den hN).bl_inv;subst this;have hs:=r.1;refine⟨b,rfl,?_⟩;cases b with
  | true=>exact h _ _ (Res.of_flat hs rfl .bl)
  | false=>
   rw[if_neg (by decide)];refine⟨N,a,hN.mono hs,hS.grow hs,?_⟩;simp only[Ip.R.bind,ki,Bool.false_eq_true,if_false] at h;cases e2:Ip.eval G cl a y with
   | bad=>rw[e2] at h; exact h
   | exc c fs=>rw[e2] at h; exact fun e' H' r=>h e' H' (r.of_sub hs)
   | ok b=>rw[e2] at h; exact fun v H' r2=>h v H' (r2.trans hs)
theorem vK (h:az W G cl (.chain o p x y z) E σ H Q) :
  dM (fun x y=>rD W G o [x,y]) (fun x y=>rD W G p [x,y]) (az W G cl x E) (az W G cl y E) (az W G cl z E) σ H Q:=by
 obtain⟨N,a,hN,hS,h⟩:=h;rw[Ip.qh] at h;unfold dM;refine fw hN hS (fun x1 ex v H1 fp hs nd hf ow hN1 hS1=>?_) (fun c fs ee=>?_) fun ee=>?_
 ·refine fw hN1 hS1 (fun y1 ey w H2 fq hs2 nd2 hf2 ow2 hN2 hS2=>?_) (fun c fs ee e H' r=>?_) fun ee=>?_
  ·simp only[ex,ey,Ip.R.bind] at h;have hN':=hN.mono (hs.trans hs2);have dx:=ow.later hN hs2 hf fun _ y=>y;have dy:=ow2.later (hN.mono hs) (Sub.refl _) hf2 fun _ y=>.inl y;cases q:aR G o [x1,y1] with
   | none=>simp only[q,Ip.R.of] at h
   | some b=>
    simp only[q,Ip.R.of] at h;refine⟨N,[x1,y1],b,hN',.cons dx (.cons dy .nil),q,fun v2 H3 r3=>?_⟩;obtain⟨kb,b⟩:=b;cases b <;> try (exact h.elim)
    rename_i b;have:=(r3.den hN').bl_inv;subst this;have hs3:=(hs.trans hs2).trans r3.1;refine⟨b,rfl,?_⟩;cases b with
    | false=>exact h _ _ (Res.of_flat hs3 rfl .bl)
    | true=>
     rw[if_pos rfl];simp only[ki,if_true] at h;refine fw (hN.mono hs3) (hS.grow hs3) (fun z1 ez u H4 fz hs4 nd4 hf4 ow4 hN4 hS4=>?_) (fun c fs ee e H' r=>?_) fun ee=>?_
     ·simp only[ez] at h;cases q2:aR G p [y1,z1] with
      | none=>simp only[q2] at h
      | some t=>
       simp only[q2] at h;exact⟨N,[y1,z1],t,hN.mono (hs3.trans hs4),.cons (dy.mono (fD (r3.1.trans hs4) fun _ z=>.inl z)) (.cons (ow4.later (hN.mono hs3) (Sub.refl _) hf4 fun _ y=>y) .nil),q2,fun v H' r=>h v H' (r.trans (hs3.trans hs4))⟩
     ·simp only[ee] at h;exact h e H' (r.of_sub hs3)
     ·simp only[ee] at h
  ·simp only[ex,ee,Ip.R.bind] at h;exact h e H' (r.trans hs fun _ y=>.inl y)
  ·simp only[ex,ee,Ip.R.bind] at h
 ·simp only[ee,Ip.R.bind] at h;exact h
 ·simp only[ee,Ip.R.bind] at h
end
def ItD (W:Wd)(N:Addr->Prop)(H1:Hp)(J:It)(ds:List D):Prop:=∀(M:Addr->Prop) (H:Hp),Sub (hid N H1) (hid M H)->NOk M H->∀i:Nat,
 (∀d,ds[i]? = some d->J.go i H/\∀x H',J.yld i H x H'->Sub H H'/\Den W (hid M H') x d)/\(ds.length<=i->J.stop i H)
section
variable {X:Cx}{W:Wd}{G:Pg}{cl:Nat->List KD->Ip.Run}{E:St->XK}
theorem jD (h:Sub H H'):Sub (hid N H) (hid N H'):=fD h fun _ z=>.inl z
def fK (W:Wd)(G:Pg)(cl:Nat->List KD->Ip.Run)(wk:Wk)(irs:List Ex)(E:St->XK):TI:=fun σ H R=>∃(N:Addr->Prop) (a:Sl),NOk N H/\RelS W (hid N H) a σ/\match evals G cl a irs with
 | .ok vs=>(match df wk vs with
  | some ds=>∀J H',Sub H H'->ItD W N H' J ds->R J H'
  | none=>False)
 | .exc c fs=>∀e H',ExcR W H N H' c fs e->E σ (.ref e) none H'
 | .bad=>False
theorem PI.mono (h:PI X tg iter t)(k:∀σ H R,t' σ H R->t σ H R):PI X tg iter t':=fun pins s σ H R I q=>h pins s σ H R I (k σ H R q)
theorem ItD.list (hK:W.K=X.K)(h:Rd (hid N H1) a (.lst vs))(q:Dens W (hid N H1) vs ds):ItD W N H1 (pj X.K a) ds:=fun M H hs hN i=>by
 have hq:SqL X.K H a vs:=.inl (Rd.sub (hs.trans bj) h);refine⟨fun d e=>?_,fun hl=>⟨vs,hq,by rw[q.length]; exact hl⟩⟩;obtain⟨v,e1,e2⟩:=q.get e;refine⟨⟨vs,v,hq,e1⟩,fun x H' hZz=>?_⟩;obtain⟨hH,hx⟩:=hZz;subst hH;have:=hx vs hq;rw[e1] at this;cases this;exact⟨Sub.refl _,e2.mono hs⟩
theorem ItD.tup (hK:W.K=X.K)(h:SqT W.K (hid N H1) a vs)(q:Dens W (hid N H1) vs ds):ItD W N H1 (qe X.K a) ds:=fun M H hs hN i=>by
 have hq:SqT X.K H a vs:=hK ▸ SqT.sub (hs.trans bj) h;refine⟨fun d e=>?_,fun hl=>⟨vs,hq,by rw[q.length]; exact hl⟩⟩;obtain⟨v,e1,e2⟩:=q.get e;refine⟨⟨vs,v,hq,e1⟩,fun x H' hZz=>?_⟩;obtain⟨hH,hx⟩:=hZz;subst hH;have:=hx vs hq;rw[e1] at this;cases this;exact⟨Sub.refl _,e2.mono hs⟩
theorem BV (hK:W.K=X.K)(h:PE X e (az W G cl ir E)):PI X tg e (fK W G cl .seq [ir] E):=by
 rintro pins s σ H R I ⟨N,a,hN,hS,q⟩;rw[bh,cM] at q;cases e1:Ip.eval G cl a ir with
 | bad=>rw[e1] at q; exact q.elim
 | exc c fs=>
  rw[e1] at q;refine vT h pins s σ H R I ⟨N,a,hN,hS,?_⟩;rw[e1];exact q
 | ok x=>
  obtain⟨k,d⟩:=x;rw[e1] at q;simp only[show df .seq [(k,d)]=d.seq from rfl] at q;cases e2:d.seq with
  | none=>rw[e2] at q; exact q.elim
  | some ds=>
   rw[e2] at q;cases d <;> simp only[D.seq] at e2 <;> try (cases e2; done)
   ·cases e2;refine vT h pins s σ H R I ⟨N,a,hN,hS,?_⟩;rw[e1];intro v H' r;have dv:=r.den hN;cases dv with | @lst b vs _ h1 h2=>?_
    exact⟨b,rfl,⟨vs,.inl (Rd.sub bj h1)⟩,q _ _ r.1 (ItD.list hK h1 h2)⟩
   ·cases e2;refine zh h pins s σ H R I ⟨N,a,hN,hS,?_⟩;rw[e1];intro v H' r;have dv:=r.den hN;cases dv with | @tup b vs _ h1 h2=>?_
    exact⟨b,rfl,⟨vs,hK ▸ SqT.sub bj h1⟩,q _ _ r.1 (ItD.tup hK h1 h2)⟩
theorem ItD.range {N:Addr->Prop}{H1:Hp}{lo:Int}{n:Nat}:ItD W N H1 (mO lo n) ((List.range n).map fun (i:Nat)=>.int (lo+i)):=fun M H hs hN i=>by
 refine⟨fun d e=>?_,fun hl=>?_⟩;rotate_left
 ·show n<=i;simpa using hl
 rw[List.getElem?_map] at e;obtain⟨j,e1,e2⟩:=cy e;have hi:i<n:=by have:=(cr e1).1; simpa using this
 rw[List.getElem?_range hi] at e1;cases e1;subst e2;refine⟨hi,fun x H' hZz=>?_⟩;obtain⟨hH,hx⟩:=hZz;subst hH hx;exact⟨Sub.refl _,.int⟩
theorem wk_rng1 (h:df .rng1 xs=some ds):∃k j,xs=[(k,.int j)]/\(-(2 ^ 62)<=j/\j<2 ^ 62)/\ds=(List.range j.toNat).map fun (n:Nat)=>.int n:=by
 obtain⟨⟨k,d⟩,rfl,h2⟩:=Ip.vy (f:=Ip.iY) h;obtain⟨j,e1,h3⟩:=dL (show (Ip.fZ d).bind _=some ds from h2);clear h h2;obtain rfl:=Ip.BM e1;by_cases hj:Ip.dh j=true
 ·rw[if_pos hj] at h3;cases h3;exact⟨k,j,rfl,Ip.gw.mp hj,rfl⟩
 ·rw[if_neg hj] at h3; exact (dm h3).elim
theorem uS {d:D}{xs:List D}(h:d.lstO=some xs):d=.lst xs:=by
 cases d <;> simp only[D.lstO] at h <;> cases h
 rfl
theorem CG {d:D}{xs:List D}(h:d.seq=some xs):d=.lst xs\/d=.tup xs:=by
 cases d <;> simp only[D.seq] at h <;> cases h
 ·exact .inl rfl
 ·exact .inr rfl
theorem wk_enum (h:df .enum xs=some ds):∃k d es,xs=[(k,d)]/\(d=.lst es\/d=.tup es)/\ds=es.mapIdx fun n d=>.tup [.int n,d]:=by
 obtain⟨⟨k,d⟩,rfl,h2⟩:=Ip.vy (f:=Ip.iS) h;obtain⟨es,e1,e2⟩:=cy (show d.seq.map _=some ds from h2);exact⟨k,d,es,rfl,CG e1,e2.symm⟩
theorem wk_zip (h:df .zip xs=some ds):∃k l d e us ws,xs=[(k,d),(l,e)]/\d=.lst us/\e=.lst ws/\ds=(us.zip ws).map fun p=>.tup [p.1,p.2]:=by
 obtain⟨⟨k,d⟩,⟨l,e⟩,rfl,h2⟩:=Ip.C3 (f:=Ip.mF) h;obtain⟨us,e1,e2⟩:=dL (show d.lstO.bind _=some ds from h2);obtain⟨ws,e3,e4⟩:=cy e2;exact⟨k,l,d,e,us,ws,rfl,uS e1,uS e3,e4.symm⟩
theorem o8 (h:fK W G cl wk irs E σ H R)
  (k:∀(N:Addr->Prop) xs ds,df wk xs=some ds->NOk N H->(∀J H',Sub H H'->ItD W N H' J ds->R J H')->∀vs H',Sub H H'->Dens W (hid N H') vs (xs.map (·.2))->Q vs H'):be W G cl irs E σ H Q:=by
 obtain⟨N,a,hN,hS,q⟩:=h;refine⟨N,a,hN,hS,?_⟩;cases e1:evals G cl a irs with
 | bad=>rw[e1] at q; exact q
 | exc c fs=>rw[e1] at q; exact q
 | ok xs=>
  rw[e1] at q;simp only at q;cases e2:df wk xs with
  | none=>rw[e2] at q; exact q.elim
  | some ds=>
   rw[e2] at q;exact fun vs H' r=>k N xs ds e2 hN q vs H' r.1 (r.dens hN)
theorem Bj {tg e:Expr}{ir:Ex}{p pos:Pos}(hg:Gl X "range")(hm:X.mg "range" = none)(h:PA X [e] (be W G cl [ir] E))(hs:starEach [e] X.env=[(false,PySem.eval e X.env)]):PI X tg (.Call (.Name "range" p) [e] [] pos) (fK W G cl .rng1 [ir] E):=by
 refine (yo hg hm h hs).mono fun σ H R q=>o8 q fun N xs ds e2 hN q vs H' hs dv=>?_;obtain⟨k,j,rfl,hj,rfl⟩:=wk_rng1 e2;obtain⟨v,rfl,h1⟩:=Dens.one dv;rw[h1.int_inv];refine⟨j,rfl,hj.1,hj.2,q _ _ hs ?_⟩;have:=ItD.range (W:=W) (N:=N) (H1:=H') (lo:=0) (n:=j.toNat);simpa using this
theorem ItD.enum (hK:W.K=X.K)(h:Rd (hid N H1) a (.lst vs))(q:Dens W (hid N H1) vs ds):ItD W N H1 (rf X.K a) (ds.mapIdx fun n d=>.tup [.int n,d]):=fun M H hs hN i=>by
 have hq:SqL X.K H a vs:=.inl (Rd.sub (hs.trans bj) h);refine⟨fun d e=>?_,fun hl=>⟨vs,hq,by rw[q.length]; simpa using hl⟩⟩;rw[List.getElem?_mapIdx] at e;obtain⟨d',e0,rfl⟩:=cy e;obtain⟨v,e1,e2⟩:=q.get e0;refine⟨⟨vs,v,hq,e1⟩,fun x H' hZz=>?_⟩;obtain⟨y,p,hx,hp,hH,hy⟩:=hZz;have:=hy vs hq;rw[e1] at this;cases this;subst hx hH;exact⟨Sub.upd hp,.tup (SqT.of (ax.mpr ⟨fun z=>hN p z hp,bu⟩)) (.cons .int (.cons (e2.mono (hs.trans (jD (Sub.upd hp)))) .nil))⟩
theorem ItD.enumT (hK:W.K=X.K)(h:SqT W.K (hid N H1) a vs)(q:Dens W (hid N H1) vs ds):ItD W N H1 (jW X.K a) (ds.mapIdx fun n d=>.tup [.int n,d]):=fun M H hs hN i=>by
 have hq:SqT X.K H a vs:=by rw[<-hK]; exact SqT.sub (hs.trans bj) h
 refine⟨fun d e=>?_,fun hl=>⟨vs,hq,by rw[q.length]; simpa using hl⟩⟩;rw[List.getElem?_mapIdx] at e;obtain⟨d',e0,rfl⟩:=cy e;obtain⟨v,e1,e2⟩:=q.get e0;refine⟨⟨vs,v,hq,e1⟩,fun x H' hZz=>?_⟩;obtain⟨y,p,hx,hp,hH,hy⟩:=hZz;have:=hy vs hq;rw[e1] at this;cases this;subst hx hH;exact⟨Sub.upd hp,.tup (SqT.of (ax.mpr ⟨fun z=>hN p z hp,bu⟩)) (.cons .int (.cons (e2.mono (hs.trans (jD (Sub.upd hp)))) .nil))⟩
theorem ItD.zip (hK:W.K=X.K)(h:Rd (hid N H1) a (.lst vs))(q:Dens W (hid N H1) vs ds)(h':Rd (hid N H1) b (.lst ws))(q':Dens W (hid N H1) ws es) :
  ItD W N H1 (rb X.K a b) ((ds.zip es).map fun p=>.tup [p.1,p.2]):=fun M H hs hN i=>by
 have hq:SqL X.K H a vs:=.inl (Rd.sub (hs.trans bj) h);have hq':SqL X.K H b ws:=.inl (Rd.sub (hs.trans bj) h');refine⟨fun d e=>?_,fun hl=>?_⟩
 ·rw[List.getElem?_map] at e;obtain⟨⟨d1,d2⟩,e0,rfl⟩:=cy e;obtain⟨e1,e2⟩:=List.getElem?_zip_eq_some.mp e0;obtain⟨v,f1,f2⟩:=q.get e1;obtain⟨w,g1,g2⟩:=q'.get e2;refine⟨⟨vs,ws,v,w,hq,hq',f1,g1⟩,fun x H' hZz=>?_⟩;obtain⟨y,z,p,hx,hp,hH,hy,hz⟩:=hZz;have t1:=hy vs hq;have t2:=hz ws hq';rw[f1] at t1;rw[g1] at t2;cases t1;cases t2;subst hx hH;exact⟨Sub.upd hp,.tup (SqT.of (ax.mpr ⟨fun z=>hN p z hp,bu⟩)) (.cons (f2.mono (hs.trans (jD (Sub.upd hp)))) (.cons (g2.mono (hs.trans (jD (Sub.upd hp)))) .nil))⟩
 ·refine⟨vs,ws,hq,hq',?_⟩;rw[q.length,q'.length];simp only[List.length_map,List.length_zip] at hl;omega
theorem wc (hK:W.K=X.K)(hg:Gl X "enumerate")(hm:X.mg "enumerate" = none)(hv:bootBuiltins "enumerate" = some (.type "enumerate"))(h:PA X [e] (be W G cl [ir] E))(hs:starEach [e] X.env=[(false,PySem.eval e X.env)]) :
  PI X (.Tuple es k1 tp) (.Call (.Name "enumerate" p) [e] [] pos) (fK W G cl .enum [ir] E):=by
 refine (xq hg hm hv h hs).mono fun σ H R q=>o8 q fun N xs ds e2 hN q vs H' hs dv=>?_;obtain⟨k,d,us,rfl,hd,rfl⟩:=wk_enum e2;obtain⟨v,rfl,h0⟩:=Dens.one dv;rcases hd with rfl | rfl
 ·have h0':Den W (hid N H') v (.lst us):=h0;cases h0' with | @lst a ws _ h1 h2=>?_
  exact .inl ⟨a,ws,rfl,.inl (Rd.sub bj h1),q _ _ hs (ItD.enum hK h1 h2)⟩
 ·have h0':Den W (hid N H') v (.tup us):=h0;cases h0' with | @tup a ws _ h1 h2=>?_
  exact .inr ⟨a,ws,rfl,by rw[<-hK]; exact SqT.sub bj h1,q _ _ hs (ItD.enumT hK h1 h2)⟩
theorem EN (hK:W.K=X.K)(hg:Gl X "zip")(hm:X.mg "zip" = none)(hv:bootBuiltins "zip" = some (.type "zip"))(h:PA X [e,e'] (be W G cl [ir,ir'] E))
  (hs:starEach [e,e'] X.env=[(false,PySem.eval e X.env),(false,PySem.eval e' X.env)])(hs2:starEach [e'] X.env=[(false,PySem.eval e' X.env)]) :
  PI X (.Tuple es k1 tp) (.Call (.Name "zip" p) [e,e'] [] pos) (fK W G cl .zip [ir,ir'] E):=by
 refine (xS hg hm hv h hs hs2).mono fun σ H R q=>o8 q fun N xs ds e2 hN q vs H' hs dv=>?_;obtain⟨k,l,d,e,us,ws,rfl,rfl,rfl,rfl⟩:=wk_zip e2;obtain⟨v,w,rfl,h0,g0⟩:=Dens.two dv;have h0':Den W (hid N H') v (.lst us):=h0;have g0':Den W (hid N H') w (.lst ws):=g0;cases h0' with | @lst a vs' _ h1 h2=>?_
 cases g0' with | @lst b ws' _ g1 g2=>?_
 exact⟨a,b,vs',ws',rfl,.inl (Rd.sub bj h1),.inl (Rd.sub bj g1),q _ _ hs (ItD.zip hK h1 h2 g1 g2)⟩
noncomputable def j6:List Nat->kU
 | []=>l6
 | i::is=>iQ (da i) (j6 is)
noncomputable def gT (K:aG):Tg->TG
 | .one i=>da i
 | .many is=>lA K is.length (j6 is)
theorem RelS.set (h:RelS W S a σ)(hi:i < σ.length)(hd:Den W S v d):RelS W S (a.set i (some d)) (σ.set i (some v)):=fun j e hj=>by
 by_cases z:i=j
 ·subst z;by_cases y:i<a.length
  ·rw[List.getElem?_set_self y] at hj;cases hj;exact⟨v,List.getElem?_set_self hi,hd⟩
  ·rw[List.getElem?_eq_none (by rw[List.length_set]; omega)] at hj; cases hj
 ·rw[List.getElem?_set_ne z] at hj;rw[List.getElem?_set_ne z];exact h j e hj
theorem RelS.skip (h:RelS W S a σ)(hi:∀d,a[i]?≠some (some d)):RelS W S a (σ.set i (some v)):=fun j e hj=>by
 by_cases z:i=j
 ·subst z; exact absurd hj (hi e)
 ·rw[List.getElem?_set_ne z]; exact h j e hj
theorem uz:∀{is:List Nat} {vs:List V} {ds:List D} {a:Sl} {σ:St} {Q:St->Hp->Prop},Dens W S vs ds->ds.length=is.length->(∀i∈is,i < σ.length)->(∀i∈is,∀d,a0[i]?≠some (some d))->RelS W S a σ->RelS W S a0 σ ->
  (∀σ',RelS W S (Ip.bP id is ds a) σ'->RelS W S a0 σ'->σ'.length=σ.length->Q σ' H)->j6 is vs σ H Q
 | [],_,_,a,σ,Q,.nil,_,_,_,h,h0,k=>⟨rfl,k σ h h0 rfl⟩
 | [],_,_,_,_,_,.cons _ _,hl,_,_,_,_,_=>by simp at hl
 | i::is,_,_,_,_,_,.nil,hl,_,_,_,_,_=>by simp at hl
 | i::is,_,_,a,σ,Q,.cons hd q,hl,hi,ha,h,h0,k=>by
  refine⟨_,_,rfl,?_⟩;show j6 is _ (σ.set i (some _)) H Q;refine uz q (by simpa using hl) (fun j hj=>by rw[List.length_set]; exact hi j (bw _ hj)) (fun j hj=>ha j (bw _ hj)) (h.set (hi i bD) hd) (h0.skip (ha i bD)) fun σ' h1 h2 h3=>k σ' h1 h2 (by rw[h3,List.length_set])
theorem D3 (hK:W.K=X.K)(hd:Den W (hid N H) v d)(hi:∀i∈cq tg,i < σ.length)(ha:∀i∈cq tg,∀d,a0[i]?≠some (some d))(h0:RelS W (hid N H) a0 σ)
  (hb:cZ id a0 tg d=some a1)(k:∀σ',RelS W (hid N H) a1 σ'->RelS W (hid N H) a0 σ'->σ'.length=σ.length->Q σ' H):gT X.K tg v σ H Q:=by
 cases tg with
 | one i=>
  simp only[cZ] at hb;cases hb;exact k _ (h0.set (hi i (by simp[cq])) hd) (h0.skip (ha i (by simp[cq]))) (by rw[List.length_set])
 | many is=>
  cases hd <;> simp only[cZ] at hb <;> try (cases hb; done)
  rename_i a vs ds h1 h2;by_cases hl:ds.length=is.length
  ·rw[if_pos hl] at hb;cases hb;refine⟨a,vs,rfl,hK ▸ SqT.sub bj h1,h2.length.trans hl,?_⟩;exact uz h2 hl hi ha h0 h0 k
  ·rw[if_neg hl] at hb; cases hb
theorem uK:∀{ds:List D} {zs:List KD},aC f ds=.ok zs->∀i d,ds[i]? = some d->∃o z1,f d=.ok o/\aC f (ds.take i)=.ok z1/\aC f (ds.take (i+1))=.ok (z1++o.toList)
 | [],_,_,i,d,e=>by simp at e
 | x::xs,zs,h,i,d,e=>by
  rw[aC] at h;obtain⟨o,ho,h⟩:=gY h;obtain⟨ys,hy,h⟩:=gY h;cases i with
  | zero=>
   simp at e;subst e;refine⟨o,[],ho,rfl,?_⟩;rw[List.take_succ_cons,List.take_zero,aC,ho,Ip.R.bind,aC,Ip.R.bind];cases o <;> rfl
  | succ i=>
   obtain⟨o2,z1,h1,h2,h3⟩:=uK hy i d (by simpa using e);refine⟨o2,_,h1,by rw[List.take_succ_cons,aC,ho,Ip.R.bind,h2,Ip.R.bind],?_⟩;rw[List.take_succ_cons,aC,ho,Ip.R.bind,h3,Ip.R.bind];cases o <;> rfl
theorem BJ (caps:List (Option Nat))(h:RelS W S a σ):RelS W S (caps.map (ce a)) (caps.map (gJ σ)):=fun i d e=>by
 rw[List.getElem?_map] at e;obtain⟨o,e1,e2⟩:=cy e;cases o with
 | none=>cases e2
 | some j=>
  have e3:a[j]? = some (some d):=by
   have:(a[j]?).join=some d:=e2;cases q:a[j]? with
   | none=>rw[q] at this; cases this
   | some r=>rw[q] at this; rw[show r=some d from this]
  obtain⟨v,h1,h2⟩:=h j d e3;refine⟨v,?_,h2⟩;rw[List.getElem?_map,e1];show some ((σ[j]?).join)=some (some v);rw[h1];rfl
theorem OwnV.snoc (h:Own W S H x.1 v x.2 f):∀{vs xs fp},OwnV W S H vs xs fp->OwnV W S H (vs++[v]) (xs++[x]) (fp++f)
 | _,_,_,.nil=>by simpa using OwnV.cons h .nil
 | _,_,_,.cons h0 q=>by
  rw[List.cons_append,List.cons_append,List.append_assoc];exact .cons h0 (OwnV.snoc h q)
theorem sj:∀{ds:List D} {zs:List KD},aC f ds=.ok zs->zs.length<=ds.length
 | [],_,h=>by cases h; exact aX _
 | x::xs,zs,h=>by
  rw[aC] at h;obtain⟨o,ho,h⟩:=gY h;obtain⟨ys,hy,h⟩:=gY h;cases h;have:=sj hy;cases o <;> simp <;> omega
noncomputable def oU (W:Wd)(G:Pg)(cl:Nat->List KD->Ip.Run):List Ex->TT
 | []=>fX
 | [t]=>bF W G cl t fun _ _ _ _=>False
 | _=>fun _ _ _=>False
def cC (N:Addr->Prop)(l:Addr)(fp:List Addr):Addr->Prop:=fun b=>(N b\/b=l)\/b∈fp
theorem tD (hK:W.K=X.K)(hidx:∀i∈cq tg,caps[i]? = some none)(h:az W G cl (.comp caps tg wk it ts x) E σ H Q) :
  eT (fK W G cl wk it E) caps (gT X.K tg) (oU W G cl ts) (az W G cl x fun _ _ _ _=>False) σ H Q:=by
 obtain⟨N,a,hN,hS,h⟩:=h;rw[kh] at h;unfold eT;refine⟨N,a,hN,hS,?_⟩;cases e1:evals G cl a it with
 | bad=>rw[e1] at h; exact h
 | exc c fs=>rw[e1] at h; exact h
 | ok vs=>
  rw[e1] at h;simp only[Ip.R.bind] at h;cases e2:df wk vs with
  | none=>rw[e2] at h; exact h.elim
  | some ds=>
   rw[e2] at h;simp only at h;by_cases hl:ds.length<=SL
   rotate_left
   ·rw[if_neg hl] at h; exact h.elim
   rw[if_pos hl] at h;cases e3:aC (compF G cl (caps.map (ce a)) tg ts x) ds with
   | bad=>rw[e3] at h; exact h.elim
   | exc c fs=>rw[e3] at h; exact h.elim
   | ok zs=>
    rw[e3] at h;simp only[Ip.R.nox] at h;simp only[e2];intro J H1 hs1 hJ l hl1;have hN1:=hN.mono hs1;have a0n:∀i∈cq tg,∀d,(caps.map (ce a))[i]?≠some (some d):=fun i hi d z=>by
     rw[List.getElem?_map,hidx i hi] at z; cases z
    have ilt:∀i∈cq tg,i<caps.length:=fun i hi=>(cr (hidx i hi)).1;refine⟨fun i m ys σ Hc=>m=ds.length - i/\i<=ds.length/\∃(z1:List KD) (fp:List Addr),aC (compF G cl (caps.map (ce a)) tg ts x) (ds.take i)=.ok z1/\fp.Nodup/\l∉fp/\(∀b∈fp,H1 b=none) /\
     OwnV W (hid (cC N l fp) Hc) Hc ys z1 fp/\Hc l=some (.lst ys)/\Sub H1 Hc/\RelS W (hid (cC N l fp) Hc) (caps.map (ce a)) σ/\σ.length=caps.length,
     ⟨ds.length,by simp,Nat.zero_le _,[],[],rfl,.nil,by simp,fun b z=>by simp at z,.nil,bu,Sub.upd hl1,?_,by simp⟩,?_⟩
    ·refine (BJ caps (hS.grow hs1)).mono (fD (Sub.upd hl1) fun b z=>?_);rcases z with (z | z) | z
     ·exact .inl z
     ·rw[z]; exact .inr hl1
     ·simp at z
    rintro i m ys σ1 Hc ⟨rfl,hi,z1,fp,ez,nd,lf,hf,ow,hcl,hs2,hS2,hlen⟩;have hNc:NOk (cC N l fp) Hc:=fun b z=>by
     rcases z with (z | z) | z
     ·exact (hN1.mono hs2) b z
     ·rw[z,hcl]; simp
     ·exact ow.dom b z
    have hsub:Sub (hid N H1) (hid (cC N l fp) Hc):=fD hs2 fun b z=>by
     rcases z with (z | z) | z
     ·exact .inl z
     ·rw[z]; exact .inr hl1
     ·exact .inr (hf b z)
    obtain⟨J1,J2⟩:=hJ (cC N l fp) Hc hsub hNc i;by_cases hlt:i<ds.length
    ·obtain⟨o,z1',f1,f2,f3⟩:=uK e3 i ds[i] (by simp[hlt]);rw[ez] at f2;cases f2;obtain⟨Jg,Jy⟩:=J1 ds[i] (by simp[hlt]);refine .inr ⟨Jg,fun ys σ' H'=>∃(z1:List KD) (fp:List Addr),aC (compF G cl (caps.map (ce a)) tg ts x) (ds.take (i+1))=.ok z1/\fp.Nodup/\l∉fp/\(∀b∈fp,H1 b=none) /\
      OwnV W (hid (cC N l fp) H') H' ys z1 fp/\H' l=some (.lst ys)/\Sub H1 H'/\RelS W (hid (cC N l fp) H') (caps.map (ce a)) σ'/\σ'.length=caps.length,
      fun ys' σ' H' p'=>⟨ds.length - (i+1),by omega,rfl,hlt,p'⟩,fun v H' hy=>?_⟩
     obtain⟨s3,dx⟩:=Jy v H' hy;unfold compF at f1;cases eb:cZ id (caps.map (ce a)) tg ds[i] with
     | none=>rw[eb] at f1; cases f1
     | some a1=>
      rw[eb] at f1;simp only at f1;have hN3:=hNc.mono s3;refine D3 hK dx (fun j hj=>by rw[hlen]; exact ilt j hj) a0n (hS2.grow s3) eb fun σ2 r1 r0 hl2=>?_;have hlen2:σ2.length=caps.length:=hl2.trans hlen;have takeIt:∀y H4,Sub H' H4->Ip.eval G cl a1 x=.ok y->o=some y->az W G cl x (fun _ _ _ _=>False) σ2 H4 fun v H5=>∃ys',H5 l=some (.lst ys')/\ys'.length<sizeLine /\
        ∃(z1:List KD) (fp:List Addr),aC (compF G cl (caps.map (ce a)) tg ts x) (ds.take (i+1))=.ok z1/\fp.Nodup/\l∉fp/\(∀b∈fp,H1 b=none) /\
        OwnV W (hid (cC N l fp) (upd H5 l (.lst (ys'++[v])))) (upd H5 l (.lst (ys'++[v]))) (ys'++[v]) z1 fp/\(upd H5 l (.lst (ys'++[v]))) l=some (.lst (ys'++[v]))/\Sub H1 (upd H5 l (.lst (ys'++[v]))) /\
        RelS W (hid (cC N l fp) (upd H5 l (.lst (ys'++[v])))) (caps.map (ce a)) σ2/\σ2.length=caps.length:=by
       intro y H4 s4 ey ho;refine⟨cC N l fp,a1,hN3.mono s4,r1.grow s4,?_⟩;rw[ey];rintro v H5 ⟨s5,fq,nd5,hf5,ow5⟩;have sc5:Sub Hc H5:=(s3.trans s4).trans s5;have l4:H4 l≠none:=by rw[(s3.trans s4) l _ hcl]; simp
       have lq:l∉fq:=fun z=>l4 (hf5 l z);have up:∀b,b≠l->(upd H5 l (.lst (ys++[v]))) b=H5 b:=fun b z=>aZ z;have big:Sub (hid (cC N l fp) Hc) (hid (cC N l (fp++fq)) (upd H5 l (.lst (ys++[v])))):=fun b u e=>by
        obtain⟨g1,g2⟩:=ax.mp e;have bl:b≠l:=fun z=>g1 (.inl (.inr z));refine ax.mpr ⟨fun z=>?_,by rw[up b bl]; exact sc5 b u g2⟩;rcases z with z | z
        ·exact g1 (.inl z)
        ·rcases dk z with z | z
         ·exact g1 (.inr z)
         ·have:=hf5 b z;rw[(s3.trans s4) b u g2] at this;cases this
       refine⟨ys,sc5 l _ hcl,?_,z1++[y],fp++fq,by rw[f3,ho]; rfl,?_,?_,?_,?_,bu,?_,?_,hlen2⟩
       ·rw[ow.length];have:=sj ez;rw[List.length_take] at this;have h2:SL<sizeLine:=by decide
        omega
       ·refine List.nodup_append.mpr ⟨nd,nd5,fun b hb c hc z=>?_⟩;subst z;have h1:=ow.dom b hb;cases hq:Hc b with
        | none=>exact h1 hq
        | some u=>
         have:=hf5 b hc;rw[(s3.trans s4) b u hq] at this;cases this
       ·intro z;rcases dk z with z | z
        ·exact lf z
        ·exact lq z
       ·intro b z;rcases dk z with z | z
        ·exact hf b z
        ·exact (hs2.trans (s3.trans s4)).none (hf5 b z)
       ·refine OwnV.snoc (ow5.mono (fun b u e=>?_) fun b hb u e=>?_) (ow.mono big fun b hb u e=>?_)
        ·obtain⟨g1,g2⟩:=ax.mp e;have bl:b≠l:=fun z=>g1 (.inl (.inl (.inr z)));refine ax.mpr ⟨fun z=>?_,by rw[up b bl]; exact g2⟩;rcases z with z | z
         ·exact g1 (.inl (.inl z))
         ·rcases dk z with z | z
          ·exact g1 (.inl (.inr z))
          ·exact g1 (.inr z)
        ·rw[up b fun z=>lq (z ▸ hb)]; exact e
        ·rw[up b fun z=>lf (z ▸ hb)]; exact sc5 b u e
       ·intro b u e;rw[up b fun z=>by rw[z,hl1] at e; cases e];exact (hs2.trans sc5) b u e
       ·refine RelS.mono (fun b u e=>?_) r0;obtain⟨g1,g2⟩:=ax.mp e;have bl:b≠l:=fun z=>g1 (.inl (.inr z));refine ax.mpr ⟨fun z=>?_,by rw[up b bl]; exact (s4.trans s5) b u g2⟩;rcases z with z | z
        ·exact g1 (.inl z)
        ·rcases dk z with z | z
         ·exact g1 (.inr z)
         ·have:=hf5 b z;rw[s4 b u g2] at this;cases this
      match ts,f1 with
      | [],f1=>
       simp only[cM,Ip.R.bind] at f1;cases ey:Ip.eval G cl a1 x with
       | bad=>rw[ey] at f1; cases f1
       | exc c fs=>rw[ey] at f1; cases f1
       | ok y=>
        rw[ey] at f1;cases f1;have t:=takeIt y H' (Sub.refl _) ey rfl;simp only[oU,fX,if_true];exact t
      | [t],f1=>
       simp only[cM,bh,Ip.R.bind] at f1;refine⟨cC N l fp,a1,hN3,r1,?_⟩;cases et:Ip.eval G cl a1 t with
       | bad=>rw[et] at f1; cases f1
       | exc c fs=>rw[et] at f1; cases f1
       | ok tv=>
        obtain⟨kt,tv⟩:=tv;rw[et] at f1;simp only at f1;cases tv <;> simp only[Ip.gu] at f1 <;> try (cases f1; done)
        rename_i b;intro H4 s4;cases b with
        | true=>
         rw[if_pos rfl];simp only[if_true] at f1;cases ey:Ip.eval G cl a1 x with
         | bad=>rw[ey] at f1; cases f1
         | exc c fs=>rw[ey] at f1; cases f1
         | ok y=>
          rw[ey] at f1;cases f1;exact takeIt y H4 s4 ey rfl
        | false=>
         rw[if_neg (by decide)];simp only[Bool.false_eq_true,if_false] at f1;cases f1;have sc4:Sub Hc H4:=s3.trans s4;exact⟨z1,fp,by rw[f3]; simp,nd,lf,hf,ow.mono (jD sc4) fun b _ u e=>sc4 b u e,sc4 l _ hcl,hs2.trans sc4,r0.grow s4,hlen2⟩
      | _::_::_,f1=>
       exfalso;obtain⟨us,h1,h2⟩:=gY f1;simp only[bh] at h1;obtain⟨u1,_,h1⟩:=gY h1;obtain⟨u2,h3,h1⟩:=gY h1;obtain⟨u4,_,h3⟩:=gY h3;obtain⟨u5,_,h3⟩:=gY h3;cases h1;cases h3;simp only at h2;cases h2
    ·have e:i=ds.length:=by omega
     subst e;rw[List.take_of_length_le (Nat.le_refl _),e3] at ez;cases ez;obtain⟨fq,nd2,sub,o2⟩:=OwnV.join (N:=fun b=>N b\/b=l) nd (fun b hb z=>z.elim (fun y=>hN1 b y (hf b hb)) fun y=>lf (y ▸ hb)) ow;refine .inl ⟨J2 (aX _),h _ _ ⟨hs1.trans hs2,l::fq,List.nodup_cons.mpr ⟨fun z=>lf (sub l z),nd2⟩,fun b z=>?_,l,ys,fq,rfl,hcl,?_,rfl⟩⟩
     ·rcases bN z with y | y
      ·rw[y]; exact hs1.none hl1
      ·exact hs1.none (hf b (sub b y))
     ·refine o2.imp fun v d f hf2 ow=>ow.mono (fun b u e=>?_) fun b _ u e=>e;obtain⟨g1,g2⟩:=ax.mp e;refine ax.mpr ⟨fun z=>g1 ?_,g2⟩;rcases z with z | z
      ·exact .inl (.inl z)
      ·rcases bN z with y | y
       ·exact .inl (.inr y)
       ·exact .inr y
end
def yR (W:Wd)(G:Pg)(n f:Nat):Sp:=fun vs H Q E=>∃(N:Addr->Prop) (xs:List KD),NOk N H/\Dens W (hid N H) vs (xs.map (·.2))/\match Ip.run G n f xs with
 | .ret k d []=>∀v H',Res W H N H' (k,d) v->Q v H'
 | .exc c fs []=>∀e H',ExcR W H N H' c fs e->E (.ref e) none H'
 | _=>False
def Ar (W:Wd)(G:Pg)(n f:Nat):Sp:=fun vs H Q E=>∃(N:Addr->Prop) (x0:KD) (xs:List KD) (v0:V) (ws:List V) (f0:List Addr),vs=v0::ws/\NOk N H/\f0.Nodup/\(∀b∈f0,¬N b) /\
 Own W (hid (fun b=>N b\/b∈f0) H) H x0.1 v0 x0.2 f0/\Dens W (hid (fun b=>N b\/b∈f0) H) ws (xs.map (·.2))/\match Ip.run G n f (x0::xs) with
 | .ret k d [y]=>∀v H' (fp:List Addr),Sub (hid (fun b=>b∈f0) H) H'->fp.Nodup->(∀b∈fp,hid (fun b=>b∈f0) H b=none)->Own W (hid (fun b=>N b\/b∈fp) H') H' y.1 v0 y.2 fp->(d=.non->v=.non)->Q v H'
 | .exc c fs _=>∀e H',ExcR W (hid (fun b=>b∈f0) H) N H' c fs e->E (.ref e) none H'
 | _=>False
def fH (W:Wd)(G:Pg)(n f:Nat)(F:Fn):Sp:=fun vs H Q E=>(F.io=[]/\yR W G n f vs H Q E)\/(F.io=[0]/\Ar W G n f vs H Q E)
theorem uJ (hF:G.fn f=some F)(h:Ip.run G n f xs≠.bad):xs.length=F.np:=by
 cases n with
 | zero=>exact absurd rfl h
 | succ n=>
  rw[Ip.run,hF] at h;by_cases e:xs.length=F.np
  ·exact e
  ·simp only[if_neg e] at h; exact absurd rfl h
theorem oQ (hF:G.fn f=some F)(h:fH W G n f F vs H Q E):vs.length=F.np:=by
 rcases h with ⟨_,N,xs,_,d,q⟩ | ⟨_,N,x0,xs,v0,ws,f0,rfl,_,_,_,_,d,q⟩
 ·have:=uJ (xs:=xs) hF (fun z=>by rw[z] at q; exact q);rw[d.length,List.length_map]; exact this
 ·have:=uJ (xs:=x0::xs) hF (fun z=>by rw[z] at q; exact q);rw[List.length_cons,d.length,List.length_map]; simpa using this
section
variable {X:Cx}{W:Wd}{G:Pg}{n:Nat}{E:St->XK}{σ:St}{H:Hp}{Q:VK}
theorem jw {irs:List Ex}{cl:Nat->List KD->Ip.Run}{Q:List V->Hp->Prop}{N:Addr->Prop}{a:Sl}(hN:NOk N H)(hS:RelS W (hid N H) a σ)
  (ok:∀xs,evals G cl a irs=.ok xs->∀vs H1,Sub H H1->Dens W (hid N H1) vs (xs.map (·.2))->Q vs H1)
  (ex:∀c fs,evals G cl a irs=.exc c fs->∀e H',ExcR W H N H' c fs e->E σ (.ref e) none H')(nb:evals G cl a irs≠.bad):be W G cl irs E σ H Q:=by
 refine⟨N,a,hN,hS,?_⟩;cases q:evals G cl a irs with
 | bad=>exact absurd q nb
 | exc c fs=>exact ex c fs q
 | ok xs=>exact fun vs H1 r=>ok xs q vs H1 r.1 (r.dens hN)
noncomputable def bS (F:Fn)(m:Nat):List D:=F.dfl.drop (F.dfl.length - (F.np - m))
theorem DG (F:Fn)(xs:List KD):Ip.fill F xs=xs++(bS F xs.length).map fun d=>(99,d):=rfl
theorem pQ (F:Fn)(xs:List KD):(Ip.fill F xs).map (·.2)=xs.map (·.2)++bS F xs.length:=by
 rw[DG,List.map_append,List.map_map];congr 1
 exact List.map_id _
theorem iK (h:evals G cl a irs=.ok xs):xs.length=irs.length:=qJ.evals_length h
theorem rq (h:cP G f k=some F):G.fn f=some F/\F.io=[]/\k<=F.np/\F.np - k<=F.dfl.length:=by
 unfold cP at h;cases q:G.fn f with
 | none=>rw[q] at h; cases h
 | some F'=>
  rw[q] at h;simp only at h;by_cases c:F'.io=[]/\k<=F'.np/\F'.np - k<=F'.dfl.length
  ·rw[if_pos c] at h; cases h; exact⟨rfl,c⟩
  ·rw[if_neg c] at h; cases h
theorem si (h:bL G m k d=some (f,F)):∃c fs Cl',d=.ins c fs/\G.cl c=some Cl'/\Cl'.meths.lookup m=some f/\G.fn f=some F/\F.io=[]/\fs.lookup m=none/\k+1<=F.np/\F.np - (k+1)<=F.dfl.length:=by
 cases d <;> simp only[bL] at h <;> try (cases h; done)
 rename_i c fs;cases q1:G.cl c with
 | none=>rw[q1] at h; cases h
 | some Cl'=>
  rw[q1] at h;simp only at h;cases q2:Cl'.meths.lookup m with
  | none=>rw[q2] at h; cases h
  | some f'=>
   rw[q2] at h;simp only at h;cases q3:G.fn f' with
   | none=>rw[q3] at h; cases h
   | some F'=>
    rw[q3] at h;simp only at h;by_cases c1:F'.io=[]/\fs.lookup m=none/\k+1<=F'.np/\F'.np - (k+1)<=F'.dfl.length
    ·rw[if_pos c1] at h;cases h;exact⟨c,fs,Cl',rfl,q1,q2,q3,c1⟩
    ·rw[if_neg c1] at h; cases h
theorem uC (hF:cP G f es.length=some F)(hd:∀S,Dens W S dvs (bS F es.length))(h:az W G (Ip.run G n) (.call f es) E σ H Q):eZ (fH W G n f F) dvs E (be W G (Ip.run G n) es E) σ H Q:=by
 obtain⟨N,a,hN,hS,h⟩:=h;obtain⟨_,hio,_⟩:=rq hF;rw[iu,hF] at h;simp only[Ip.R.bind] at h;unfold eZ;refine jw hN hS (fun xs ex vs H1 hs dv=>?_) (fun c fs ee=>?_) fun ee=>?_
 ·rw[ex] at h;simp only at h;refine .inl ⟨hio,N,Ip.fill F xs,hN.mono hs,?_,?_⟩
  ·rw[pQ,iK ex];exact dv.append (hd _)
  ·cases q:Ip.run G n f (Ip.fill F xs) with
   | bad=>rw[q] at h; exact h
   | ret k d outs=>
    rw[q] at h;cases outs with
    | nil=>exact fun v H' r=>h v H' (r.trans hs)
    | cons _ _=>exact h
   | exc c fs outs=>
    rw[q] at h;cases outs with
    | nil=>exact fun e H' r=>h e H' (r.of_sub hs)
    | cons _ _=>exact h
 ·rw[ee] at h; exact h
 ·rw[ee] at h; exact h
theorem zY (nd:W.att.Nodup)(hnm:W.att[m]? = some nm)(hC:W.iA c=some C)(hd:∀S,Dens W S dvs (bS F (es.length+1)))
 (hN:NOk N H)(hS:RelS W (hid N H) a σ)(ho:Ip.eval G (Ip.run G n) a io=.ok (k,.ins c fs0))(hm:bL G m es.length (.ins c fs0)=some (f,F))
    (h:match Ip.eval G (Ip.run G n) a (.meth m io es) with
      | .ok x=>∀v H',Res W H N H' x v->Q v H'
      | .exc c fs=>∀e H',ExcR W H N H' c fs e->E σ (.ref e) none H'
      | .bad=>False):d6 C nm (fH W G n f F) dvs E (az W G (Ip.run G n) io E) (be W G (Ip.run G n) es E) σ H Q:=by
  obtain⟨_,_,_,e0,_,_,_,hio,hfl,_⟩:=si hm;cases e0;rw[jI,ho] at h;simp only[Ip.R.bind,hm,Ip.R.of] at h;unfold d6;refine⟨N,a,hN,hS,?_⟩;rw[ho];intro v H1 r;have dv:=r.den hN;have hs:=r.1;cases dv with | @ins b C' dx _ fs ds hb hc' hf=>?_
  rw[hC] at hc';cases hc';have hb1:=ax.mp hb;refine⟨b,dx,fs,rfl,hb1.2,(hf.lookup nd hnm).2 hfl,?_⟩;refine jw (hN.mono hs) (hS.grow hs) (fun xs ex vs H2 hs2 dv2=>?_) (fun c fs ee e H' r=>?_) fun ee=>?_
  · rw[ex] at h;simp only at h;refine .inl ⟨hio,N,Ip.fill F ((k,.ins c fs0)::xs),hN.mono (hs.trans hs2),?_,?_⟩
    · rw[pQ,List.length_cons,iK ex];exact (Dens.cons ((Den.ins hb hC hf).mono (jD hs2)) dv2).append (hd _)
    · cases q2:Ip.run G n f (Ip.fill F ((k,.ins c fs0)::xs)) with
      | bad=>rw[q2] at h; exact h
      | ret k d outs=>
        rw[q2] at h;cases outs with
        | nil=>exact fun v H' r=>h v H' (r.trans (hs.trans hs2))
        | cons _ _=>exact h
      | exc c fs outs=>
        rw[q2] at h;cases outs with
        | nil=>exact fun e H' r=>h e H' (r.of_sub (hs.trans hs2))
        | cons _ _=>exact h
  · rw[ee] at h;exact h e H' (r.of_sub hs)
  · rw[ee] at h; exact h
end
structure InsC (K:aG)(C:Addr):Prop where
 cls:Cls K C
 ha:PySem.W.findIn K (.ref C) "__class__" = some (some (.builtin "object.__class__"))
 hn:PySem.W.specialIn K (.builtin "object.__class__") "__get__" = some (some (.builtin "getset_descriptor.__get__"))
 htk:PySem.W.takesIn K (.builtin "object.__class__")=some true
 hm:PySem.W.mroIn K C (.type "object")=some true
structure ExcC (K:aG)(C:Addr):Prop where
 xc:∃fI tl,XC K C fI tl
 xi:XI K C
structure CF (W:Wd)(fl:List Nat):Prop where
 nd:W.att.Nodup
 ins:∀c C,W.iA c=some C->InsC W.K C/\∀f n,f∈fl->W.att[f]? = some n->NoAttr W.K C n
 exc:∀c C,W.xA c=some C->ExcC W.K C/\∀f n,f∈fl->W.att[f]? = some n->NoAttr W.K C n
section
variable {X:Cx}{W:Wd}{G:Pg}{cl:Nat->List KD->Ip.Run}{E:St->XK}{fl:List Nat}
theorem PE.or (h:PE X e t)(h':PE X e t'):PE X e (fun σ H Q=>t σ H Q\/t' σ H Q):=fun pins s σ H Q I q=>q.elim (h pins s σ H Q I) (h' pins s σ H Q I)
theorem yL (hK:W.K=X.K)(cf:CF W fl)(hk:k∈fl)(hn:W.att[k]? = some n)(ho:PE X o (az W G cl io E))(hb:attributeBase o n X.env (PySem.eval o X.env)=PySem.eval o X.env):PE X (.Attribute o n pos) (az W G cl (.op (.fld k) [io]) E):=by
 refine ((wV ho hb).or (Ek ho hb)).mono fun σ H Q hZz=>?_;obtain⟨N,a,hN,hS,q⟩:=hZz;rw[bQ,bh,cM] at q;cases e1:Ip.eval G cl a io with
 | bad=>rw[e1] at q; exact q.elim
 | exc c fs=>
  rw[e1] at q;refine .inl ⟨N,a,hN,hS,?_⟩;rw[e1]; exact q
 | ok x=>
  obtain⟨kx,d⟩:=x;rw[e1] at q;simp only[Ip.R.bind,Ip.CS,bJ] at q;cases d <;> simp only[Ip.gD] at q <;> try (exact q.elim)
  ·rename_i c fs;cases e2:fs.lookup k with
   | none=>rw[e2] at q; exact q.elim
   | some d=>
    rw[e2] at q;refine .inl ⟨N,a,hN,hS,?_⟩;rw[e1];intro v H1 r;have dv:=r.den hN;cases dv with | @ins b C dx _ vs ds hb hc hf=>?_
    obtain⟨w,l1,dw⟩:=(hf.lookup cf.nd hn).1 d e2;obtain⟨ic,na⟩:=cf.ins c C hc;exact⟨b,C,dx,vs,w,rfl,(ax.mp hb).2,hK ▸ ic.cls,hK ▸ na k n hk hn,l1,q _ _ (Res.of_den r.1 dw)⟩
  ·rename_i c fs;cases e2:fs.lookup k with
   | none=>rw[e2] at q; exact q.elim
   | some d=>
    rw[e2] at q;refine .inr ⟨N,a,hN,hS,?_⟩;rw[e1];intro v H1 r;have dv:=r.den hN;cases dv with | @exc b C nw _ vs ds hb hc hf=>?_
    obtain⟨w,l1,dw⟩:=(hf.lookup cf.nd hn).1 d e2;obtain⟨ic,na⟩:=cf.exc c C hc;obtain⟨fI,tl,T⟩:=ic.xc;exact⟨b,C,fI,tl,nw,vs,w,rfl,(ax.mp hb).2,hK ▸ T,hK ▸ na k n hk hn,l1,q _ _ (Res.of_den r.1 dw)⟩
noncomputable def fS (W:Wd):D->Option Value
 | .non=>some (.type "NoneType")
 | .bl _=>some (.type "bool")
 | .int _=>some (.type "int")
 | .str _=>some (.type "str")
 | .lst _=>some (.type "list")
 | .tup _=>some (.type "tuple")
 | .ins c _=>(W.iA c).map .ref
 | .exc c _=>(W.xA c).map .ref
theorem wp {pins:List (Addr×Obj)}{σ:St}{H:Hp}{s:Shared}{A:Around}{E:Value->Shared->Prop}{Q:Value->Shared->Prop}{c:Value}{b:Bool}{x:V}{u t:Value}{d:D}(hK:W.K=X.K)(cf:CF W fl)(I:Inv X pins σ H s)(rx:RelV x u)(hd:Den W H x d)(ht:fS W d=some t)
  (e:PySem.W.kitOne X.K t c=some b)(h:∀tk,Q (.bool b) { s with toks:=tk }):wpAny (model X.prog X.w) A (call (.builtin "isinstance") [u,c]) Q E s:=by
 cases hd with
 | non=>cases ht; exact iI I rx .non e h
 | bl=>cases ht; exact iI I rx (.bl _) e h
 | int=>cases ht; exact iI I rx (.int _) e h
 | str=>cases ht; exact iI I rx (.str _) e h
 | lst h1 h2=>
  cases ht;rcases h1 with h1 | ⟨o,h1⟩
  ·exact iI I rx (.lst h1) e h
  ·exact iI I rx (.frz h1) e h
 | @tup a vs ds h1 h2=>
  cases ht;cases (show u=Value.ref a from rx);obtain⟨its,_,⟨o,g1,g2,_⟩,_⟩:=I.tuple (hK ▸ h1);exact PySem.W.kia_one PySem.W.kitx_tuple I.kIn ⟨o,g1,g2⟩ e (fun z=>nomatch z) h
 | ins h1 hc _=>
  rw[fS,hc] at ht;cases ht;obtain⟨ic,_⟩:=cf.ins _ _ hc;exact iI I rx (.ins h1 (hK ▸ ic.cls) (hK ▸ ic.ha) (hK ▸ ic.hn) (hK ▸ ic.htk) (hK ▸ ic.hm)) e h
 | exc h1 hc _=>
  rw[fS,hc] at ht;cases ht;obtain⟨ic,_⟩:=cf.exc _ _ hc;obtain⟨fI,tl,T⟩:=ic.xc;exact xO I rx (.exc h1 (hK ▸ T) (hK ▸ ic.xi)) e h
def bC (W:Wd)(G:Pg)(t:Ip.Ty)(cv:Value):Prop:=∀d tv,fS W d=some tv->PySem.W.kitOne W.K tv cv=some (ao G d t)
theorem Den.ty (h:Den W S v d):∃t,fS W d=some t:=by
 cases h with
 | ins _ hc _=>exact⟨_,by rw[fS,hc]; rfl⟩
 | exc _ hc _=>exact⟨_,by rw[fS,hc]; rfl⟩
 | _=>exact⟨_,rfl⟩
theorem DP {a b:Expr}{ia:Ex}{t:Ip.Ty}{c:V}{cv:Value}{p pos:Pos}(hK:W.K=X.K)(cf:CF W fl)(hc:valOf c=some cv)(hi:bC W G t cv)(hg:Gl X "isinstance")(hm:X.mg "isinstance" = none)(hv:bootBuiltins "isinstance" = some (.builtin "isinstance"))
  (ha:PE X a (az W G cl ia E))(hb:PE X b (tC c))(hs1:starEach [a,b] X.env=(false,PySem.eval a X.env)::starEach [b] X.env)(hs2:starEach [b] X.env=(false,PySem.eval b X.env)::starEach [] X.env) :
  PE X (.Call (.Name "isinstance" p) [a,b] [] pos) (az W G cl (.op (.isi [t]) [ia]) E):=by
 have rule:CallR X (.builtin "isinstance") (fun xs H Q=>∃N x d,NOk N H/\xs=[x,c]/\Den W (hid N H) x d/\Q (.bl ([t].any (ao G d))) H):=by
  rintro pins s σ H xs us Q I r ⟨N,x,d,hN,e,hd,q⟩;have e1:[t].any (ao G d)=ao G d t:=by simp
  rw[e1] at q;subst e;obtain⟨u,v,rfl,ru,rv⟩:=vals2 r;have ev:v=cv:=by
   cases c with
   | ref a=>cases hc; exact rv
   | ty n=>cases hc; exact rv
   | _=>cases hc
  subst ev;obtain⟨tv,et⟩:=hd.ty;exact wp hK cf I ru (hd.mono bj) et (hK ▸ hi d tv et) fun tk=>⟨.bl _,H,I.tok _,rfl,q⟩
 refine (je rule hg hm hv (iG ha (iG hb km hs2) hs1) (by decide) (by decide) hs1 (by rw[hs2]; rfl)).mono fun σ H Q hZz=>?_;obtain⟨N,as,hN,hS,q⟩:=hZz;rw[bQ,bh,cM] at q;refine⟨N,as,hN,hS,?_⟩;cases e1:Ip.eval G cl as ia with
 | bad=>rw[e1] at q; exact q.elim
 | exc c fs=>rw[e1] at q; exact q
 | ok x=>
  obtain⟨kx,d⟩:=x;rw[e1] at q;intro v H1 r;exact⟨N,v,d,hN.mono r.1,rfl,r.den hN,q _ _ (Res.of_flat r.1 rfl .bl)⟩
theorem wR (hK:W.K=X.K)(cf:CF W fl)(I:Inv X pins σ H s)(rx:RelV x u)(hd:Den W H x d)(ht:fS W d=some t) :
  ∃P:Heap->Prop,PySem.W.KitX X.K u t P/\P s.heap/\u≠.builtin "__main__.__loader__#opaque":=by
 cases hd with
 | non=>cases ht; cases (show u=Value.none from rx); exact⟨_,PySem.W.kitx_none,trivial,fun z=>nomatch z⟩
 | @bl y=>cases ht; cases (show u=Value.bool y from rx); exact⟨_,PySem.W.kitx_bool,trivial,fun z=>nomatch z⟩
 | @int i=>cases ht; obtain⟨t,q⟩:=(show ∃t,u=Value.int i t from rx); cases q; exact⟨_,PySem.W.kitx_int,trivial,fun z=>nomatch z⟩
 | @str y=>cases ht; obtain⟨t,q⟩:=(show ∃t,u=Value.str y t from rx); cases q; exact⟨_,PySem.W.kitx_str,trivial,fun z=>nomatch z⟩
 | @lst a vs ds h1 h2=>
  cases ht;cases (show u=Value.ref a from rx);obtain⟨_,its,n,_,_,eo⟩:=I.rdL h1;exact⟨_,PySem.W.kitx_list,⟨_,eo,rfl⟩,fun z=>nomatch z⟩
 | @tup a vs ds h1 h2=>
  cases ht;cases (show u=Value.ref a from rx);obtain⟨its,_,⟨o,g1,g2,_⟩,_⟩:=I.tuple (hK ▸ h1);exact⟨_,PySem.W.kitx_tuple,⟨o,g1,g2⟩,fun z=>nomatch z⟩
 | @ins a C dx c vs ds h1 hc _=>
  rw[fS,hc] at ht;cases ht;cases (show u=Value.ref a from rx);obtain⟨ic,_⟩:=cf.ins _ _ hc;obtain⟨mA,O,_⟩:=mC I.hok h1;obtain⟨od,J,_⟩:=O.look;exact⟨_,PySem.W.kitx_own ((hK ▸ ic.cls:Cls X.K C).get _) (hK ▸ ic.cls:Cls X.K C).hd (hK ▸ ic.ha) (hK ▸ ic.hn) (hK ▸ ic.htk) (hK ▸ ic.hm),J,fun z=>nomatch z⟩
 | @exc a C nw c vs ds h1 hc _=>
  rw[fS,hc] at ht;cases ht;cases (show u=Value.ref a from rx);obtain⟨ic,_⟩:=cf.exc _ _ hc;obtain⟨fI,tl,T⟩:=ic.xc;obtain⟨mA,J,_,_⟩:=I.inst h1;exact⟨_,vi (hK ▸ T) (hK ▸ ic.xi),mR J,fun z=>nomatch z⟩
inductive Isis (X:Cx) (W:Wd) (G:Pg):List Expr->List Ip.Ty->List V->List Value->Prop
 | nil:Isis X W G [] [] [] []
 | cons {e:Expr} {es:List Expr} {t:Ip.Ty} {ts:List Ip.Ty} {c:V} {cs:List V} {cv:Value} {cvs:List Value} (he:PE X e (tC c)) (hs:∀es,starEach (e::es) X.env=(false,PySem.eval e X.env)::starEach es X.env) (hc:valOf c=some cv) (hi:bC W G t cv) (r:Isis X W G es ts cs cvs):Isis X W G (e::es) (t::ts) (c::cs) (cv::cvs)
def D6 (cs:List V):TA:=fun _ H Q=>Q cs H
theorem Isis.pa (h:Isis X W G es ts cs cvs):PA X es (D6 cs):=by
 induction h with
 | nil=>exact km
 | cons he hs hc hi r ih=>exact iG he ih (hs _)
theorem Isis.any (h:Isis X W G es ts cs cvs)(ht:fS W d=some t):PySem.W.kitAny W.K t cvs=some (ts.any (ao G d)):=by
 induction h with
 | nil=>rfl
 | @cons e es t' ts c cs cv cvs he hs hc hi r ih=>
  unfold PySem.W.kitAny;rw[hi d t ht,List.any_cons];cases ao G d t' with
  | true=>rfl
  | false=>exact ih
theorem Isis.vals (h:Isis X W G es ts cs cvs)(r:Vals cs its):its=cvs:=by
 induction h generalizing its with
 | nil=>cases r; rfl
 | @cons e es t' ts c cs cv cvs he hs hc hi q ih=>
  cases r with
  | cons r1 r2=>
   rw[ih r2];congr 1
   cases c with
   | ref a=>cases hc; exact r1
   | ty n=>cases hc; exact r1
   | _=>cases hc
theorem Isis.len (h:Isis X W G es ts cs cvs):cs.length=es.length:=by
 induction h with
 | nil=>rfl
 | cons _ _ _ _ _ ih=>simp[ih]
theorem Cj (hK:W.K=X.K)(cf:CF W fl)(hl:es.length<=1000)(hi:Isis X W G es ts cs cvs)(hg:Gl X "isinstance")(hm:X.mg "isinstance" = none)(hv:bootBuiltins "isinstance" = some (.builtin "isinstance"))
  (ha:PE X a (az W G cl ia E))(hs1:starEach [a,.Tuple es kt tp] X.env=(false,PySem.eval a X.env)::starEach [.Tuple es kt tp] X.env)(hs2:starEach [.Tuple es kt tp] X.env=(false,PySem.eval (.Tuple es kt tp) X.env)::starEach [] X.env) :
  PE X (.Call (.Name "isinstance" p) [a,.Tuple es kt tp] [] pos) (az W G cl (.op (.isi ts) [ia]) E):=by
 have rule:CallR X (.builtin "isinstance") (fun xs H Q=>∃N x d q,NOk N H/\xs=[x,.ref q]/\H q=some (.tup cs)/\Den W (hid N H) x d/\Q (.bl (ts.any (ao G d))) H):=by
  rintro pins s σ H xs us Q I r ⟨N,x,d,q,hN,e,hq,hd,k⟩;subst e;obtain⟨u,v,rfl,ru,rv⟩:=vals2 r;cases (show v=Value.ref q from rv);obtain⟨tv,et⟩:=hd.ty;obtain⟨P,Z,hp,hne⟩:=wR hK cf I ru (hd.mono bj) et;obtain⟨_,its,rI,⟨o,g1,g2,⟨n,g3⟩,_⟩⟩:=(show ObjOk X.prog X.w H s.heap q (.tup cs) from I.hok q _ hq)
  have ei:=hi.vals rI;subst ei;have eo:o=⟨.type "tuple",o.dict,.seq its.toArray n,o.slots⟩:=by
   cases o;simp only at g2 g3;rw[g2,g3]
  exact PySem.W.kia_tup Z I.kIn hp (by rw[g1,eo]) (hK ▸ hi.any et) hne fun tk=>⟨.bl _,H,I.tok _,rfl,k⟩
 refine (je rule hg hm hv (iG ha (iG (uO hi.pa) km hs2) hs1) (by decide) (by decide) hs1 (by rw[hs2]; rfl)).mono fun σ H Q hZz=>?_;obtain⟨N,as,hN,hS,q⟩:=hZz;rw[bQ,evals,evals] at q;refine⟨N,as,hN,hS,?_⟩;cases e1:Ip.eval G cl as ia with
 | bad=>rw[e1] at q; exact q.elim
 | exc c fs=>rw[e1] at q; exact q
 | ok x=>
  obtain⟨kx,d⟩:=x;rw[e1] at q;intro v H1 r;refine⟨by rw[hi.len]; exact br hl (by decide),fun p hp=>?_⟩;exact⟨N,v,d,p,(hN.mono r.1).mono (Sub.upd hp),rfl,bu,(r.den hN).mono (fD (Sub.upd hp) fun _ z=>.inl z),q _ _ (Res.of_flat (r.1.trans (Sub.upd hp)) rfl .bl)⟩
end
section
variable {X:Cx}{W:Wd}{G:Pg}{n:Nat}{E:St->XK}{σ:St}{H:Hp}{Q:VK}
theorem oE (h:aW G c k=some (f,F,d)):∃Cl',G.cl c=some Cl'/\Cl'.init=some f/\G.fn f=some F/\(d=if Cl'.isx=true then .exc c [] else .ins c [])/\F.io=[0]/\k+1<=F.np/\F.np - (k+1)<=F.dfl.length/\k<=50:=by
 unfold aW at h;cases q1:G.cl c with
 | none=>rw[q1] at h; cases h
 | some Cl'=>
  rw[q1] at h;simp only at h;cases q2:Cl'.init with
  | none=>rw[q2] at h; cases h
  | some f'=>
   rw[q2] at h;simp only at h;cases q3:G.fn f' with
   | none=>rw[q3] at h; cases h
   | some F'=>
    rw[q3] at h;simp only at h;by_cases c1:F'.io=[0]/\k+1<=F'.np/\F'.np - (k+1)<=F'.dfl.length/\k<=50
    ·rw[if_pos c1] at h;cases h;exact⟨Cl',rfl,q2,q3,rfl,c1⟩
    ·rw[if_neg c1] at h; cases h
theorem rG (hio:F.io=[0])(hnp:xs.length+1<=F.np)
  (hd:∀S,Dens W S dvs (bS F (xs.length+1)))(hN:NOk N H1)(hs:Sub H H1)(dv:Dens W (hid N H1) vs (xs.map (·.2)))(hx:H1 x=none)(h12:∀b,b≠x->∀o,H1 b=some o->H2 b=some o)(h21:∀b,H2 b=none->H1 b=none)
  (ho:Own W (hid (fun b=>N b\/b∈[x]) H2) H2 1 (.ref x) d0 [x])
  (h:match Ip.eU (Ip.run G n) (f,F,d0) xs with
   | .ok y=>∀v H',Res W H N H' y v->Q v H'
   | .exc c fs=>∀e H',ExcR W H N H' c fs e->E σ (.ref e) none H'
   | .bad=>False):fH W G n f F (.ref x::(vs++dvs)) H2 (fun v H2=>v=.non/\Q (.ref x) H2) (E σ):=by
 simp only[Ip.eU] at h;have hN2:NOk N H2:=fun b z q=>hN b z (h21 b q);have hxN:¬N x:=fun z=>hN x z hx;have s1:Sub H1 (hid (fun b=>b∈[x]) H2):=fun b o e=>ax.mpr ⟨(fun z=>by rw[List.mem_singleton.mp z,hx] at e; cases e),h12 b (fun z=>by rw[z,hx] at e; cases e) o e⟩;have none1:∀b,hid (fun b=>b∈[x]) H2 b=none->H1 b=none:=fun b z=>s1.none z;refine .inr ⟨hio,N,(1,d0),Ip.fill { F with np:=F.np - 1 } xs,.ref x,vs++dvs,[x],rfl,hN2,by simp,fun b hb=>by rw[List.mem_singleton.mp hb]; exact hxN,ho,?_,?_⟩
 ·have e:(Ip.fill { F with np:=F.np - 1 } xs).map (·.2)=xs.map (·.2)++bS F (xs.length+1):=by
   rw[pQ];congr 1
   unfold bS;show F.dfl.drop (F.dfl.length - (F.np - 1 - xs.length))=_;congr 2
   omega
  rw[e];refine (dv.mono fun b o eb=>?_).append (hd _);obtain⟨g1,g2⟩:=ax.mp eb;have bx:b≠x:=fun z=>by rw[z,hx] at g2; cases g2
  exact ax.mpr ⟨fun z=>z.elim g1 fun y=>bx (List.mem_singleton.mp y),h12 b bx o g2⟩
 ·cases q:Ip.run G n f ((1,d0)::Ip.fill { F with np:=F.np - 1 } xs) with
  | bad=>rw[q] at h; exact h
  | exc c fs outs=>
   rw[q] at h;rintro e H' ⟨g1,g2,C,ws,g3,g4,g5⟩;exact h e H' ⟨hs.trans (s1.trans g1),hs.none (none1 e g2),C,ws,g3,g4,g5⟩
  | ret k d outs=>
   rw[q] at h;cases d <;> try (exact h.elim)
   match outs,h with
   | [],h=>exact h.elim
   | _::_::_,h=>exact h.elim
   | [y],h=>
    intro v H' fp g1 nd hf ow hv;exact⟨hv rfl,h _ _ ⟨hs.trans (s1.trans g1),fp,nd,fun b hb=>hs.none (none1 b (hf b hb)),ow⟩⟩
theorem uB (hC:W.iA c=some C)(hm:aW G c es.length=some (f,F,.ins c []))(hd:∀S,Dens W S dvs (bS F (es.length+1)))
  (h:az W G (Ip.run G n) (.make c es) E σ H Q):fg C (fH W G n f F) dvs E (be W G (Ip.run G n) es E) σ H Q:=by
 obtain⟨N,a,hN,hS,h⟩:=h;obtain⟨_,_,_,_,_,hio,hnp,_⟩:=oE hm;rw[kF,hm] at h;simp only[Ip.R.bind] at h;unfold fg;refine jw hN hS (fun xs ex vs H1 hs dv=>?_) (fun c fs ee=>?_) fun ee=>?_
 ·rw[ex] at h;intro x dx h1 h2 hne;have hN1:=hN.mono hs;refine rG (d0:=.ins c []) hio (by rw[iK ex]; exact hnp) (by rw[iK ex]; exact hd) hN1 hs dv h1 (fun b nb o e=>?_) (fun b e=>?_) ⟨x,C,dx,[],[],rfl,bu,hC,.nil,rfl⟩ h
  ·rw[aZ nb,aZ fun z=>by rw[z,h2] at e; cases e]; exact e
  ·by_cases z:b=x
   ·rw[z,bu] at e; cases e
   ·rw[aZ z] at e;by_cases y:b=dx
    ·rw[y,bu] at e; cases e
    ·rw[aZ y] at e; exact e
 ·rw[ee] at h; exact h
 ·rw[ee] at h; exact h
theorem rQ (hC:W.xA c=some C)(hm:aW G c es.length=some (f,F,.exc c []))(hd:∀S,Dens W S dvs (bS F (es.length+1)))
  (h:az W G (Ip.run G n) (.make c es) E σ H Q):dI C (fH W G n f F) dvs E (be W G (Ip.run G n) es E) σ H Q:=by
 obtain⟨N,a,hN,hS,h⟩:=h;obtain⟨_,_,_,_,_,hio,hnp,_,h50⟩:=oE hm;rw[kF,hm] at h;simp only[Ip.R.bind] at h;unfold dI;refine jw hN hS (fun xs ex vs H1 hs dv=>?_) (fun c fs ee=>?_) fun ee=>?_
 ·rw[ex] at h;refine⟨by rw[dv.length,List.length_map,iK ex]; omega,fun x h1=>?_⟩;have hN1:=hN.mono hs;refine rG (d0:=.exc c []) hio (by rw[iK ex]; exact hnp) (by rw[iK ex]; exact hd) hN1 hs dv h1 (fun b nb o e=>?_) (fun b e=>?_) ⟨x,C,true,[],[],rfl,bu,⟨hC,rfl⟩,.nil,rfl⟩ h
  ·rw[aZ nb]; exact e
  ·by_cases z:b=x
   ·rw[z,bu] at e; cases e
   ·rw[aZ z] at e; exact e
 ·rw[ee] at h; exact h
 ·rw[ee] at h; exact h
end
theorem mw (h:eS o=true):attributeBase o f env w=w:=by
 unfold attributeBase;unfold eS at h;split
 ·rename_i heq;simp at h
 ·rfl
theorem dU (h:noStar (e::es)=true):(∀x p,e≠.Starred x p)/\noStar es=true:=by
 unfold noStar at h ⊢;rw[List.all_cons,Bool.and_eq_true] at h;refine⟨fun x p z=>?_,h.2⟩;rw[z] at h;exact absurd (show false=true from h.1) (by decide)
theorem di (h:∀x p,e≠.Starred x p):starEach (e::es) env=(false,PySem.eval e env)::starEach es env:=by
 rcases oh e es env with ⟨x,p,z⟩ | q
 ·exact absurd z (h x p)
 ·exact q
theorem kz:∀{es:List Expr},noStar es=true->(backTo pos (starEach es env)).any (·.1)=false
 | [],_=>rfl
 | e::es,h=>by
  obtain⟨h1,h2⟩:=dU h;rw[di h1];show (false||(backTo pos (starEach es env)).any (·.1))=false;rw[kz h2]; rfl
theorem mN:∀{es:List Expr},noStar es=true->(backTo pos (starEach es env)).all (fun x=>!x.1)=true
 | [],_=>rfl
 | e::es,h=>by
  obtain⟨h1,h2⟩:=dU h;rw[di h1];show (!false&&(backTo pos (starEach es env)).all (fun x=>!x.1))=true;rw[mN h2]; rfl
theorem td (hs:eS o=true)(ns:noStar args=true)(hl:args.length<30)(hp:ap.endLine=cp.line) :
  PySem.eval (.Call (.Attribute o m ap) args [] cp) env=(do
   let ov <-PySem.eval o env
   standAt ap.atName
   let (f,first) <-holding [ov] (getMethod ov m (do return (<-importBound o env).getD true))
   callWith cp f first (backTo cp (starEach args env)) (backToKw cp (keywordEach [] env))):=by
 show (do
  let ov <-attributeBase o m env (PySem.eval o env)
  standAt ap.atName
  methodCall o m ap cp env ov (args.length+0) (backTo cp (starEach args env)) (backToKw cp (keywordEach [] env)))=_
 rw[mw hs];have few:methodCallForm (args.length+0) (backTo cp (starEach args env)) (backToKw cp (keywordEach [] env))=true:=by
  unfold methodCallForm;rw[mN ns];show (true&&true&&decide (args.length+0+0<30))=true;rw[decide_eq_true (by omega)]; rfl
 have hpos:methodCallPos true o env ap cp=pure cp:=by
  unfold methodCallPos;rw[if_pos (by rw[hp]; simp)]
 unfold methodCall;rw[few];unfold calleeOf;rw[hpos];rfl
noncomputable def rm (n:Nat):Nat:=3 * n+1
def FI (W:Wd)(G:Pg)(n:Nat)(P:Program)(w:World)(mg:Str->Option Value)(base:Heap)(k:Nat)(F:Fn)(a:Addr):Prop:=
 ∃(fd:FuncData) (ps:List Str),FnOk P w W.K mg base (cX P w) (rm n) a fd ps (fH W G n k F)/\∀m,m<=F.np->F.np - m<=F.dfl.length->∃(ds:List Value) (dvs:List V),Binds W.K fd ps ds/\Vals dvs ds/\∀S,Dens W S dvs (bS F m)
noncomputable def bG:List (Str×Value):=[("len",.builtin "len"),("all",.builtin "all"),("any",.builtin "any"),("isinstance",.builtin "isinstance"),("max",.builtin "max"),("min",.builtin "min"),("list",.type "list"),("tuple",.type "tuple"),("range",.type "range"),("enumerate",.type "enumerate"),("zip",.type "zip"),("int",.type "int"),("sorted",.builtin "sorted"),("set",.type "set")]
structure GF (W:Wd)(G:Pg)(T:Tb)(n:Nat)(P:Program)(w:World)(mg:Str->Option Value)(base:Heap):Prop where
 cf:CF W T.fl
 att:W.att=T.att
 blt:∀x v,(x,v)∈bG->mg x=none/\bootBuiltins x=some v
 cst:∀x d,T.cst.lookup x=some d->(x == ("__debug__" : Str))=false/\∃u v,mg x=some u/\RelV v u/\d.flat=true/\∀S,Den W S v d
 fns:∀x k,T.fns.lookup x=some k->(x == ("__debug__" : Str))=false/\∃F a,G.fn k=some F/\mg x=some (.ref a)/\PySem.W.keepIn W.K (.ref a)=true/\FI W G n P w mg base k F a
 cls:∀x c,T.cls.lookup x=some c->(x == ("__debug__" : Str))=false/\∃C,mg x=some (.ref C)/\∀Cl' f F,G.cl c=some Cl'->Cl'.init=some f->G.fn f=some F ->
  ∃a,FI W G n P w mg base f F a/\if Cl'.isx=true then W.xA c=some C/\PySem.W.keepIn W.K (.ref C)=true/\∃tl,XC W.K C (.ref a) tl else W.iA c=some C/\Mk W.K C a
 meth:∀c Cl' m f F,G.cl c=some Cl'->Cl'.meths.lookup m=some f->G.fn f=some F->∀nm,W.att[m]? = some nm->∃C a,W.iA c=some C/\Meth W.K C nm a/\FI W G n P w mg base f F a
 isB:∀x t,Ip.jf.lookup x=some t->mg x=none/\x ≠ "__name__" /\ (x == ("__debug__" : Str))=false/\∃nm,bootBuiltins x=some (.type nm)/\bC W G t (.type nm)
 isC:∀x c,T.cls.lookup x=some c->∃C,mg x=some (.ref C)/\bC W G (.cls c) (.ref C)
structure Gd (W:Wd)(G:Pg)(T:Tb)(n:Nat)(E:St->XK)(sc:Scope)(N:List Str)(X:Cx):Prop where
 gf:GF W G T n X.prog X.w X.mg X.base
 K:W.K=X.K
 vis:∀x,aL sc x=true->mZ X.env.scope x
 loc:∀x,aY sc x=true->Loc X.env.scope x/\(X.fn x=true\/X.env.scope.names.lookup x=some .local)
 gl:∀x,aM sc x=true->Gl X x
 fr:∀x,(sc.names.lookup x=some .cell\/sc.names.lookup x=some .free)->(X.env.scope.names.lookup x=some .cell\/X.env.scope.names.lookup x=some .free)
 nm:X.N=N
 nd:N.Nodup
 calm:X.calm=true
 pass:aQ (cX X.prog X.w) X E
 room:Room (rm n+1) X.A
theorem Ds (h:scope.names.lookup x=some k):(relabel scope env).names.lookup x=some k\/(k=.free/\(relabel scope env).names.lookup x=some .cell):=by
 have go:∀(g:Str×NameKind->Str×NameKind),(∀p,g p=p\/(p.2=.free/\g p=(p.1,.cell)))->∀(names:List (Str×NameKind)),names.lookup x=some k->(names.map g).lookup x=some k\/(k=.free/\(names.map g).lookup x=some .cell):=by
  intro g hg names;induction names with
  | nil=>intro h; exact nomatch h
  | cons p r ih=>
   intro h;rw[List.map_cons];obtain⟨n,kn⟩:=p;rw[List.lookup_cons] at h;rcases hg (n,kn) with e | ⟨e1,e2⟩
   ·rw[e,List.lookup_cons];cases hx:x == n with
    | true=>rw[hx] at h; exact .inl h
    | false=>rw[hx] at h; exact ih h
   ·rw[e2,List.lookup_cons];cases hx:x == n with
    | true=>
     rw[hx] at h;have e1':kn=.free:=e1;exact .inr ⟨by rw[<-Option.some.inj h]; exact e1',rfl⟩
    | false=>rw[hx] at h; exact ih h
 refine go _ (fun p=>?_) scope.names h;obtain⟨n,k⟩:=p;by_cases hb:(k == NameKind.free&&env.scope.kind == .function&&env.kindOf n == some .cell)=true
 ·refine .inr ⟨?_,if_pos hb⟩;simp only[Bool.and_eq_true,beq_iff_eq] at hb;exact hb.1.1
 ·exact .inl (if_neg hb)
theorem Gd.block (g:Gd W G T n E sc N X)(hb:cu sc N (au scope) (aH N scope) scope=true)(cl:List (Str×Addr))(C:Addr)(s:Shared)(H:Hp)(fp:List Addr) :
  Gd W G T n (fun _ _ _ _=>False) scope (au scope) (aP X (au scope) scope cl C s H fp fun _ _=>False):=by
 have S:=CompS.of (show compOk sc N (au scope) (aH N scope) scope=true from hb);have look:∀x k,scope.names.lookup x=some k->(relabel scope X.env).names.lookup x=some k\/(k=.free/\(relabel scope X.env).names.lookup x=some .cell):=fun x k=>Ds;refine⟨g.gf,g.K,fun x h=>?_,fun x h=>?_,fun x h=>?_,fun x h=>?_,rfl,S.nd,g.calm,passN,g.room⟩
 ·unfold aL at h;simp only[Bool.or_eq_true,beq_iff_eq] at h;rcases h with (h | h) | h
  ·rcases look x _ h with q | ⟨q,_⟩
   ·exact .inl q
   ·cases q
  ·rcases look x _ h with q | ⟨q,_⟩
   ·exact .inr (.inl q)
   ·cases q
  ·rcases look x _ h with q | ⟨_,q⟩
   ·exact .inr (.inr q)
   ·exact .inr (.inl q)
 ·unfold aY at h;simp only[Bool.or_eq_true,beq_iff_eq] at h;rcases h with h | h
  ·rcases look x _ h with q | ⟨q,_⟩
   ·exact⟨.inl q,.inr q⟩
   ·cases q
  ·rcases look x _ h with q | ⟨q,_⟩
   ·exact⟨.inr q,.inl (by show (scope.names.lookup x == some NameKind.cell)=true; rw[h]; decide)⟩
   ·cases q
 ·unfold aM at h;simp only[beq_iff_eq] at h;rcases look x _ h with q | ⟨q,_⟩
  ·exact q
  ·cases q
 ·rcases h with h | h
  ·rcases look x _ h with q | ⟨q,_⟩
   ·exact .inl q
   ·cases q
  ·rcases look x _ h with q | ⟨_,q⟩
   ·exact .inr q
   ·exact .inl q
theorem Gd.compOk (g:Gd W G T n E sc N X)(hb:cu sc N (au scope) (aH N scope) scope=true) :
  L2.compOk X.env.scope X.N (au scope) (aH N scope) scope=true:=by
 rw[g.nm];unfold cu at hb;unfold L2.compOk;simp only[Bool.and_eq_true,List.all_eq_true] at hb ⊢;obtain⟨⟨⟨⟨h1,h2⟩,h3⟩,h4⟩,h5⟩:=hb;refine⟨⟨⟨⟨h1,fun y hy=>?_⟩,h3⟩,h4⟩,h5⟩;obtain⟨⟨a1,a2⟩,a3⟩:=h2 y hy;refine⟨⟨a1,a2⟩,?_⟩;simp only[Bool.or_eq_true,bne_iff_ne,ne_eq,beq_iff_eq] at a3 ⊢;rcases a3 with a3 | a3
 ·exact .inl a3
 ·exact .inr (g.fr y.1 a3)
section
variable {X:Cx}{W:Wd}{G:Pg}{T:Tb}{n:Nat}{E:St->XK}{σ:St}{H:Hp}{sc:Scope}{N:List Str}
theorem qX (d:D):(∃i,d=.int i)\/∀i,d≠.int i:=by
 cases d with
 | int i=>exact .inl ⟨i,rfl⟩
 | _=>exact .inr fun i z=>by cases z
theorem sQ {cl:Nat->List KD->Ip.Run}{o:Op}{x y:Ex}{Q:VK}{lo hi:Int->Option Int}(ho:∀u v:KD,aR G o [u,v]=match v.2 with | .int i=>aA (lo i) (hi i) u.2 | _=>none)(h:az W G cl (.op o [x,y]) E σ H Q) :
  az W G cl x E σ H fun v H1=>az W G cl y E σ H1 fun w H2=>∃i,w=.int i/\jn W v (lo i) (hi i) H2 Q:=by
 obtain⟨N,a,hN,hS,h⟩:=h;refine fw hN hS (fun u eu v H1 fp hs nd hf ow hN1 hS1=>?_) (fun c fs ee=>?_) fun ee=>?_
 ·refine fw hN1 hS1 (fun u2 eu2 w H2 fq hs2 nd2 hf2 ow2 hN2 hS2=>?_) (fun c fs ee e H' r=>?_) fun ee=>?_
  ·simp only[bQ,cM,bh,eu,eu2,Ip.R.bind,ho] at h;have dv:=ow.later hN hs2 hf fun _ y=>y;have dw:=ow2.later (hN.mono hs) (Sub.refl _) hf2 fun _ y=>.inl y;obtain⟨k2,d2⟩:=u2;rcases qX d2 with ⟨i,rfl⟩ | ni
   ·simp only at h;cases q:aA (lo i) (hi i) u.2 with
    | none=>rw[q] at h; exact h.elim
    | some z=>
     rw[q] at h;exact⟨i,dw.int_inv,N,u.2,z,hN.mono (hs.trans hs2),dv,q,fun v H' r=>h v H' (r.trans (hs.trans hs2))⟩
   ·cases d2 <;> first | exact h.elim | exact absurd rfl (ni _)
  ·simp only[bQ,bh,eu,ee,Ip.R.bind] at h;exact h e H' (r.trans hs fun _ y=>.inl y)
  ·simp only[bQ,bh,eu,ee,Ip.R.bind] at h
 ·simp only[bQ,bh,ee,Ip.R.bind] at h;exact h
 ·simp only[bQ,bh,ee,Ip.R.bind] at h
theorem CP (h:az W G cl (.sl2 x y z) E σ H Q) :
  az W G cl x E σ H fun v H1=>az W G cl y E σ H1 fun w H2=>∃i,w=.int i/\az W G cl z E σ H2 fun u H3=>∃j,u=.int j/\jn W v (some i) (some j) H3 Q:=by
 obtain⟨N,a,hN,hS,h⟩:=h;rw[Ip.qL] at h;refine fw hN hS (fun u eu v H1 fp hs nd hf ow hN1 hS1=>?_) (fun c fs ee=>?_) fun ee=>?_
 ·refine fw hN1 hS1 (fun u2 eu2 w H2 fq hs2 nd2 hf2 ow2 hN2 hS2=>?_) (fun c fs ee e H' r=>?_) fun ee=>?_
  ·have dw:=ow2.later (hN.mono hs) (Sub.refl _) hf2 fun _ y=>.inl y;obtain⟨k2,d2⟩:=u2;simp only[eu,eu2,Ip.R.bind] at h;rcases qX d2 with ⟨i,rfl⟩ | ni
   ·refine⟨i,dw.int_inv,?_⟩;have hs3:=hs.trans hs2;simp only at h;refine fw (hN.mono hs3) (hS.grow hs3) (fun u3 eu3 w3 H3 fr hs4 nd4 hf4 ow4 hN4 hS4=>?_) (fun c fs ee e H' r=>?_) fun ee=>?_
    ·have dv:=ow.later hN (hs2.trans hs4) hf fun _ y=>y;have dz:=ow4.later (hN.mono hs3) (Sub.refl _) hf4 fun _ y=>y;obtain⟨k3,d3⟩:=u3;simp only[eu3] at h;rcases qX d3 with ⟨j,rfl⟩ | nj
     ·simp only[Ip.j7] at h;cases q:aA (some i) (some j) u.2 with
      | none=>rw[q] at h; exact h.elim
      | some t=>
       rw[q] at h;exact⟨j,dz.int_inv,N,u.2,t,hN.mono (hs3.trans hs4),dv,q,fun v H' r=>h v H' (r.trans (hs3.trans hs4))⟩
     ·cases d3 <;> first | exact h.elim | exact absurd rfl (nj _)
    ·simp only[ee] at h;exact h e H' (r.of_sub hs3)
    ·simp only[ee] at h
   ·cases d2 <;> first | exact h.elim | exact absurd rfl (ni _)
  ·simp only[eu,ee,Ip.R.bind] at h;exact h e H' (r.trans hs fun _ y=>.inl y)
  ·simp only[eu,ee,Ip.R.bind] at h
 ·simp only[ee,Ip.R.bind] at h;exact h
 ·simp only[ee,Ip.R.bind] at h
theorem Dens.find (hx:Den W S x d)(sx:d.scal=true):∀{vs:List V} {ds:List D},Dens W S vs ds->ds.all D.scal=true->(vs.findIdx? fun z=>L2.eqV z x)=d.find ds
 | _,_,.nil,_=>rfl
 | _,_,.cons h q,hs=>by
  rw[List.all_cons,Bool.and_eq_true] at hs;have e:=q.find hx sx hs.2;unfold D.find at e ⊢;rw[List.findIdx?_cons,List.findIdx?_cons,h.eqV hx hs.1 sx,e]
theorem lc {o:Op}{sel:D->Bool}{tp:Bool->String}{r:Bool->V->List V->Hp->VK->Prop}{cl:Nat->List KD->Ip.Run}{x y:Ex}{Q:VK}(nox:∀a c fs,Ip.eval G cl a y≠.exc c fs)
  (key:∀b u u2 z,aR G o [u,u2]=some z->sel u.2=b->∃j,z=(99,.int j)/\∀v H1 S1,Sub S1 H1->Den W S1 v u.2->tyV X.K (tp b) v H1/\∀H2 S2 w,Sub H1 H2->Sub S1 S2->Den W S2 w u2.2->∀Q:VK,Q (.int j) H2->r b v [w] H2 Q)
  (h:az W G cl (.op o [x,y]) E σ H Q):fN X.K (tp true) (r true) (az W G cl x E) (be W G cl [y] E) σ H Q\/fN X.K (tp false) (r false) (az W G cl x E) (be W G cl [y] E) σ H Q:=by
 obtain⟨N,a,hN,hS,h⟩:=h;have main:∀b,(∀u,Ip.eval G cl a x=.ok u->sel u.2=b)->fN X.K (tp b) (r b) (az W G cl x E) (be W G cl [y] E) σ H Q:=fun b hb=>by
  unfold fN;refine fw hN hS (fun u eu v H1 fp hs nd hf ow hN1 hS1=>?_) (fun c fs ee=>?_) fun ee=>?_
  ·cases q:Ip.eval G cl a y with
   | bad=>simp only[bQ,bh,eu,q,Ip.R.bind] at h
   | exc c fs=>exact absurd q (nox a c fs)
   | ok u2=>
    simp only[bQ,cM,bh,eu,q,Ip.R.bind] at h;cases hz:aR G o [u,u2] with
    | none=>rw[hz] at h; exact h.elim
    | some z=>
     rw[hz] at h;obtain⟨j,rfl,kk⟩:=key b u u2 z hz (hb u eu);obtain⟨k1,k2⟩:=kk v H1 (hid N H1) bj (ow.later hN (Sub.refl _) hf fun _ y=>y);refine⟨k1,jw (hN.mono hs) (hS.grow hs) (fun zs ez vs H2 hs2 dz=>?_) (fun c fs ee=>?_) fun ee=>?_⟩
     ·simp only[cM,bh,q,Ip.R.bind] at ez;cases ez;obtain⟨w,rfl,dw⟩:=Dens.one dz;exact k2 H2 (hid N H2) w hs2 (jD hs2) dw Q (h _ _ (Res.trans (hs.trans hs2) Res.int))
     ·simp only[cM,bh,q,Ip.R.bind] at ee;cases ee
     ·simp only[cM,bh,q,Ip.R.bind] at ee;cases ee
  ·simp only[bQ,bh,ee,Ip.R.bind] at h;exact h
  ·simp only[bQ,bh,ee,Ip.R.bind] at h
 cases q:Ip.eval G cl a x with
 | ok u=>
  cases hs:sel u.2 with
  | true=>exact .inl (main true fun u' e=>by rw[q] at e; cases e; exact hs)
  | false=>exact .inr (main false fun u' e=>by rw[q] at e; cases e; exact hs)
 | bad=>exact .inl (main true fun u e=>by rw[q] at e; cases e)
 | exc c fs=>exact .inl (main true fun u e=>by rw[q] at e; cases e)
theorem CL {cl:Nat->List KD->Ip.Run}{x y:Ex}{Q:VK}(hK:W.K=X.K)(nox:∀a c fs,Ip.eval G cl a y≠.exc c fs)(h:az W G cl (.op .index [x,y]) E σ H Q) :
  fN X.K "list" fU (az W G cl x E) (be W G cl [y] E) σ H Q\/fN X.K "tuple" (f9 X.K) (az W G cl x E) (be W G cl [y] E) σ H Q:=by
 refine lc (sel:=D.isL) (tp:=fun b=>cond b "list" "tuple") (r:=fun b=>cond b fU (f9 X.K)) nox (fun b u u2 z hz hb=>?_) h;rw[Ip.yO] at hz;simp only[bc] at hz;obtain⟨k,d⟩:=u;rcases Ip.wz hz with ⟨xs,e⟩ | ⟨xs,e⟩ <;> simp only at e <;> subst e <;> cases hb
 ·simp only[Ip.qP] at hz;by_cases hp:(u2.2.scal&&xs.all D.scal)=true
  rotate_left
  ·rw[if_neg hp] at hz; cases hz
  rw[if_pos hp] at hz;rw[Bool.and_eq_true] at hp;cases hj:u2.2.find xs with
  | none=>rw[hj] at hz; cases hz
  | some j=>
   rw[hj] at hz;cases hz;refine⟨j,rfl,fun v H1 S1 s1 dv=>?_⟩;cases dv with | @tup l ws _ h1 h2=>?_
   have sq:SqT X.K H1 l ws:=by rw[<-hK]; exact SqT.sub s1 h1
   refine⟨.inr (.inl ⟨rfl,ws,sq⟩),fun H2 S2 w s2 s3 dw Q q=>?_⟩;exact⟨l,ws,w,j,rfl,rfl,SqT.sub s2 sq,dw.flatV hp.1,(h2.mono s3).flatV hp.2,(Dens.find dw hp.1 (h2.mono s3) hp.2).trans hj,q⟩
 ·simp only[Ip.Ag] at hz;by_cases hp:(u2.2.scal&&xs.all D.scal)=true
  rotate_left
  ·rw[if_neg hp] at hz; cases hz
  rw[if_pos hp] at hz;rw[Bool.and_eq_true] at hp;cases hj:u2.2.find xs with
  | none=>rw[hj] at hz; cases hz
  | some j=>
   rw[hj] at hz;cases hz;refine⟨j,rfl,fun v H1 S1 s1 dv=>?_⟩;cases dv with | @lst l ws _ h1 h2=>?_
   have sq:Rd H1 l (.lst ws):=Rd.sub s1 h1;refine⟨.inl ⟨rfl,ws,.inl sq⟩,fun H2 S2 w s2 s3 dw Q q=>?_⟩;exact⟨l,ws,w,j,rfl,rfl,Rd.sub s2 sq,dw.flatV hp.1,(h2.mono s3).flatV hp.2,(Dens.find dw hp.1 (h2.mono s3) hp.2).trans hj,q⟩
theorem Dens.count (hx:Den W S x d)(sx:d.scal=true):∀{vs:List V} {ds:List D},Dens W S vs ds->ds.all D.scal=true->(vs.countP fun z=>L2.eqV z x)=ds.countP fun z=>z.eq d
 | _,_,.nil,_=>rfl
 | _,_,.cons h q,hs=>by
  rw[List.all_cons,Bool.and_eq_true] at hs;rw[List.countP_cons,List.countP_cons,q.count hx sx hs.2,h.eqV hx hs.1 sx]
theorem yB {cl:Nat->List KD->Ip.Run}{x y:Ex}{Q:VK}(nox:∀a c fs,Ip.eval G cl a y≠.exc c fs)(h:az W G cl (.op .count [x,y]) E σ H Q):fN X.K "list" gg (az W G cl x E) (be W G cl [y] E) σ H Q:=by
 refine (lc (sel:=D.isL) (tp:=fun _ => "list") (r:=fun _=>gg) nox (fun b u u2 z hz _=>?_) h).elim id id;rw[Ip.yN] at hz;simp only[bc] at hz;obtain⟨k,d⟩:=u;obtain⟨xs,e⟩:=Ip.CQ hz;simp only at e;subst e;simp only[Ip.Aq] at hz;by_cases hp:(u2.2.scal&&xs.all D.scal)=true
 rotate_left
 ·rw[if_neg hp] at hz; cases hz
 rw[if_pos hp] at hz;rw[Bool.and_eq_true] at hp;cases hz;refine⟨_,rfl,fun v H1 S1 s1 dv=>?_⟩;cases dv with | @lst l ws _ h1 h2=>?_
 have sq:Rd H1 l (.lst ws):=Rd.sub s1 h1;refine⟨.inl ⟨rfl,ws,.inl sq⟩,fun H2 S2 w s2 s3 dw Q q=>?_⟩;rw[<-Dens.count dw hp.1 (h2.mono s3) hp.2] at q;exact⟨l,ws,w,rfl,rfl,Rd.sub s2 sq,dw.flatV hp.1,(h2.mono s3).flatV hp.2,q⟩
theorem i3 (h:az W G cl (.op o [x]) E σ H Q):kC (fun vs=>rD W G o vs) (be W G cl [x] E) σ H Q:=by
 obtain⟨N,a,hN,hS,h⟩:=h;rw[bQ] at h;unfold kC;refine jw hN hS (fun xs ex vs H1 hs dv=>?_) (fun c fs ee=>?_) fun ee=>?_
 ·rw[ex] at h;simp only[Ip.R.bind] at h;cases q:aR G o xs with
  | none=>rw[q] at h; exact h.elim
  | some z=>
   rw[q] at h;exact⟨N,xs,z,hN.mono hs,dv,q,fun v H' r=>h v H' (r.trans hs)⟩
 ·rw[ee] at h; exact h
 ·rw[ee] at h; exact h
theorem Ch (h:az W G cl (.op o [x,y]) E σ H Q):kC (fun vs=>rD W G o vs) (be W G cl [x,y] E) σ H Q:=by
 obtain⟨N,a,hN,hS,h⟩:=h;rw[bQ] at h;unfold kC;refine jw hN hS (fun xs ex vs H1 hs dv=>?_) (fun c fs ee=>?_) fun ee=>?_
 ·rw[ex] at h;simp only[Ip.R.bind] at h;cases q:aR G o xs with
  | none=>rw[q] at h; exact h.elim
  | some z=>
   rw[q] at h;exact⟨N,xs,z,hN.mono hs,dv,q,fun v H' r=>h v H' (r.trans hs)⟩
 ·rw[ee] at h; exact h
 ·rw[ee] at h; exact h
theorem Vals.nums:∀{is:List Int} {us:List Value},Vals (is.map V.int) us->∃ps:List (Int×Tok),us=ps.map (fun p=>.int p.1 p.2)/\ps.map (·.1)=is
 | [],us,r=>by cases r; exact⟨[],rfl,rfl⟩
 | i::is,us,r=>by
  cases r with
  | cons h q=>
   obtain⟨t,rfl⟩:=h;obtain⟨ps,rfl,e⟩:=Vals.nums q;exact⟨(i,t)::ps,rfl,by rw[List.map_cons,e]⟩
noncomputable def gL (i:Int)(is:List Int):Int:=is.foldl (fun a b=>if b<a then b else a) i
theorem Aa (h:xs.toList.map (·.1)=i::is):∀k,k<=is.length->numAt xs (argBest (fun a b=>decide (numAt xs a<numAt xs b)) k)=gL i (is.take k):=by
 have na:∀j,numAt xs j=((i::is)[j]?).getD 0:=fun j=>by
  rw[<-h];simp[numAt]
 intro k;induction k with
 | zero=>intro _; simp[argBest,na,gL]
 | succ k ih=>
  intro hk;have ih:=ih (by omega);have e1:is.take (k+1)=is.take k++[is[k]'(by omega)]:=List.take_succ_eq_append_getElem (by omega);have e2:numAt xs (k+1)=is[k]'(by omega):=by rw[na]; simp[show k<is.length by omega]
  have e3:gL i (is.take (k+1))=if is[k]'(by omega)<gL i (is.take k) then is[k]'(by omega) else gL i (is.take k):=by
   rw[e1];unfold gL;rw[List.foldl_append];rfl
  rw[e3,argBest];by_cases c:is[k]'(by omega)<gL i (is.take k)
  ·rw[if_pos c,if_pos (by rw[e2,ih]; exact decide_eq_true c),e2]
  ·rw[if_neg c,if_neg (by rw[e2,ih]; simpa using c),ih]
theorem vb:∀{ds:List D} {is:List Int},b7 ds=some is->ds=is.map .int
 | [],is,h=>by cases h; rfl
 | d::ds,is,h=>by
  cases d with
  | int i=>
   obtain⟨js,h1,rfl⟩:=cy (show (b7 ds).map (fun is=>i::is)=some is from h);rw[vb h1]; rfl
  | _=>cases h
theorem Dens.nums:∀{is:List Int} {ws:List V},Dens W S ws (is.map .int)->ws=is.map .int
 | [],_,.nil=>rfl
 | i::is,_,.cons h q=>by rw[h.int_inv,Dens.nums q]; rfl
theorem Bf (hc:X.calm=true):CallR X (.builtin "min") (fun xs H Q=>∃a i is S,xs=[.ref a]/\Sub S H/\Den W S (.ref a) (.lst ((i::is).map .int))/\Q (.int (gL i is)) H):=by
 rintro pins s σ H vs us Q I rs ⟨a,i,is,S,e,hS,dv,q⟩;subst e;obtain⟨u,rfl,ru⟩:=rs.one;cases ru;cases dv with | @lst l ws _ h1 h2=>?_
 have e2:=h2.nums;subst e2;obtain⟨_,its,n,rv,hlen,eo⟩:=I.rdL (Rd.sub hS h1);obtain⟨ps,rfl,e3⟩:=rv.nums;have hl:s.heap.IsList a (intItems ps.toArray):=⟨_,eo,rfl,n,by simp[intItems]⟩
 have hl3:ps.length=is.length+1:=by rw[<-List.length_map (·.1),e3]; rfl
 refine min_intList (I.ok.hd hc) hl (by simp[hl3]) fun v h' tk hv kp=>?_;obtain⟨t,rfl⟩:=intItems_at hv;have eb:=Aa (xs:=ps.toArray) (by simpa using e3) is.length (aX _);have sz:ps.toArray.size - 1=is.length:=by simp[hl3]
 rw[sz,eb,List.take_length];exact⟨.int (gL i is),H,I.kept (t':=tk) kp,⟨_,rfl⟩,q⟩
theorem ES (hc:X.calm=true):CallR X (.builtin "min") (fun xs=>rD W G .min1 xs):=(Bf (W:=W) hc).imp fun vs H Q ⟨N,xs,z,hN,hd,hz,hq⟩=>by
 rw[Ip.zf] at hz;obtain⟨v,p,rfl,rfl,dv,ez⟩:=hd.vs1 (o:=.min1) hz;obtain⟨ds,e1,e2⟩:=nJ ez;rw[e1] at dv;cases ds with
 | nil=>cases e2
 | cons d ds=>
  cases d with
  | int i=>
   cases e3:b7 ds with
   | none=>simp only[Ip.d7,e3] at e2; cases e2
   | some is=>
    simp only[Ip.d7,e3] at e2;cases e2;rw[vb e3] at dv;cases dv with | @lst a ws _ h1 h2=>?_
    exact⟨a,i,is,_,rfl,bj,.lst h1 h2,hq _ _ Res.int⟩
  | _=>cases e2
theorem yF (hc:X.calm=true):CallR X (.builtin "max") (fun xs=>rD W G .max2 xs):=(yV hc).imp fun vs H Q ⟨N,xs,z,hN,hd,hz,hq⟩=>by
 rw[Ip.zJ] at hz;obtain⟨⟨k1,p⟩,⟨k2,q⟩,rfl,hz⟩:∃x y,xs=[x,y]/\Ip.bm (fun i j=>Ip.fI (if j > i then j else i)) x.2 y.2=some z:=by
  match xs,hz with
  | [x,y],hz=>exact⟨x,y,rfl,hz⟩
 cases p with
 | int i=>
  cases q with
  | int j=>
   obtain⟨v,w,rfl,h1,h2⟩:=Dens.two hd;have e1:=h1.int_inv;have e2:=h2.int_inv;subst e1 e2;cases hz;exact⟨i,j,rfl,hq _ _ Res.int⟩
  | _=>cases hz
 | _=>cases hz
theorem qU (T:Tb)(sc:Scope)(N:List Str)(m:Nat)(x:Expr)(p:Pos):cE T sc N m (.Starred x p)=.bad:=by
 cases m <;> rfl
theorem uF:∀{l:List (Str×α)},l.lookup x=some v->(x,v)∈l
 | [],h=>nomatch h
 | (y,j)::r,h=>by
  rw[List.lookup_cons] at h;cases e:x == y with
  | true=>
   rw[e] at h;rw[beq_iff_eq] at e;cases h;rw[e];exact bD
  | false=>rw[e] at h; exact bw _ (uF h)
theorem r9 (g:Gd W G T n E sc N X):∀{es:List Expr} {is:List Nat},(es.mapM fun (e:Expr)=>match e with
  | .Name x _=>if aY sc x then pos? x N else none
  | _=>none)=some is->lV X es (j6 is)/\(assignEach es X.env).length=is.length/\(assignEach es X.env).findIdx? (·.1)=none
 | [],is,h=>by
  cases h;exact⟨xm,rfl,rfl⟩
 | e::es,is,h=>by
  rw[List.mapM_cons] at h;cases e with
  | Name x p=>
   by_cases hl:aY sc x=true
   ·simp only[hl,if_true] at h;cases q:pos? x N with
    | none=>rw[q] at h; cases h
    | some i=>
     rw[q] at h;cases q2:(es.mapM fun (e:Expr)=>match e with
       | .Name x _=>if aY sc x then pos? x N else none
       | _=>none) with
     | none=>simp[q2] at h
     | some js=>
      simp[q2] at h;subst h;obtain⟨h1,h2,h3⟩:=r9 g q2;obtain⟨l1,l2⟩:=g.loc x hl;have hi:X.N[i]? = some x:=by rw[g.nm]; exact pos?_get q
      refine⟨xE (oW (by rw[g.nm]; exact g.nd) hi l1 l2) h1 rfl,?_,?_⟩
      ·show (assignEach es X.env).length+1=js.length+1;rw[h2]
      ·show List.findIdx? _ ((false,_)::assignEach es X.env)=none;rw[List.findIdx?_cons,h3];rfl
   ·simp only[hl] at h;cases h
  | _=>cases h
theorem nv (g:Gd W G T n E sc N X)(h:ci sc N tg=some t):PG X tg (gT X.K t):=by
 cases tg with
 | Name x p=>
  simp only[Ip.um] at h;by_cases hl:aY sc x=true
  ·rw[if_pos hl] at h;obtain⟨i,q,rfl⟩:=cy h;obtain⟨l1,l2⟩:=g.loc x hl;exact oW (by rw[g.nm]; exact g.nd) (by rw[g.nm]; exact pos?_get q) l1 l2
  ·rw[if_neg hl] at h; cases h
 | Tuple es k p=>
  simp only[Ip.zq] at h;obtain⟨is,q,rfl⟩:=cy h;obtain⟨h1,h2,h3⟩:=r9 g q;exact Dj g.calm h1 h2 h3
 | _=>cases h
end
section
variable {W:Wd}{G:Pg}{T:Tb}{n:Nat}
structure IH (W:Wd)(G:Pg)(T:Tb)(n m:Nat):Prop where
 e:∀{E:St->XK} {sc:Scope} {N:List Str} {X:Cx},Gd W G T n E sc N X->∀x,PE X x (az W G (Ip.run G n) (cE T sc N m x) E)
 t:∀{E:St->XK} {sc:Scope} {N:List Str} {X:Cx},Gd W G T n E sc N X->∀x,PT X x (bF W G (Ip.run G n) (cT T sc N m x) E)
 c:∀{E:St->XK} {sc:Scope} {N:List Str} {X:Cx},Gd W G T n E sc N X->∀a os bs p,PT X (.Compare a os bs p) (bF W G (Ip.run G n) (cE T sc N m (.Compare a os bs p)) E)
 i:∀{E:St->XK} {sc:Scope} {N:List Str} {X:Cx},Gd W G T n E sc N X->∀tg x,((cI T sc N m x).1=.enum\/(cI T sc N m x).1=.zip->∃es k p,tg=.Tuple es k p)->PI X tg x (fK W G (Ip.run G n) (cI T sc N m x).1 (cI T sc N m x).2 E)
 b:∀{E:St->XK} {sc:Scope} {N:List Str} {X:Cx},Gd W G T n E sc N X->∀f args p pos,aM sc f=true->PE X (.Call (.Name f p) args [] pos) (az W G (Ip.run G n) (cB T sc N m f args) E)
variable {m:Nat}{E:St->XK}{sc:Scope}{N:List Str}{X:Cx}
theorem IH.args (ih:IH W G T n m)(g:Gd W G T n E sc N X)(es:List Expr):PA X es (be W G (Ip.run G n) (es.map (cE T sc N m)) E):=
 rN (fun e _=>ih.e g e) fun e _ x p h=>by rw[h]; exact qU T sc N m x p
theorem Gd.units (g:Gd W G T n E sc N X):X.A.units+64<cLine:=g.room.units
theorem iM:PI X tg x (fK W G (Ip.run G n) .seq [.bad] E):=fun pins s σ H R I ⟨_,_,_,_,q⟩=>by
 rw[bh,fA] at q;exact q.elim
theorem en:PT X x (bF W G (Ip.run G n) .bad E):=fun pins s σ H R I ⟨_,_,_,_,q⟩=>by
 rw[fA] at q;exact q.elim
theorem yI (g:Gd W G T n E sc N X)(x:Str)(p:Pos):PE X (.Name x p) (az W G (Ip.run G n) (cE T sc N (m+1) (.Name x p)) E):=by
 rw[Ip.xP];by_cases h1:(aL sc x&&Ip.ar x)=true
 ·rw[if_pos h1];rw[Bool.and_eq_true] at h1;unfold Ip.pv?;cases q:pos? x N with
  | none=>exact bg
  | some i=>
   have ok:=h1.2;unfold Ip.ar at ok;simp only[Bool.and_eq_true,Bool.not_eq_true'] at ok;exact yn (nq (by rw[g.nm]; exact pos?_get q) (g.vis x h1.1) ok.1 ok.2)
 ·rw[if_neg h1];by_cases h2:aM sc x=true
  ·rw[if_pos h2];cases q:T.cst.lookup x with
   | none=>exact bg
   | some d=>
    obtain⟨hd,u,v,hm,r,hf,hv⟩:=g.gf.cst x d q;exact lv hf hv (uy (g.gl x h2) hm r hd)
  ·rw[if_neg h2]; exact bg
theorem zx (c:Const)(k:Nat)(p:Pos):PE X (.Constant c k p) (az W G (Ip.run G n) (cE T sc N (m+1) (.Constant c k p)) E):=by
 cases c with
 | none=>exact lv rfl (fun _=>.non) At
 | bool b=>exact lv rfl (fun _=>.bl) CU
 | int i=>exact lv rfl (fun _=>.int) wW
 | str s=>exact lv rfl (fun _=>.str) EH
 | _=>exact bg
theorem wO (ih:IH W G T n m)(g:Gd W G T n E sc N X)(a b:Expr)(o:Operator)(p:Pos):PE X (.BinOp a o b p) (az W G (Ip.run G n) (cE T sc N (m+1) (.BinOp a o b p)) E):=by
 have ha:=ih.e g a;have hb:=ih.e g b;cases o with
 | Add=>exact (jR (Bn g.K) ha hb).mono fun σ H Q=>gz fun _ _ _ _ h=>h
 | Sub=>exact (jR wH ha hb).mono fun σ H Q=>gz fun _ _ _ _ h=>h
 | Mult=>exact (jR (A0 g.K) ha hb).mono fun σ H Q=>gz fun _ _ _ _ h=>h
 | FloorDiv=>exact (jR Eu ha hb).mono fun σ H Q=>gz fun _ _ _ _ h=>h
 | Mod=>exact (jR En ha hb).mono fun σ H Q=>gz fun _ _ _ _ h=>h
 | Pow=>exact (jR CI ha hb).mono fun σ H Q=>gz fun _ _ _ _ h=>h
 | RShift=>exact (jR CC ha hb).mono fun σ H Q=>gz fun _ _ _ _ h=>h
 | _=>exact bg
theorem oS (ih:IH W G T n m)(g:Gd W G T n E sc N X)(a:Expr)(o:UnaryOp)(p:Pos):PE X (.UnaryOp o a p) (az W G (Ip.run G n) (cE T sc N (m+1) (.UnaryOp o a p)) E):=by
 have ha:=ih.e g a;cases o with
 | Not=>exact (zO ha).mono fun σ H Q=>jP zS
 | USub=>exact (yh zE ha).mono fun σ H Q=>jP B5
 | _=>exact bg
theorem Bi (ih:IH W G T n m)(g:Gd W G T n E sc N X)(o:BoolOp)(es:List Expr)(p:Pos):PE X (.BoolOp o es p) (az W G (Ip.run G n) (cE T sc N (m+1) (.BoolOp o es p)) E):=by
 match es with
 | []=>exact bg
 | [a]=>exact Ej (ih.e g a)
 | a::b::es=>
  cases o with
  | And=>exact (Co (ih.e g a) (ih.e g (.BoolOp .And (b::es) p))).mono fun σ H Q=>D8
  | Or=>exact (xg (ih.e g a) (ih.e g (.BoolOp .Or (b::es) p))).mono fun σ H Q=>qf
theorem se (h:cj b=true):behindInMarks o b=false:=by
 cases b <;> first | rfl | cases h
theorem kW (g:Gd W G T n E sc N X)(h:ft o=some p):OpR X (compareOp o) (fun x y=>rD W G p [x,y]):=by
 cases o <;> (try cases h)
 ·exact pz g.K g.units
 ·exact oM g.K g.units
 ·exact qq
 ·exact pD
 ·exact qg
 ·exact pI
 ·exact qC g.K
 ·exact Bc g.K
theorem tX (h:hU o=some p):ft o=some p/\o≠.In/\o≠.NotIn:=by
 cases o <;> (try cases h) <;> exact⟨rfl,by decide,by decide⟩
theorem rZ (h:isNone b=true):∃k p,b=.Constant .none k p:=by
 cases b <;> try (cases h; done)
 rename_i c k p;cases c <;> first | exact⟨k,p,rfl⟩ | cases h
theorem uc (ih:IH W G T n m)(g:Gd W G T n E sc N X)(a:Expr)(os:List CmpOp)(bs:List Expr)(p:Pos) :
  PE X (.Compare a os bs p) (az W G (Ip.run G n) (cE T sc N (m+1) (.Compare a os bs p)) E)/\PT X (.Compare a os bs p) (bF W G (Ip.run G n) (cE T sc N (m+1) (.Compare a os bs p)) E):=by
 have ha:=ih.e g a;match os,bs with
 | [o],[b]=>
  have hb:=ih.e g b;have rest:∀q,ft o=some q->PE X (.Compare a [o] [b] p) (az W G (Ip.run G n) (if cj b then .op q [cE T sc N m a,cE T sc N m b] else .bad) E)/\PT X (.Compare a [o] [b] p) (bF W G (Ip.run G n) (if cj b then .op q [cE T sc N m a,cE T sc N m b] else .bad) E):=fun q hq=>by
   by_cases ns:cj b=true
   ·rw[if_pos ns];exact⟨(wm (kW g hq) ha hb (se ns)).mono fun σ H Q=>gz fun _ _ _ _ h=>h,(DO (kW g hq) ha hb (se ns)).mono fun σ H Q h=>gz (fun _ _ _ _ h=>h) (mM h)⟩
   ·rw[if_neg ns]; exact⟨bg,en⟩
  cases o with
  | Is=>
   simp only[Ip.pf];by_cases hn:isNone b=true
   ·rw[if_pos hn];obtain⟨k,p',rfl⟩:=rZ hn;exact⟨(uW (vN ha)).mono fun σ H Q=>jP (r:=fun x H Q=>Q (.bl (decide (x=.non))) H) sR,(vB (vN ha)).mono fun σ H Q h=>jP (r:=fun x H Q=>Q (.bl (decide (x=.non))) H) sR (mM h)⟩
   ·rw[if_neg hn]; exact⟨bg,en⟩
  | IsNot=>
   simp only[Ip.pf];by_cases hn:isNone b=true
   ·rw[if_pos hn];obtain⟨k,p',rfl⟩:=rZ hn;exact⟨(uW (tS ha)).mono fun σ H Q=>jP (r:=fun x H Q=>Q (.bl (!decide (x=.non))) H) ur,(vB (tS ha)).mono fun σ H Q h=>jP (r:=fun x H Q=>Q (.bl (!decide (x=.non))) H) ur (mM h)⟩
   ·rw[if_neg hn]; exact⟨bg,en⟩
  | Eq=>exact rest _ rfl
  | NotEq=>exact rest _ rfl
  | Lt=>exact rest _ rfl
  | LtE=>exact rest _ rfl
  | Gt=>exact rest _ rfl
  | GtE=>exact rest _ rfl
  | In=>exact rest _ rfl
  | NotIn=>exact rest _ rfl
 | [o,q],[b,c]=>
  have hb:=ih.e g b;have hc:=ih.e g c;simp only[Ip.pf];cases h1:hU o with
  | none=>exact⟨bg,en⟩
  | some o'=>
   cases h2:hU q with
   | none=>exact⟨bg,en⟩
   | some q'=>
    obtain⟨c1,_,_⟩:=tX h1;obtain⟨c2,n1,n2⟩:=tX h2;have hm:lastMarks [o,q] [b,c]=false:=jT c n1 n2;exact⟨(Eg (kW g c1) (kW g c2) ha hb hc hm).mono fun σ H Q=>vK,(DI (kW g c1) (kW g c2) ha hb hc hm).mono fun σ H Q h=>vK (mM h)⟩
 | [],_=>exact⟨bg,en⟩
 | [_],[]=>exact⟨bg,en⟩
 | [_],_::_::_=>exact⟨bg,en⟩
 | [_,_],[]=>exact⟨bg,en⟩
 | [_,_],[_]=>exact⟨bg,en⟩
 | [_,_],_::_::_::_=>exact⟨bg,en⟩
 | _::_::_::_,_=>exact⟨bg,en⟩
end
section
variable {W:Wd}{G:Pg}{T:Tb}{n:Nat}{m:Nat}{E:St->XK}{sc:Scope}{N:List Str}{X:Cx}
theorem oz (ih:IH W G T n m)(g:Gd W G T n E sc N X)(c a b:Expr)(p:Pos):PE X (.IfExp c a b p) (az W G (Ip.run G n) (cE T sc N (m+1) (.IfExp c a b p)) E):=by
 simp only[Ip.wQ];exact bg
theorem Ef (ih:IH W G T n m)(g:Gd W G T n E sc N X)(es:List Expr)(p:Pos):PE X (.List es p) (az W G (Ip.run G n) (cE T sc N (m+1) (.List es p)) E):=by
 simp only[Ip.DQ];by_cases h:es.length<=1000
 ·rw[if_pos h]; exact qJ (by rw[List.length_map]; exact h) (ih.args g es)
 ·rw[if_neg h]; exact bg
theorem EJ (ih:IH W G T n m)(g:Gd W G T n E sc N X)(es:List Expr)(k:Nat)(p:Pos):PE X (.Tuple es k p) (az W G (Ip.run G n) (cE T sc N (m+1) (.Tuple es k p)) E):=by
 simp only[Ip.Cw];by_cases h:es.length<=1000
 ·rw[if_pos h]; exact yi (by rw[List.length_map]; exact h) (ih.args g es)
 ·rw[if_neg h]; exact bg
theorem yt (ih:IH W G T n m)(g:Gd W G T n E sc N X)(o:Expr)(f:Str)(p:Pos):PE X (.Attribute o f p) (az W G (Ip.run G n) (cE T sc N (m+1) (.Attribute o f p)) E):=by
 simp only[Ip.DH];cases q:pos? f T.att with
 | none=>exact bg
 | some k=>
  by_cases h:(T.fl.contains k&&eS o)=true
  ·simp only[h,if_true];rw[Bool.and_eq_true] at h;exact yL g.K g.gf.cf (by simpa using h.1) (by rw[g.gf.att]; exact pos?_get q) (ih.e g o) (mw h.2)
  ·simp only[h]; exact bg
theorem zd (h:∀a b c p,i≠.Slice a b c p):eY i:=by
 intro o v;cases i <;> first | rfl | exact absurd rfl (h _ _ _ _)
theorem D0 (ih:IH W G T n m)(g:Gd W G T n E sc N X)(a i:Expr)(p:Pos):PE X (.Subscript a i p) (az W G (Ip.run G n) (cE T sc N (m+1) (.Subscript a i p)) E):=by
 have ha:=ih.e g a;cases i with
 | Slice lo hi st q=>
  match lo,hi,st with
  | some l,none,none=>
   simp only[Ip.nU];exact (qZ (oy g.K) ha (mV (ih.e g l)) sD).mono fun σ H Q h=>sQ (lo:=fun i=>some i) (hi:=fun _=>none) (fun u v=>rfl) h
  | none,some l,none=>
   simp only[Ip.nU];exact (qZ (oy g.K) ha sD (mV (ih.e g l))).mono fun σ H Q h=>sQ (lo:=fun _=>none) (hi:=fun i=>some i) (fun u v=>rfl) h
  | some l,some h,none=>
   simp only[Ip.nU];exact (qZ (oy g.K) ha (mV (ih.e g l)) (mV (ih.e g h))).mono fun σ H Q h=>CP h
  | none,none,none=>exact bg
  | none,none,some _=>exact bg
  | some _,none,some _=>exact bg
  | none,some _,some _=>exact bg
  | some _,some _,some _=>exact bg
 | _=>
  simp only[Ip.nU];exact (B7 (qk g.K) ha (ih.e g _) (zd fun _ _ _ _ z=>by cases z)).mono fun σ H Q=>gz fun _ _ _ _ h=>h
theorem qN (e:Expr):(∃a b c,e=.Set a b c)\/∀(env:Env) (x:Value),foldedSetIterable e env x=pure x:=by
 cases e <;> first | exact .inl ⟨_,_,_,rfl⟩ | exact .inr fun _ _=>rfl
theorem oA:(cI T sc N m (.Set a b c)).2=[.bad]:=by
 cases m with
 | zero=>rfl
 | succ m=>cases m <;> rfl
structure CompR (W:Wd)(G:Pg)(n:Nat)(E:St->XK)(X:Cx)(scope:Scope)(N:List Str)(tg iter elt:Expr)(ifs:List Expr)(t:Tg)(wk:Wk)(it ts:List Ex)(x:Ex):Prop where
 hS:compOk X.env.scope X.N (au scope) (aH N scope) scope=true
 hi:PI X tg iter (fK W G (Ip.run G n) wk it E)
 hg:∀cl C s H fp,PG (aP X (au scope) scope cl C s H fp fun _ _=>False) tg (gT X.K t)
 ht:∀cl C s H fp,PTs (aP X (au scope) scope cl C s H fp fun _ _=>False) ifs (oU W G (Ip.run G n) ts)
 he:∀cl C s H fp,PE (aP X (au scope) scope cl C s H fp fun _ _=>False) elt (az W G (Ip.run G n) x fun _ _ _ _=>False)
 hx:∀i∈cq t,(aH N scope)[i]? = some none
theorem tW (h1:ci sc N tg=some t)(h2:dD wk t=true):wk=.enum\/wk=.zip->∃es k p,tg=.Tuple es k p:=by
 intro hw;cases tg with
 | Name x p=>
  simp only[Ip.um] at h1;by_cases hl:aY sc x=true
  ·rw[if_pos hl] at h1;obtain⟨i,_,rfl⟩:=cy h1;rcases hw with rfl | rfl <;> cases h2
  ·rw[if_neg hl] at h1; cases h1
 | Tuple es k p=>exact⟨es,k,p,rfl⟩
 | _=>cases h1
theorem tQ (ih:IH W G T n m)(g:Gd W G T n E sc N X)(hb:cu sc N (au scope) (aH N scope) scope=true)(hl:ifs.length<=1)(ht:ci scope (au scope) tg=some t)
  (hw:dD (cI T sc N m iter).1 t=true)(hx:(cq t).all (fun i=>(aH N scope)[i]? == some none)=true) :
  CompR W G n E X scope N tg iter e ifs t (cI T sc N m iter).1 (cI T sc N m iter).2 (ifs.map (cT T scope (au scope) m)) (cE T scope (au scope) m e):=by
 refine⟨g.compOk hb,ih.i g tg iter (tW ht hw),fun cl C s H fp=>?_,fun cl C s H fp=>?_,fun cl C s H fp=>ih.e (g.block hb cl C s H fp) e,fun i hi=>?_⟩
 ·exact nv (g.block hb cl C s H fp) ht
 ·match ifs,hl with
  | [],_=>exact AG
  | [c],_=>exact yS (ih.t (g.block hb cl C s H fp) c)
 ·have:=dF hx i hi;simpa using this
theorem xQ (ih:IH W G T n m)(g:Gd W G T n E sc N X)(e:Expr)(gs:List Comprehension)(scope:Scope)(p:Pos):PE X (.ListComp e gs scope p) (az W G (Ip.run G n) (cE T sc N (m+1) (.ListComp e gs scope p)) E):=by
 match gs with
 | []=>exact bg
 | ⟨_,_,_,_⟩::_::_=>exact bg
 | [⟨tg,iter,ifs,as⟩]=>
  simp only[Ip.rh];by_cases h:(cu sc N (au scope) (aH N scope) scope&&as == 0&&decide (ifs.length<=1))=true
  rotate_left
  ·rw[if_neg h]; exact bg
  rw[if_pos h];simp only[Bool.and_eq_true,beq_iff_eq,decide_eq_true_eq] at h;obtain⟨⟨hb,has⟩,hl⟩:=h;subst has;cases ht:ci scope (au scope) tg with
  | none=>exact bg
  | some t=>
   by_cases h2:(dD (cI T sc N m iter).1 t&&(cq t).all (fun i=>(aH N scope)[i]? == some none))=true
   rotate_left
   ·simp only[h2]; exact bg
   simp only[h2,if_true];rw[Bool.and_eq_true] at h2;rcases qN iter with ⟨a,b,c,rfl⟩ | hs
   ·rintro pins s σ H Q I ⟨_,_,_,_,q⟩;rw[kh,oA,bh,fA] at q;exact q.elim
   ·have cp:=tQ (e:=e) ih g hb hl ht h2.1 h2.2;exact (Du g.calm cp.hS cp.hi cp.hg cp.ht cp.he (hs X.env)).mono fun σ H Q=>tD g.K cp.hx
theorem zX (ih:IH W G T n m)(g:Gd W G T n E sc N X)(e:Expr):PT X e (bF W G (Ip.run G n) (cT T sc N (m+1) e) E):=by
 cases e with
 | BoolOp o es p=>
  match es with
  | []=>exact en
  | [a]=>
   cases o with
   | And=>exact (Cg (ih.t g a)).pt
   | Or=>exact (Ce (ih.t g a)).pt
  | a::b::es=>
   have hb:∀o,PW X (.BoolOp o (b::es) p) (bF W G (Ip.run G n) (cT T sc N m (.BoolOp o (b::es) p)) E):=fun o whole=>ih.t g (.BoolOp o (b::es) p);cases o with
   | And=>exact (B4 (ih.t g a) (hb .And)).pt.mono fun σ H Q=>Ci
   | Or=>exact (yZ (ih.t g a) (hb .Or)).pt.mono fun σ H Q=>zm
 | UnaryOp o a p=>
  cases o with
  | Not=>exact (DC (ih.t g a)).mono fun σ H Q=>yy
  | _=>exact sC (ih.e g _) fun _=>rfl
 | IfExp c a b p=>exact en
 | Compare a os bs p=>exact ih.c g a os bs p
 | _=>exact sC (ih.e g _) fun _=>rfl
end
section
variable {W:Wd}{G:Pg}{T:Tb}{n:Nat}{m:Nat}{E:St->XK}{sc:Scope}{N:List Str}{X:Cx}
theorem ye (ih:IH W G T n m)(g:Gd W G T n E sc N X)(f:Str)(args:List Expr)(p pos:Pos)(k:Nat)(hg:aM sc f=true)(hk:T.fns.lookup f=some k)(ns:noStar args=true):PE X (.Call (.Name f p) args [] pos) (az W G (Ip.run G n) (.call k (args.map (cE T sc N m))) E):=by
 obtain⟨hdb,F,a,hF,hm,kp,fd,ps,fo,bd⟩:=g.gf.fns f k hk;cases q:cP G k args.length with
 | none=>
  rintro pins s σ H Q I ⟨_,_,_,_,h⟩;rw[iu,List.length_map,q] at h;exact h.elim
 | some F'=>
  obtain⟨e1,hio,h1,h2⟩:=rq q;rw[hF] at e1;cases e1;obtain⟨ds,dvs,hb,hv,hd⟩:=bd args.length h1 h2;have fo':FnOk X.prog X.w X.K X.mg X.base (cX X.prog X.w) (rm n) a fd ps (fH W G n k F):=g.K ▸ fo;have rm1:=g.room.mono (Nat.le_succ (rm n));have q':cP G k (args.map (cE T sc N m)).length=some F:=by rw[List.length_map]; exact q
  have hd':∀S,Dens W S dvs (bS F (args.map (cE T sc N m)).length):=by rw[List.length_map]; exact hd
  match args,ns,q',hd' with
  | [],_,q',hd'=>exact (wL fo' rm1 (g.gl f hg) hm (g.K ▸ kp) (g.K ▸ hb) hv g.pass hdb).mono fun σ H Q h=>lP (uC (es:=[]) q' hd' h)
  | e::es,ns,q',hd'=>
   obtain⟨s1,s2⟩:=dU ns;exact (zP fo' rm1 (g.gl f hg) hm (g.K ▸ kp) (g.K ▸ hb) hv g.pass (ih.args g (e::es)) hdb (di s1) (kz s2)).mono fun σ H Q=>uC q' hd'
theorem vF (ih:IH W G T n m)(g:Gd W G T n E sc N X)(f:Str)(args:List Expr)(p pos:Pos)(c:Nat)(hg:aM sc f=true)(hk:T.cls.lookup f=some c)(ns:noStar args=true):PE X (.Call (.Name f p) args [] pos) (az W G (Ip.run G n) (.make c (args.map (cE T sc N m))) E):=by
 obtain⟨hdb,C,hm,hc⟩:=g.gf.cls f c hk;cases q:aW G c args.length with
 | none=>
  rintro pins s σ H Q I ⟨_,_,_,_,h⟩;rw[kF,List.length_map,q] at h;exact h.elim
 | some t=>
  obtain⟨fi,F,d⟩:=t;obtain⟨Cl',k1,k2,k3,k4,hio,h1,h2,h50⟩:=oE q;obtain⟨a,⟨fd,ps,fo,bd⟩,hx⟩:=hc Cl' fi F k1 k2 k3;obtain⟨ds,dvs,hb,hv,hd⟩:=bd (args.length+1) h1 h2;have fo':FnOk X.prog X.w X.K X.mg X.base (cX X.prog X.w) (rm n) a fd ps (fH W G n fi F):=g.K ▸ fo;have hd':∀S,Dens W S dvs (bS F ((args.map (cE T sc N m)).length+1)):=by rw[List.length_map]; exact hd
  by_cases hxx:Cl'.isx=true
  ·rw[if_pos hxx] at hx k4;obtain⟨xA,kp,tl,xc⟩:=hx;subst k4;have q':aW G c (args.map (cE T sc N m)).length=some (fi,F,.exc c []):=by rw[List.length_map]; exact q
   have xc':XC X.K C (.ref a) tl:=g.K ▸ xc;match args,ns,q',hd' with
   | [],_,q',hd'=>exact (xR xc' (g.K ▸ kp) fo' g.room (g.gl f hg) hm (g.K ▸ hb) hv g.pass hdb).mono fun σ H Q h=>lP (rQ (es:=[]) xA q' hd' h)
   | e::es,ns,q',hd'=>
    obtain⟨s1,s2⟩:=dU ns;exact (DK xc' (g.K ▸ kp) fo' g.room (g.gl f hg) hm (g.K ▸ hb) hv g.pass (ih.args g (e::es)) hdb (di s1) (kz s2)).mono fun σ H Q=>rQ xA q' hd'
  ·rw[if_neg hxx] at hx k4;obtain⟨iA,mk⟩:=hx;subst k4;have q':aW G c (args.map (cE T sc N m)).length=some (fi,F,.ins c []):=by rw[List.length_map]; exact q
   have mk':Mk X.K C a:=g.K ▸ mk;match args,ns,q',hd' with
   | [],_,q',hd'=>exact (Bz mk' fo' g.room (g.gl f hg) hm (g.K ▸ hb) hv g.pass hdb).mono fun σ H Q h=>lP (uB (es:=[]) iA q' hd' h)
   | e::es,ns,q',hd'=>
    obtain⟨s1,s2⟩:=dU ns;exact (yf mk' fo' g.room (g.gl f hg) hm (g.K ▸ hb) hv g.pass (ih.args g (e::es)) hdb (di s1) (kz s2)).mono fun σ H Q=>uB iA q' hd'
theorem wP (ih:IH W G T n m)(g:Gd W G T n E sc N X)(o:Expr)(f:Str)(args:List Expr)(ap pos:Pos)(k:Nat)(hk:pos? f T.att=some k)(hs:eS o=true)(ns:noStar args=true)(hl:args.length<30)(hp:ap.endLine=pos.line) :
  PE X (.Call (.Attribute o f ap) args [] pos) (az W G (Ip.run G n) (.meth k (cE T sc N m o) (args.map (cE T sc N m))) E):=by
 rintro pins s σ H Q I ⟨N0,a,hN,hS,h⟩;have ho:=ih.e g o;have arm:=td (m:=f) (env:=X.env) hs ns hl hp;have hatt:W.att[k]? = some f:=by rw[g.gf.att]; exact pos?_get hk
 cases q:Ip.eval G (Ip.run G n) a (cE T sc N m o) with
 | bad=>rw[jI,q] at h; exact h.elim
 | exc c fs=>
  rw[jI,q] at h;refine PySem.W.methodCall_KW (pl:=_) (aB (ho pins s σ H (fun _ _=>False) I ⟨N0,a,hN,hS,by rw[q]; exact h⟩) fun u s1 ⟨_,_,_,_,z⟩=>z.elim) arm
 | ok x=>
  obtain⟨kx,d⟩:=x;cases q2:bL G k args.length d with
  | none=>
   rw[jI,q] at h;simp only[Ip.R.bind,List.length_map,q2] at h
  | some t=>
   obtain⟨fi,F⟩:=t;obtain⟨c,fs,Cl',rfl,k1,k2,k3,hio,hfl,h1,h2⟩:=si q2;obtain⟨C,ad,hC,hme,fd,ps,fo,bd⟩:=g.gf.meth c Cl' k fi F k1 k2 k3 f hatt;obtain⟨ds,dvs,hb,hv,hd⟩:=bd (args.length+1) h1 h2;have fo':FnOk X.prog X.w X.K X.mg X.base (cX X.prog X.w) (rm n) ad fd ps (fH W G n fi F):=g.K ▸ fo;have rm1:=g.room.mono (Nat.le_succ (rm n));have cls:Cls X.K C:=g.K ▸ (g.gf.cf.ins c C hC).1.cls;have q3:bL G k (args.map (cE T sc N m)).length (.ins c fs)=some (fi,F):=by rw[List.length_map]; exact q2
   have hd':∀S,Dens W S dvs (bS F ((args.map (cE T sc N m)).length+1)):=by rw[List.length_map]; exact hd
   have key:=zY (E:=E) (Q:=Q) g.gf.cf.nd hatt hC hd' hN hS q q3 h;match args,ns,arm,key with
   | [],_,arm,key=>exact C9 ho cls (g.K ▸ hme) fo' rm1 (g.K ▸ hb) hv g.pass arm pins s σ H Q I (by
     unfold d6 at key ⊢;refine evT_mono key fun x H1 ⟨a,dx,fs,e1,e2,e3,e4⟩=>⟨a,dx,fs,e1,e2,e3,lP e4⟩)
   | e::es,ns,arm,key=>
    obtain⟨s1,s2⟩:=dU ns;exact yU ho cls (g.K ▸ hme) fo' rm1 (g.K ▸ hb) hv g.pass (ih.args g (e::es)) (di s1) (kz s2) arm pins s σ H Q I key
where
 evT_mono {ir:Ex} {cl:Nat->List KD->Ip.Run} {E:St->XK} {σ:St} {H:Hp} {Q Q':VK} (h:az W G cl ir E σ H Q) (k:∀v H,Q v H->Q' v H):az W G cl ir E σ H Q':=by
  obtain⟨N,a,hN,hS,h⟩:=h;refine⟨N,a,hN,hS,?_⟩;cases q:Ip.eval G cl a ir with
  | bad=>rw[q] at h; exact h
  | exc c fs=>rw[q] at h; exact h
  | ok x=>rw[q] at h; exact fun v H' r=>k v H' (h v H' r)
theorem rJ (h:fG e=true):∀a c fs,Ip.eval G cl a e≠.exc c fs:=fun a c fs=>by
 cases e with
 | var i=>
  rw[gk];split <;> exact fun z=>nomatch z
 | cst d=>rw[kl]; exact fun z=>nomatch z
 | _=>cases h
theorem jM (ns:noStar [e]=true):((backTo cp (starEach [e] env)).all (fun x=>!x.1)&&(backToKw cp (keywordEach [] env)).all (fun x=>x.1.isSome)
   && decide ([e].length+([]:List Keyword).length+(if ([]:List Keyword).isEmpty then 0 else 1)<30))=true:=by
 rw[mN ns]; rfl
theorem oi (ih:IH W G T n m)(g:Gd W G T n E sc N X)(o a:Expr)(f:Str)(ap pos:Pos)(q:Op)(hq:kD f=some q)(nx:fG (cE T sc N m a)=true)(hs:eS o=true)(ns:noStar [a]=true)(hp:ap.endLine=pos.line) :
  PE X (.Call (.Attribute o f ap) [a] [] pos) (az W G (Ip.run G n) (.op q [cE T sc N m o,cE T sc N m a]) E):=by
 obtain⟨s1,s2⟩:=dU ns;have ln:(ap.endLine == pos.line)=true:=by rw[hp]; exact beq_self_eq_true _
 unfold kD at hq;by_cases h1:(f == ("index" : Str))=true
 ·rw[if_pos h1] at hq;cases hq;obtain rfl:f = "index":=by simpa using h1
  exact ((mh (T := "list") (id := "list.index") PySem.F.plainAttrs_list PySem.F.slot_list_index PySem.F.type_list_index Df (ih.e g o) (ih.args g [a]) (mw hs) (jM ns) ln (di s1) rfl).or
   (mh (T := "tuple") (id := "tuple.index") PySem.F.plainAttrs_tuple PySem.F.slot_tuple_index PySem.F.type_tuple_index wG (ih.e g o) (ih.args g [a]) (mw hs) (jM ns) ln (di s1) rfl)).mono fun σ H Q h=>CL g.K (rJ nx) h
 ·rw[if_neg h1] at hq;by_cases h2:(f == ("count" : Str))=true
  ·rw[if_pos h2] at hq;cases hq;obtain rfl:f = "count":=by simpa using h2
   exact (mh (T := "list") (id := "list.count") PySem.F.plainAttrs_list PySem.F.slot_list_count PySem.F.type_list_count wx (ih.e g o) (ih.args g [a]) (mw hs) (jM ns) ln (di s1) rfl).mono fun σ H Q h=>yB (rJ nx) h
  ·rw[if_neg h2] at hq; cases hq
theorem Gd.bl (g:Gd W G T n E sc N X)(h:(x,v)∈bG):X.mg x=none/\bootBuiltins x=some v:=g.gf.blt x v h
theorem xG (ih:IH W G T n m)(g:Gd W G T n E sc N X)(a:Expr):((∃x p,a=.Starred x p)/\cE T sc N m a=.bad)\/(PA X [a] (be W G (Ip.run G n) [cE T sc N m a] E)/\starEach [a] X.env=(false,PySem.eval a X.env)::starEach [] X.env):=by
 rcases oh a [] X.env with ⟨x,p,rfl⟩ | h
 ·exact .inl ⟨⟨x,p,rfl⟩,qU T sc N m x p⟩
 ·exact .inr ⟨ih.args g [a],h⟩
theorem su:PE X x (az W G (Ip.run G n) (.op o (.bad::es)) E):=fun pins s σ H Q I ⟨_,_,_,_,h⟩=>by
 rw[bQ,bh,fA] at h;exact h.elim
theorem sH (g:Gd W G T n E sc N X)(q:dO T sc b=some t):∃c cv,PE X b (tC c)/\valOf c=some cv/\bC W G t cv:=by
 cases b with
 | Name x bp=>
  simp only[dO] at q;by_cases hgx:aM sc x=true
  ·rw[if_pos hgx] at q;cases q2:T.cls.lookup x with
   | some c=>
    rw[q2] at q;cases q;obtain⟨hdb,_⟩:=g.gf.cls x c q2;obtain⟨C,hm,hi⟩:=g.gf.isC x c q2;exact⟨.ref C,.ref C,uy (g.gl x hgx) hm rfl hdb,rfl,hi⟩
   | none=>
    rw[q2] at q;obtain⟨hm,hn,hdb,nm,hb,hi⟩:=g.gf.isB x t q;exact⟨.ty nm,.type nm,Ez (g.gl x hgx) hm hb rfl hn hdb,rfl,hi⟩
  ·rw[if_neg hgx] at q; cases q
 | _=>cases q
theorem sA (g:Gd W G T n E sc N X):∀{es:List Expr} {ts:List Ip.Ty},es.mapM (dO T sc)=some ts->∃cs cvs,Isis X W G es ts cs cvs
 | [],ts,h=>by cases h; exact⟨[],[],.nil⟩
 | e::es,ts,h=>by
  rw[List.mapM_cons] at h;cases q:dO T sc e with
  | none=>rw[q] at h; cases h
  | some t=>
   rw[q] at h;cases q2:es.mapM (dO T sc) with
   | none=>simp[q2] at h
   | some ts'=>
    simp[q2] at h;subst h;obtain⟨cs,cvs,r⟩:=sA g q2;obtain⟨c,cv,he,hc,hi⟩:=sH g q;refine⟨c::cs,cv::cvs,.cons he (fun es=>?_) hc hi r⟩;cases e with
    | Name x p=>rfl
    | _=>cases q
theorem AU (ih:IH W G T n m)(g:Gd W G T n E sc N X)(f:Str)(args:List Expr)(p pos:Pos)(hg:aM sc f=true):PE X (.Call (.Name f p) args [] pos) (az W G (Ip.run G n) (cB T sc N (m+1) f args) E):=by
 match args with
 | []=>exact bg
 | _::_::_::_=>exact bg
 | [a]=>
  simp only[Ip.tx];cases qi:Ip.lM sc f a with
  | some b=>
   dsimp only;obtain⟨p1,p2,rfl,hg',ns,rfl⟩:=Ip.Ca qi;obtain⟨s1,_⟩:=dU ns;obtain⟨h1,h2⟩:=g.bl (x := "sorted") (v:=.builtin "sorted") (by simp[bG]);obtain⟨h3,h4⟩:=g.bl (x := "set") (v:=.type "set") (by simp[bG]);exact (Av g.calm (ih.e g b) (g.gl _ hg) h1 h2 (g.gl _ hg') h3 h4 rfl (di s1)).mono fun σ H Q h=>jP (BR g.K) h
  | none=>
  dsimp only;cases q:lR.lookup f with
  | none=>exact bg
  | some o=>
   rcases xG ih g a with ⟨_,hb⟩ | ⟨pa,hs⟩
   ·simp only[hb]; exact su
   have hmem:=uF q;simp only[lR,List.mem_cons,List.not_mem_nil,or_false,Prod.mk.injEq] at hmem;rcases hmem with ⟨rfl,rfl⟩ | ⟨rfl,rfl⟩ | ⟨rfl,rfl⟩ | ⟨rfl,rfl⟩ | ⟨rfl,rfl⟩ | ⟨rfl,rfl⟩ | ⟨rfl,rfl⟩
   ·obtain⟨h1,h2⟩:=g.bl (x := "len") (v:=.builtin "len") (by simp[bG]);exact (je (yu g.K) (g.gl _ hg) h1 h2 pa (by decide) (by decide) hs rfl).mono fun σ H Q=>i3
   ·obtain⟨h1,h2⟩:=g.bl (x := "list") (v:=.type "list") (by simp[bG]);exact (qt (xW g.K) (g.gl _ hg) h1 h2 pa (by decide) (by decide) hs rfl).mono fun σ H Q=>i3
   ·obtain⟨h1,h2⟩:=g.bl (x := "tuple") (v:=.type "tuple") (by simp[bG]);exact (qt (zu g.K) (g.gl _ hg) h1 h2 pa (by decide) (by decide) hs rfl).mono fun σ H Q=>i3
   ·obtain⟨h1,h2⟩:=g.bl (x := "all") (v:=.builtin "all") (by simp[bG]);exact (je (Ah g.calm) (g.gl _ hg) h1 h2 pa (by decide) (by decide) hs rfl).mono fun σ H Q=>i3
   ·obtain⟨h1,h2⟩:=g.bl (x := "any") (v:=.builtin "any") (by simp[bG]);exact (je (EK g.calm) (g.gl _ hg) h1 h2 pa (by decide) (by decide) hs rfl).mono fun σ H Q=>i3
   ·obtain⟨h1,h2⟩:=g.bl (x := "int") (v:=.type "int") (by simp[bG]);exact (qt Ai (g.gl _ hg) h1 h2 pa (by decide) (by decide) hs rfl).mono fun σ H Q=>i3
   ·obtain⟨h1,h2⟩:=g.bl (x := "min") (v:=.builtin "min") (by simp[bG]);exact (je (ES g.calm) (g.gl _ hg) h1 h2 pa (by decide) (by decide) hs rfl).mono fun σ H Q=>i3
 | [a,b]=>
  simp only[Ip.tx];by_cases hf:(f == ("isinstance" : Str))=true
  rotate_left
  ·rw[if_neg hf];by_cases hf2:(f == ("max" : Str)&&noStar [a,b])=true
   rotate_left
   ·rw[if_neg hf2]; exact bg
   rw[if_pos hf2];rw[Bool.and_eq_true] at hf2;obtain rfl:f = "max":=by simpa using hf2.1
   obtain⟨s1,s2⟩:=dU hf2.2;obtain⟨s3,_⟩:=dU s2;obtain⟨h1,h2⟩:=g.bl (x := "max") (v:=.builtin "max") (by simp[bG]);exact (je (yF g.calm) (g.gl _ hg) h1 h2 (ih.args g [a,b]) (by decide) (by decide) (di s1) (by rw[di s3]; rfl)).mono fun σ H Q=>Ch
  rw[if_pos hf];have hf':f = "isinstance":=by simpa using hf
  subst hf';cases q:cU T sc b with
  | none=>exact bg
  | some ts=>
   rcases oh a [b] X.env with ⟨x,p',rfl⟩ | hs1
   ·simp only[qU]; exact su
   obtain⟨h1,h2⟩:=g.bl (x := "isinstance") (v:=.builtin "isinstance") (by simp[bG]);cases b with
   | Name x bp=>
    simp only[cU] at q;obtain⟨t,q',rfl⟩:=cy q;obtain⟨c,cv,he,hc,hi⟩:=sH g q';exact DP g.K g.gf.cf hc hi (g.gl _ hg) h1 h2 (ih.e g a) he hs1 rfl
   | Tuple es k tp=>
    simp only[cU] at q;by_cases hl:es.length<=1000
    ·rw[if_pos hl] at q;obtain⟨cs,cvs,hi⟩:=sA g q;exact Cj g.K g.gf.cf hl hi (g.gl _ hg) h1 h2 (ih.e g a) hs1 rfl
    ·rw[if_neg hl] at q; cases q
   | _=>simp[cU,dO] at q
theorem xx (ih:IH W G T n m)(g:Gd W G T n E sc N X)(tg x:Expr)(ht:(cI T sc N (m+1) x).1=.enum\/(cI T sc N (m+1) x).1=.zip->∃es k p,tg=.Tuple es k p):PI X tg x (fK W G (Ip.run G n) (cI T sc N (m+1) x).1 (cI T sc N (m+1) x).2 E):=by
 have gen:∀y,PI X tg y (fK W G (Ip.run G n) .seq [cE T sc N m y] E):=fun y=>BV g.K (ih.e g y);cases x with
 | Call f args kws q=>
  cases f with
  | Name f p=>
   cases kws with
   | cons _ _=>exact gen _
   | nil=>
    simp only[Ip.Dx] at ht ⊢;by_cases h1:(aM sc f&&f == ("range" : Str)&&noStar args)=true
    ·rw[if_pos h1];simp only[Bool.and_eq_true,beq_iff_eq] at h1;obtain⟨⟨hg,rfl⟩,ns⟩:=h1;have hm:=(g.bl (x := "range") (v:=.type "range") (by simp[bG])).1;match args,ns with
     | [a],ns=>
      obtain⟨s1,_⟩:=dU ns;exact Bj (g.gl _ hg) hm (ih.args g [a]) (di s1)
     | [],_=>exact iM
     | _::_::_,_=>exact iM
    rw[if_neg h1] at ht ⊢;by_cases h2:(aM sc f&&f == ("enumerate" : Str)&&noStar args)=true
    ·rw[if_pos h2] at ht ⊢;simp only[Bool.and_eq_true,beq_iff_eq] at h2;obtain⟨⟨hg,rfl⟩,ns⟩:=h2;obtain⟨hm,hv⟩:=g.bl (x := "enumerate") (v:=.type "enumerate") (by simp[bG]);match args,ns,ht with
     | [a],ns,ht=>
      obtain⟨s1,_⟩:=dU ns;obtain⟨es,k,p',rfl⟩:=ht (.inl rfl);exact wc g.K (g.gl _ hg) hm hv (ih.args g [a]) (di s1)
     | [],_,_=>exact iM
     | _::_::_,_,_=>exact iM
    rw[if_neg h2] at ht ⊢;by_cases h3:(aM sc f&&f == ("zip" : Str)&&noStar args)=true
    ·rw[if_pos h3] at ht ⊢;simp only[Bool.and_eq_true,beq_iff_eq] at h3;obtain⟨⟨hg,rfl⟩,ns⟩:=h3;obtain⟨hm,hv⟩:=g.bl (x := "zip") (v:=.type "zip") (by simp[bG]);match args,ns,ht with
     | [a,b],ns,ht=>
      obtain⟨s1,s2⟩:=dU ns;obtain⟨s3,_⟩:=dU s2;obtain⟨es,k,p',rfl⟩:=ht (.inr rfl);exact EN g.K (g.gl _ hg) hm hv (ih.args g [a,b]) (by rw[di s1,di s3]; rfl) (di s3)
     | [],_,_=>exact iM
     | [_],_,_=>exact iM
     | _::_::_::_,_,_=>exact iM
    rw[if_neg h3] at ht ⊢;exact gen _
  | _=>exact gen _
 | _=>exact gen _
theorem BK (ih:IH W G T n m)(g:Gd W G T n E sc N X)(f:Expr)(args:List Expr)(kws:List Keyword)(p:Pos):PE X (.Call f args kws p) (az W G (Ip.run G n) (cE T sc N (m+1) (.Call f args kws p)) E):=by
 cases kws with
 | cons _ _=>exact bg
 | nil=>
  cases f with
  | Name f q=>
   simp only[Ip.sK];by_cases hg:aM sc f=true
   rotate_left
   ·rw[if_neg hg]; exact bg
   rw[if_pos hg];cases h1:T.fns.lookup f with
   | some k=>
    by_cases ns:noStar args=true
    ·simp only[ns,if_true]; exact ye ih g f args q p k hg h1 ns
    ·simp only[ns]; exact bg
   | none=>
    cases h2:T.cls.lookup f with
    | some c=>
     by_cases ns:noStar args=true
     ·simp only[ns,if_true]; exact vF ih g f args q p c hg h2 ns
     ·simp only[ns]; exact bg
    | none=>exact ih.b g f args q p hg
  | Attribute o f ap=>
   simp only[Ip.sK];cases h1:pos? f T.att with
   | none=>
    cases args with
    | nil=>exact bg
    | cons a r=>
     cases r with
     | cons _ _=>exact bg
     | nil=>
      cases hq:kD f with
      | none=>exact bg
      | some q=>
       dsimp only;by_cases h:(fG (cE T sc N m a)&&eS o&&noStar [a]&&ap.endLine == p.line)=true
       ·rw[if_pos h];simp only[Bool.and_eq_true,beq_iff_eq] at h;obtain⟨⟨⟨a0,a1⟩,a2⟩,a4⟩:=h;exact oi ih g o a f ap p q hq a0 a1 a2 a4
       ·rw[if_neg h]; exact bg
   | some k=>
    by_cases h:(eS o&&noStar args&&decide (args.length<30)&&ap.endLine == p.line)=true
    ·simp only[h,if_true];simp only[Bool.and_eq_true,decide_eq_true_eq,beq_iff_eq] at h;obtain⟨⟨⟨a1,a2⟩,a3⟩,a4⟩:=h;exact wP ih g o f args ap p k h1 a1 a2 a3 a4
    ·simp only[h]; exact bg
  | _=>exact bg
theorem xH (ih:IH W G T n m)(g:Gd W G T n E sc N X)(e:Expr):PE X e (az W G (Ip.run G n) (cE T sc N (m+1) e) E):=by
 cases e with
 | Name x p=>exact yI g x p
 | Constant c k p=>exact zx c k p
 | BinOp a o b p=>exact wO ih g a b o p
 | UnaryOp o a p=>exact oS ih g a o p
 | BoolOp o es p=>exact Bi ih g o es p
 | Compare a os bs p=>exact (uc ih g a os bs p).1
 | IfExp c a b p=>exact oz ih g c a b p
 | List es p=>exact Ef ih g es p
 | Tuple es k p=>exact EJ ih g es k p
 | Subscript a i p=>exact D0 ih g a i p
 | Attribute o f p=>exact yt ih g o f p
 | ListComp e gs scope p=>exact xQ ih g e gs scope p
 | Call f args kws p=>exact BK ih g f args kws p
 | _=>exact bg
theorem eB:∀m,IH W G T n m
 | 0=>by
  refine⟨fun g x=>?_,fun g x=>?_,fun g a os bs p=>?_,fun g tg x _=>?_,fun g f args p pos hg=>?_⟩
  ·exact bg
  ·exact en
  ·exact en
  ·exact iM
  ·exact bg
 | m+1=>by
  have ih:=eB m;exact⟨fun g x=>xH ih g x,fun g x=>zX ih g x,fun g a os bs p=>(uc ih g a os bs p).2,fun g tg x ht=>xx ih g tg x ht,fun g f args p pos hg=>AU ih g f args p pos hg⟩
end
section
variable {G:Pg}{cl:Nat->List KD->Ip.Run}
mutual
theorem fh:∀e:Ex,(∀i∈e.names,a[i]? = b[i]?)->Ip.eval G cl a e=Ip.eval G cl b e
 | .var i,h=>by rw[gk,gk,h i (by simp)]
 | .cst d,_=>by rw[kl,kl]
 | .op o es,h=>by rw[bQ,bQ,zAH es (by simpa using h)]
 | .and x y,h=>by
  simp only[Ex.names,List.mem_append] at h;rw[lB,lB,fh x fun i hi=>h i (.inl hi),fh y fun i hi=>h i (.inr hi)]
 | .or x y,h=>by
  simp only[Ex.names,List.mem_append] at h;rw[lw,lw,fh x fun i hi=>h i (.inl hi),fh y fun i hi=>h i (.inr hi)]
 | .chain o p x y z,h=>by
  simp only[Ex.names,List.mem_append] at h;rw[Ip.qh,Ip.qh,fh x fun i hi=>h i (.inl hi),fh y fun i hi=>h i (.inr (.inl hi)),fh z fun i hi=>h i (.inr (.inr hi))]
 | .sl2 x y z,h=>by
  simp only[Ex.names,List.mem_append] at h;rw[Ip.qL,Ip.qL,fh x fun i hi=>h i (.inl hi),fh y fun i hi=>h i (.inr (.inl hi)),fh z fun i hi=>h i (.inr (.inr hi))]
 | .comp caps tg wk it t e,h=>by
  simp only[Ex.names,List.mem_append] at h;have hc:caps.map (ce a)=caps.map (ce b):=List.map_congr_left fun o ho=>by
   cases o with
   | none=>rfl
   | some i=>
    show (a[i]?).join=(b[i]?).join;rw[h i (.inl (List.mem_filterMap.mpr ⟨some i,ho,rfl⟩))]
  rw[kh,kh,zAH it fun i hi=>h i (.inr hi),hc]
 | .call f es,h=>by rw[iu,iu,zAH es (by simpa using h)]
 | .make f es,h=>by rw[kF,kF,zAH es (by simpa using h)]
 | .meth m o es,h=>by
  simp only[Ex.names,List.mem_append] at h;rw[jI,jI,fh o fun i hi=>h i (.inl hi),zAH es fun i hi=>h i (.inr hi)]
 | .bad,_=>by rw[fA,fA]
theorem zAH:∀es:List Ex,(∀i∈Ex.namess es,a[i]? = b[i]?)->evals G cl a es=evals G cl b es
 | [],_=>by rw[cM,cM]
 | e::es,h=>by
  simp only[Ex.namess,List.mem_append] at h;rw[bh,bh,fh e fun i hi=>h i (.inl hi),zAH es fun i hi=>h i (.inr hi)]
end
end
noncomputable def mask (ns:List Nat)(a:Sl):Sl:=a.mapIdx fun i o=>if i∈ns then o else none
theorem nV (h:i∈ns):a[i]? = (mask ns a)[i]?:=by
 unfold mask;rw[List.getElem?_mapIdx];cases a[i]? with
 | none=>rfl
 | some o=>simp[h]
theorem nr (h:(mask ns a)[i]? = some (some d)):i∈ns/\a[i]? = some (some d):=by
 unfold mask at h;rw[List.getElem?_mapIdx] at h;cases q:a[i]? with
 | none=>rw[q] at h; cases h
 | some o=>
  rw[q] at h;by_cases hi:i∈ns
  ·simp[hi] at h; exact⟨hi,by rw[h]⟩
  ·simp[hi] at h
theorem lW {A:Fr}{i:Nat}{d:D}(h:A.sl[i]? = some (some d)):∃k,A[i]? = some (some (k,d)):=by
 unfold Fr.sl at h;rw[List.getElem?_map] at h;obtain⟨o,h1,h2⟩:=cy h;obtain⟨x,h3,h4⟩:=cy h2;obtain⟨k,d'⟩:=x;cases h4;exact⟨k,by rw[h1,h3]⟩
def cD (W:Wd)(S S':Hp):Prop:=∀a vs,SqT W.K S a vs->SqT W.K S' a vs
mutual
theorem Den.hide (h:cD W S S'):∀{v d},d.flat=true->Den W S v d->Den W S' v d
 | _,_,_,.non=>.non
 | _,_,_,.bl=>.bl
 | _,_,_,.int=>.int
 | _,_,_,.str=>.str
 | _,_,hf,.tup e q=>.tup (h _ _ e) (q.hide h (by rw[D.flat] at hf; exact hf))
 | _,_,hf,.lst _ _=>by simp at hf
 | _,_,hf,.ins _ _ _=>by simp at hf
 | _,_,hf,.exc _ _ _=>by simp at hf
theorem Dens.hide (h:cD W S S'):∀{v d},D.flats d=true->Dens W S v d->Dens W S' v d
 | _,_,_,.nil=>.nil
 | _,_,hf,.cons e q=>by
  rw[D.flats,Bool.and_eq_true] at hf;exact .cons (e.hide h hf.1) (q.hide h hf.2)
end
theorem DenF.hide (h:cD W S S'):∀{vs ds},(ds.all fun p=>p.2.flat)=true->DenF W S vs ds->DenF W S' vs ds
 | _,_,_,.nil=>.nil
 | _,_,hf,.cons e d q=>by
  rw[List.all_cons,Bool.and_eq_true] at hf;exact .cons e (d.hide h hf.1) (q.hide h hf.2)
theorem Own.hide (h:cD W S S'):∀{k v d fp},D.fb k d=true->Own W S H k v d fp->Own W S' H k v d fp
 | 0,_,_,_,hf,⟨e,o⟩=>⟨e,o.hide h (by rw[D.fb] at hf; exact hf)⟩
 | k+1,_,.lst ds,_,hf,⟨a,vs,fq,e1,e2,e3,e4⟩=>⟨a,vs,fq,e1,e2,e3.re (b:=D.fb k) (fun _ _ _ hb o=>Own.hide h hb o) hf,e4⟩
 | k+1,_,.tup ds,_,hf,⟨a,vs,e1,e2,e3⟩=>⟨a,vs,e1,h _ _ e2,e3.re (b:=D.fb k) (fun _ _ _ hb o=>Own.hide h hb o) hf⟩
 | k+1,_,.ins c ds,_,hf,⟨a,C,dx,fs,fq,e1,e2,e5,e3,e4⟩=>⟨a,C,dx,fs,fq,e1,e2,e5,e3.re (b:=D.fb k) (fun _ _ _ hb o=>Own.hide h hb o) hf,e4⟩
 | k+1,_,.exc c ds,_,hf,_=>by cases hf
 | _+1,_,.non,_,_,⟨e,o⟩=>⟨e,o.hide h rfl⟩
 | _+1,_,.bl _,_,_,⟨e,o⟩=>⟨e,o.hide h rfl⟩
 | _+1,_,.int _,_,_,⟨e,o⟩=>⟨e,o.hide h rfl⟩
 | _+1,_,.str _,_,_,⟨e,o⟩=>⟨e,o.hide h rfl⟩
theorem Own.noTup:∀{k v d fp},Own W S H k v d fp->∀a∈fp,∀vs,¬Rd H a (.tup vs)
 | 0,_,_,_,h,a,z=>by rw[h.1] at z; simp at z
 | k+1,_,.lst ds,_,⟨a,vs,fq,e1,e2,e3,e4⟩,b,z=>by
  rw[e4] at z;rcases bN z with q | q
  ·intro ws r;rw[q] at r;rcases r with r | ⟨o,r⟩ <;> rw[e2] at r <;> cases r
  ·exact e3.mem (fun _ _ _ y=>Own.noTup y) b q
 | k+1,_,.tup ds,_,⟨a,vs,e1,e2,e3⟩,b,z=>e3.mem (fun _ _ _ y=>Own.noTup y) b z
 | k+1,_,.ins c ds,_,⟨a,C,dx,fs,fq,e1,e2,e5,e3,e4⟩,b,z=>by
  rw[e4] at z;rcases bN z with q | q
  ·intro ws r;rw[q] at r;rcases r with r | ⟨o,r⟩ <;> rw[e2] at r <;> cases r
  ·exact e3.mem (fun _ _ _ y=>Own.noTup y) b q
 | k+1,_,.exc c ds,_,⟨a,C,dx,fs,fq,e1,e2,e5,e3,e4⟩,b,z=>by
  rw[e4] at z;rcases bN z with q | q
  ·intro ws r;rw[q] at r;rcases r with r | ⟨o,r⟩ <;> rw[e2] at r <;> cases r
  ·exact e3.mem (fun _ _ _ y=>Own.noTup y) b q
 | _+1,_,.non,_,h,a,z=>by rw[h.1] at z; simp at z
 | _+1,_,.bl _,_,h,a,z=>by rw[h.1] at z; simp at z
 | _+1,_,.int _,_,h,a,z=>by rw[h.1] at z; simp at z
 | _+1,_,.str _,_,h,a,z=>by rw[h.1] at z; simp at z
def ak (N:Addr->Prop)(F:Nat->List Addr):Addr->Prop:=fun b=>N b\/∃j,b∈F j
structure FrF (W:Wd)(E0:Hp)(N:Addr->Prop)(pin:List (Nat×V))(A:Fr)(σ:St)(H:Hp)(F:Nat->List Addr):Prop where
 sub:Sub E0 H
 nok:NOk N H
 len:σ.length=A.length
 pn:∀p∈pin,σ[p.1]? = some (some p.2)
 nd:∀i,(F i).Nodup
 dj:∀i j b,b∈F i->b∈F j->i=j
 fr:∀i b,b∈F i->E0 b=none/\¬N b
 rel:∀(i:Nat) (x:KD),A[i]? = some (some x)->∃v,σ[i]? = some (some v)/\Own W (hid (ak N F) H) H x.1 v x.2 (F i)
 em:∀(i:Nat),(∀x,A[i]?≠some (some x))->F i=[]
theorem FrF.dom {W:Wd}{E0:Hp}{N:Addr->Prop}{pin:List (Nat×V)}{A:Fr}{σ:St}{H:Hp}{F:Nat->List Addr}(f:FrF W E0 N pin A σ H F){i:Nat}{b:Addr}(h:b∈F i):H b≠none:=by
 by_cases q:∃x,A[i]? = some (some x)
 ·obtain⟨x,e⟩:=q;obtain⟨v,_,o⟩:=f.rel i x e;exact o.dom b h
 ·rw[f.em i fun x z=>q ⟨x,z⟩] at h; simp at h
theorem FrF.noTup {W:Wd}{E0:Hp}{N:Addr->Prop}{pin:List (Nat×V)}{A:Fr}{σ:St}{H:Hp}{F:Nat->List Addr}(f:FrF W E0 N pin A σ H F){i:Nat}{b:Addr}(h:b∈F i)(vs:List V):¬Rd H b (.tup vs):=by
 by_cases q:∃x,A[i]? = some (some x)
 ·obtain⟨x,e⟩:=q;obtain⟨v,_,o⟩:=f.rel i x e;exact o.noTup b h vs
 ·rw[f.em i fun x z=>q ⟨x,z⟩] at h; simp at h
theorem FrF.grow {W:Wd}{E0:Hp}{N:Addr->Prop}{pin:List (Nat×V)}{A:Fr}{σ:St}{H H':Hp}{F:Nat->List Addr}(f:FrF W E0 N pin A σ H F)(hs:Sub H H'){fp:List Addr}(hf:∀b∈fp,H b=none/\H' b≠none):FrF W E0 (fun b=>N b\/b∈fp) pin A σ H' F where
 sub:=f.sub.trans hs
 nok:=fun b z=>z.elim (f.nok.mono hs b) fun y=>(hf b y).2
 len:=f.len
 pn:=f.pn
 nd:=f.nd
 dj:=f.dj
 fr:=fun i b h=>⟨(f.fr i b h).1,fun z=>z.elim (f.fr i b h).2 fun y=>f.dom h (hf b y).1⟩
 rel:=fun i x e=>by
  obtain⟨v,h1,h2⟩:=f.rel i x e;refine⟨v,h1,h2.mono (fD hs fun b z=>?_) fun b _ o e=>hs b o e⟩;rcases z with (z | z) | z
  ·exact .inl (.inl z)
  ·exact .inr (hf b z).1
  ·exact .inl (.inr z)
 em:=f.em
theorem yx:(frz1 A j)[i]? = if i=j then (A[i]?).map (Option.map fun x=>(0,x.2)) else A[i]?:=by
 unfold frz1;cases q:A[j]? with
 | none=>
  by_cases z:i=j
  ·subst z; simp[q]
  ·simp[z]
 | some o=>
  cases o with
  | none=>
   by_cases z:i=j
   ·subst z; simp[q]
   ·simp[z]
  | some x=>
   obtain⟨k,d⟩:=x;have hl:j<A.length:=(cr q).1;by_cases z:i=j
   ·subst z;simp[q,List.getElem?_set_self hl]
   ·simp only[if_neg z];exact List.getElem?_set_ne fun y=>z y.symm
theorem nu:∀{ns:List Nat} {A:Fr},(frz ns A)[i]? = if i∈ns then (A[i]?).map (Option.map fun x=>(0,x.2)) else A[i]?
 | [],A=>by simp[frz]
 | n::ns,A=>by
  show (frz ns (frz1 A n))[i]? = _;rw[nu,yx];by_cases h1:i=n
  ·subst h1;by_cases h2:i∈ns
   ·simp[h2,Function.comp_def]
   ·simp[h2]
  ·by_cases h2:i∈ns
   ·simp[h1,h2]
   ·simp[h1,h2]
theorem uq:∀{ns:List Nat} {A:Fr},(frz ns A).length=A.length
 | [],A=>rfl
 | n::ns,A=>by
  show (frz ns (frz1 A n)).length=_;rw[uq];unfold frz1;split
  ·exact List.length_set
  ·rfl
section
variable {W:Wd}{E0:Hp}{N:Addr->Prop}{pin:List (Nat×V)}{A:Fr}{σ:St}{H:Hp}{F:Nat->List Addr}
noncomputable def aU (ns:List Nat)(F:Nat->List Addr):Nat->List Addr:=fun j=>if j∈ns then [] else F j
theorem er (h:b∈aU ns F j):j∉ns/\b∈F j:=by
 unfold aU at h;by_cases z:j∈ns
 ·rw[if_pos z] at h; simp at h
 ·rw[if_neg z] at h; exact⟨z,h⟩
theorem ky (h:ak N (aU ns F) b):ak N F b:=h.imp id fun⟨j,q⟩=>⟨j,(er q).2⟩
theorem FrF.see (f:FrF W E0 N pin A σ H F)(hi:i∈ns)(h:A[i]? = some (some x)):∃v,σ[i]? = some (some v)/\Den W (hid (ak N (aU ns F)) H) v x.2:=by
 obtain⟨v,h1,o⟩:=f.rel i x h;refine⟨v,h1,o.den (fun b u e=>?_) fun b hb u e=>ax.mpr ⟨fun z=>?_,e⟩⟩
 ·obtain⟨g1,g2⟩:=ax.mp e;exact ax.mpr ⟨fun z=>g1 (ky z),g2⟩
 ·rcases z with z | ⟨j,z⟩
  ·exact (f.fr i b hb).2 z
  ·obtain⟨z1,z2⟩:=er z;exact z1 (f.dj i j b hb z2 ▸ hi)
theorem FrF.frz (f:FrF W E0 N pin A σ H F)(ns:List Nat):FrF W E0 N pin (frz ns A) σ H (aU ns F) where
 sub:=f.sub
 nok:=f.nok
 len:=by rw[uq]; exact f.len
 pn:=f.pn
 nd:=fun i=>by
  unfold aU;split
  ·exact .nil
  ·exact f.nd i
 dj:=fun i j b h1 h2=>f.dj i j b (er h1).2 (er h2).2
 fr:=fun i b h=>f.fr i b (er h).2
 rel:=fun i x e=>by
  rw[nu] at e;by_cases hi:i∈ns
  ·rw[if_pos hi] at e;obtain⟨o,e1,e2⟩:=cy e;obtain⟨y,e3,e4⟩:=cy e2;rw[e3] at e1;subst e4;obtain⟨v,h1,h2⟩:=f.see hi e1;exact⟨v,h1,by unfold aU; rw[if_pos hi]; exact⟨rfl,h2⟩⟩
  ·rw[if_neg hi] at e;obtain⟨v,h1,o⟩:=f.rel i x e;refine⟨v,h1,?_⟩;have:aU ns F i=F i:=by unfold aU; rw[if_neg hi]
   rw[this];exact o.mono (fun b u e=>ax.mpr ⟨fun z=>(ax.mp e).1 (ky z),(ax.mp e).2⟩) fun _ _ _ e=>e
 em:=fun i h=>by
  unfold aU;by_cases hi:i∈ns
  ·rw[if_pos hi]
  ·rw[if_neg hi];exact f.em i fun x z=>h x (by rw[nu,if_neg hi]; exact z)
def FrV (W:Wd)(E0:Hp)(N:Addr->Prop)(pin:List (Nat×V))(A:Fr)(σ:St)(H:Hp)(x:KD)(v:V):Prop:=
 ∃(fp:List Addr) (F:Nat->List Addr),FrF W E0 (fun b=>N b\/b∈fp) pin A σ H F/\fp.Nodup/\(∀b∈fp,E0 b=none/\¬N b)/\Own W (hid (ak (fun b=>N b\/b∈fp) F) H) H x.1 v x.2 fp
def FrX (W:Wd)(E0:Hp)(N:Addr->Prop)(pin:List (Nat×V))(A:Fr)(σ:St)(H:Hp)(c:Nat)(fs:List (Nat×D))(e:Addr):Prop:=
 ∃(F:Nat->List Addr),FrF W E0 N pin A σ H F/\(E0 e=none/\¬ak N F e)/\∃C vs,H e=some (.exc C false vs)/\W.xA c=some C/\DenF W (hid (ak N F) H) vs fs
theorem pY (f:FrF W E0 N pin A σ H F){H':Hp}(hs:Sub H H'){M:Addr->Prop}(hM:∀b,ak N F b->M b\/∃j,b∈F j){fp:List Addr}:cD W (hid (fun b=>M b\/b∈fp) H') (hid (ak (fun b=>N b\/b∈fp) F) H'):=by
 intro a vs h;rcases h with h | h
 ·refine .inl ?_;have noF:∀j,a∉F j:=fun j z=>by
   have h':Rd H' a (.tup vs):=Rd.sub bj h;cases q:H a with
   | none=>exact f.dom z q
   | some o=>
    have e:=hs a o q;refine f.noTup z vs ?_;rcases h' with h' | ⟨u,h'⟩
    ·rw[e] at h'; cases h'; exact .inl q
    ·rw[e] at h'; cases h'; exact .inr ⟨u,q⟩
  have vis:∀o,hid (fun b=>M b\/b∈fp) H' a=some o->hid (ak (fun b=>N b\/b∈fp) F) H' a=some o:=fun o e=>by
   obtain⟨g1,g2⟩:=ax.mp e;refine ax.mpr ⟨fun z=>?_,g2⟩;rcases z with (z | z) | ⟨j,z⟩
   ·rcases hM a (.inl z) with y | ⟨j,y⟩
    ·exact g1 (.inl y)
    ·exact noF j y
   ·exact g1 (.inr z)
   ·exact noF j z
  rcases h with h | ⟨u,h⟩
  ·exact .inl (vis _ h)
  ·exact .inr ⟨u,vis _ h⟩
 ·exact .inr h
theorem mf (A:Fr):bE A=frz (List.range A.length) A:=by
 apply List.ext_getElem?;intro i;rw[nu];unfold bE;rw[List.getElem?_map];by_cases h:i<A.length
 ·rw[if_pos (List.mem_range.mpr h)]
 ·rw[if_neg fun z=>h (List.mem_range.mp z),List.getElem?_eq_none (by omega)];rfl
theorem FrF.excIn {ns:List Nat}{c:Nat}{fs:List (Nat×D)}{a:Addr}{H':Hp}(f:FrF W E0 N pin A σ H F)(r:ExcR W H (ak N (aU ns F)) H' c fs a):FrX W E0 N pin (excA A fs) σ H' c fs a:=by
 obtain⟨hs,ha,C,vs,hc,hx,hd⟩:=r;have nhid:¬ak N F a:=fun z=>z.elim (fun y=>f.nok a y ha) fun⟨j,y⟩=>f.dom y ha;have g:=f.grow hs (fp:=[]) fun b z=>by simp at z
 have eN:∀b,(N b\/b∈([]:List Addr))↔N b:=fun b=>by simp
 have g0:FrF W E0 N pin A σ H' F:=by
  have:(fun b=>N b\/b∈([]:List Addr))=N:=funext fun b=>propext (eN b);rw[this] at g; exact g
 unfold excA;by_cases hf:(fs.all fun p=>p.2.flat)=true
 ·rw[if_pos hf];refine⟨F,g0,⟨f.sub.none ha,nhid⟩,C,vs,hc,hx,?_⟩;have ts:=pY (M:=ak N (aU ns F)) (fp:=[]) f hs (fun b z=>z.elim (fun y=>.inl (.inl y)) .inr);have e1:(fun b=>ak N (aU ns F) b\/b∈([]:List Addr))=ak N (aU ns F):=funext fun b=>propext (by simp);have e2:(fun b=>N b\/b∈([]:List Addr))=N:=funext fun b=>propext (eN b);rw[e1,e2] at ts;exact hd.hide ts hf
 ·rw[if_neg hf,mf];refine⟨aU (List.range A.length) F,g0.frz _,⟨f.sub.none ha,fun z=>nhid (ky z)⟩,C,vs,hc,hx,hd.mono fun b u e=>?_⟩;obtain⟨g1,g2⟩:=ax.mp e;refine ax.mpr ⟨fun z=>g1 ?_,g2⟩;rcases z with z | ⟨j,z⟩
  ·exact .inl z
  ·obtain⟨z1,z2⟩:=er z;exfalso;have:∃x,A[j]? = some (some x):=by
    by_cases y:∃x,A[j]? = some (some x)
    ·exact y
    ·rw[f.em j fun x w=>y ⟨x,w⟩] at z2; simp at z2
   obtain⟨x,hx⟩:=this;exact z1 (List.mem_range.mpr (cr hx).1)
theorem Own.noE1 (h:d.q1=true):∀{k v fp},Own W S H k v d fp->∀b∈fp,∀C nw ws,H b≠some (.exc C nw ws):=by
 intro k v fp o b hb C nw ws e;cases d with
 | lst ds=>
  cases k with
  | zero=>rw[o.1] at hb; cases hb
  | succ k=>
   obtain⟨a,vs,fq,_,e2,e3,rfl⟩:=o;have z:=(e3.flat_inv (fun _ _ _=>Own.flat_inv) (by rw[Ip.jN]; exact h)).1;subst z;cases List.mem_singleton.mp hb;rw[e2] at e; cases e
 | _=>rw[(Own.flat_inv h o).1] at hb; cases hb
theorem Own.noE2 (h:d.q2=true):∀{k v fp},Own W S H k v d fp->∀b∈fp,∀C nw ws,H b≠some (.exc C nw ws):=by
 intro k v fp o;cases d with
 | ins c ds=>
  cases k with
  | zero=>intro b hb; rw[o.1] at hb; cases hb
  | succ k=>
   obtain⟨a,C',dx,fs,fq,_,e2,_,e3,rfl⟩:=o;intro b hb C nw ws e;rcases bN hb with q | q
   ·rw[q,e2] at e; cases e
   ·exact (e3.re (b:=Ip.D.q1) (Q:=fun _ _ f=>∀b∈f,∀C nw ws,H b≠some (.exc C nw ws)) (fun _ _ _ hb o=>Own.noE1 hb o) h).mem (fun _ _ _ y=>y) b q C nw ws e
 | _=>exact Own.noE1 (by unfold Ip.D.q2 at h; exact h) o
theorem Own.lit (h:cD W S S')(hx:∀b C nw ws,S b=some (.exc C nw ws)->S' b=some (.exc C nw ws))(hl:eO x=true)(o:Own W S H x.1 v x.2 fp):Own W S' H x.1 v x.2 fp:=by
 unfold eO at hl;split at hl
 ·rename_i k a c fs;simp only[Bool.and_eq_true,decide_eq_true_eq] at hl;obtain⟨h1,h2,h3⟩:=hl;have xd:∀{w},Den W S w (.exc c fs)->Den W S' w (.exc c fs):=fun q=>by
   cases q with | exc e hc q=>exact .exc (hx _ _ _ _ e) hc (q.hide h h3)
  dsimp only at o ⊢;rcases Nat.le_one_iff_eq_zero_or_eq_one.mp h1 with rfl | rfl
  ·obtain⟨e,o⟩:=o;cases o with | tup e1 q=>cases q with | cons d1 q=>cases q with | cons d2 q=>cases q with | nil=>exact⟨e,.tup (h _ _ e1) (.cons (d1.hide h h2) (.cons (xd d2) .nil))⟩
  ·obtain⟨u,vs,e1,e2,q⟩:=o;cases q with | cons d1 q=>cases q with | cons d2 q=>cases q with | nil=>exact⟨u,_,e1,h _ _ e2,.cons ⟨d1.1,d1.2.hide h h2⟩ (.cons ⟨d2.1,xd d2.2⟩ .nil)⟩
 ·cases hl
theorem lQ {G:Pg}{cl:Nat->List KD->Ip.Run}{E:St->XK}{Q:VK}{e:Ex}(f:FrF W E0 N pin A σ H F)(h:match Ip.eval G cl A.sl e with
    | .ok x=>∀v H',FrV W E0 N pin (Ip.settle e.names A x) σ H' x v->FrV W E0 N pin (Ip.settleT e.names A x) σ H' x v->Q v H'
    | .exc c fs=>∀a H',FrX W E0 N pin (excA A fs) σ H' c fs a->E σ (.ref a) none H'
    | .bad=>False):az W G cl e E σ H Q:=by
  have f1:=f.frz e.names;have hN:NOk (ak N (aU e.names F)) H:=fun b z=>z.elim (f.nok b) fun⟨j,q⟩=>f1.dom q;refine⟨ak N (aU e.names F),mask e.names A.sl,hN,fun i d hi=>?_,?_⟩
  · obtain⟨h1,h2⟩:=nr hi;obtain⟨k,h3⟩:=lW h2;exact f.see h1 h3
  rw[<-fh (a:=A.sl) e fun i hi=>nV hi];cases q:Ip.eval G cl A.sl e with
  | bad=>rw[q] at h; exact h
  | exc c fs=>
    rw[q] at h;exact fun a H' r=>h a H' (f.excIn r)
  | ok x=>
    rw[q] at h;rintro v H' ⟨hs,fp,nd,hf,o⟩;have hfp:∀b∈fp,H b=none/\H' b≠none:=fun b hb=>⟨hf b hb,o.dom b hb⟩
    have fr:∀b∈fp,E0 b=none/\¬N b:=fun b hb=>⟨f.sub.none (hf b hb),fun z=>f.nok b z (hf b hb)⟩
    have s0:FrV W E0 N pin (Ip.settle e.names A x) σ H' x v:=by
     refine⟨fp,?_⟩;unfold Ip.settle;by_cases hb:D.fb x.1 x.2=true
     · rw[if_pos hb];exact⟨F,f.grow hs hfp,nd,fr,o.hide (pY f hs fun b z=>z.elim (fun y=>.inl (.inl y)) .inr) hb⟩
     · rw[if_neg hb];refine⟨aU e.names F,f1.grow hs hfp,nd,fr,o.mono (fun b u e=>?_) fun _ _ _ e=>e⟩;obtain⟨g1,g2⟩:=ax.mp e;refine ax.mpr ⟨fun z=>g1 ?_,g2⟩;rcases z with (z | z) | z
       · exact .inl (.inl z)
       · exact .inr z
       · exact .inl (.inr z)
    refine h v H' s0 ?_;unfold Ip.settleT;split
    · rename_i hl;rw[Bool.and_eq_true,List.all_eq_true] at hl;refine⟨fp,F,f.grow hs hfp,nd,fr,o.lit (pY f hs fun b z=>z.elim (fun y=>.inl (.inl y)) .inr) (fun b C nw ws eb=>?_) hl.1⟩;obtain⟨g1,g2⟩:=ax.mp eb;refine ax.mpr ⟨fun z=>?_,g2⟩;rcases z with (z | z) | ⟨j,z⟩
      · exact g1 (.inl (.inl z))
      · exact g1 (.inr z)
      · by_cases hj:j∈e.names
        · by_cases y:∃x,A[j]? = some (some x)
          · obtain⟨y,hy⟩:=y;have q2:=hl.2 j hj;unfold Ip.cY at q2;rw[hy] at q2;obtain⟨w,_,o2⟩:=f.rel j y hy;obtain⟨u,hu⟩:=Option.ne_none_iff_exists'.mp (f.dom z);have:=hs b u hu;rw[g2] at this;cases this;exact o2.noE2 q2 b z _ _ _ hu
          · rw[f.em j fun x w=>y ⟨x,w⟩] at z; cases z
        · exact g1 (.inl (.inr ⟨j,by unfold aU; rw[if_neg hj]; exact z⟩))
    · exact s0
theorem ka (f:FrF W E0 N pin A σ H F)(h:match Ip.eval G cl A.sl e with
  | .ok x=>∀v H',FrV W E0 N pin (Ip.settle e.names A x) σ H' x v->Q v H'
  | .exc c fs=>∀a H',FrX W E0 N pin (excA A fs) σ H' c fs a->E σ (.ref a) none H'
  | .bad=>False):az W G cl e E σ H Q:=by
 refine lQ f ?_;revert h
 cases Ip.eval G cl A.sl e with
 | ok x=>exact fun h v H' a _=>h v H' a
 | _=>exact id
end
end L2
end
section
namespace L2
open PySem PySem.Spec PyProof.Rows
open Ip (D KD Ex Op Pg Fn Sl Fr Wk Tg Tb O SL bV bB cE cF cI cS bi fA evals bh excA d9 eJ kB frz aM aY cO ao nD aL bb fE eM noStar aJ ar outs pc? pos? pos?_get ps? bT setFs ci jf df dD)
noncomputable def PostS (W:Wd)(E0:Hp)(N:Addr->Prop)(pin:List (Nat×V))(E:St->XK)(Dn:Ends):O->Prop
 | .nx A=>∀σ H F,FrF W E0 N pin A σ H F->Dn.nx σ H
 | .ret k d A=>∀v σ H,FrV W E0 N pin A σ H (k,d) v->Dn.rt v H
 | .brk A=>∀σ H F,FrF W E0 N pin A σ H F->Dn.bk σ H
 | .cnt A=>∀σ H F,FrF W E0 N pin A σ H F->Dn.ct σ H
 | .exc c fs A=>∀e σ H,FrX W E0 N pin A σ H c fs e->E σ (.ref e) none H
 | .bad=>False
def bt (W:Wd)(G:Pg)(n:Nat)(io:List Nat)(E:St->XK)(s:Ip.S):TS:=fun Dn σ H=>∃(E0:Hp) (N:Addr->Prop) (pin:List (Nat×V)) (A:Fr) (F:Nat->List Addr),(∀p∈pin,p.1∈io)/\FrF W E0 N pin A σ H F/\PostS W E0 N pin E Dn (Ip.exec G (Ip.run G n) io A s)
def dA (W:Wd)(G:Pg)(n:Nat)(io:List Nat)(E:St->XK)(ss:List Ip.S):TS:=fun Dn σ H=>∃(E0:Hp) (N:Addr->Prop) (pin:List (Nat×V)) (A:Fr) (F:Nat->List Addr),(∀p∈pin,p.1∈io)/\FrF W E0 N pin A σ H F/\PostS W E0 N pin E Dn (Ip.execs G (Ip.run G n) io A ss)
section
variable {X:Cx}{W:Wd}{G:Pg}{n:Nat}{io:List Nat}{E:St->XK}{E0:Hp}{N:Addr->Prop}{pin:List (Nat×V)}{A:Fr}{σ:St}{H:Hp}{F:Nat->List Addr}
theorem bX {st:Stmt}:PS X st (bt W G n io E .bad):=fun pins s σ H Dn I ⟨_,_,_,_,_,_,_,h⟩=>by
 rw[Ip.wI] at h; exact h.elim
theorem zk:PSs X [] (dA W G n io E []):=zU.mono fun Dn σ H ⟨_,_,_,_,_,_,f,h⟩=>by
 rw[Ip.sE] at h;exact h _ _ _ f
theorem BL {st:Stmt}{sts:List Stmt}{s:Ip.S}{ss:List Ip.S}(h1:PS X st (bt W G n io E s))(h2:PSs X sts (dA W G n io E ss)):PSs X (st::sts) (dA W G n io E (s::ss)):=
 (yd h1 h2).mono fun Dn σ H ⟨E0,N,pin,A,F,hp,f,h⟩=>by
  refine⟨E0,N,pin,A,F,hp,f,?_⟩;rw[Ip.k8] at h;cases q:Ip.exec G (Ip.run G n) io A s with
  | nx A'=>
   rw[q] at h;exact fun σ' H' F' f'=>⟨E0,N,pin,A',F',hp,f',h⟩
  | ret k d A'=>rw[q] at h; exact h
  | brk A'=>rw[q] at h; exact h
  | cnt A'=>rw[q] at h; exact h
  | exc c fs A'=>rw[q] at h; exact h
  | bad=>rw[q] at h; exact h
theorem FrV.set (f:FrV W E0 N pin A σ H x v)(hi:∀p∈pin,p.1≠i)(hl:i<A.length):∃F,FrF W E0 N pin (A.set i (some x)) (σ.set i (some v)) H F:=by
 obtain⟨fp,F,f,nd,fr,o⟩:=f;have hlt:i < σ.length:=by rw[f.len]; exact hl
 refine⟨fun j=>if j=i then fp else F j,⟨f.sub,fun b z=>f.nok b (.inl z),by rw[List.length_set,List.length_set]; exact f.len,fun p hp=>by rw[List.getElem?_set_ne fun z=>hi p hp z.symm]; exact f.pn p hp,fun j=>?_,fun j k b h1 h2=>?_,fun j b h=>?_,fun j y h=>?_,fun j h=>?_⟩⟩
 ·by_cases z:j=i
  ·rw[if_pos z]; exact nd
  ·rw[if_neg z]; exact f.nd j
 ·by_cases z:j=i
  ·rw[if_pos z] at h1;by_cases y:k=i
   ·rw[z,y]
   ·rw[if_neg y] at h2;exact absurd (.inr h1) (f.fr k b h2).2
  ·rw[if_neg z] at h1;by_cases y:k=i
   ·rw[if_pos y] at h2;exact absurd (.inr h2) (f.fr j b h1).2
   ·rw[if_neg y] at h2;exact f.dj j k b h1 h2
 ·by_cases z:j=i
  ·rw[if_pos z] at h; exact fr b h
  ·rw[if_neg z] at h;exact⟨(f.fr j b h).1,fun y=>(f.fr j b h).2 (.inl y)⟩
 ·have sub:Sub (hid (ak (fun b=>N b\/b∈fp) F) H) (hid (ak N fun j=>if j=i then fp else F j) H):=fun b u e=>by
   obtain⟨g1,g2⟩:=ax.mp e;refine ax.mpr ⟨fun z=>g1 ?_,g2⟩;rcases z with z | ⟨k,z⟩
   ·exact .inl (.inl z)
   ·by_cases y:k=i
    ·simp only[if_pos y] at z; exact .inl (.inr z)
    ·simp only[if_neg y] at z; exact .inr ⟨k,z⟩
  by_cases z:j=i
  ·subst z;rw[List.getElem?_set_self hl] at h;cases h;refine⟨v,List.getElem?_set_self hlt,?_⟩;simp only[if_true];exact o.mono sub fun _ _ _ e=>e
  ·rw[List.getElem?_set_ne fun y=>z y.symm] at h;obtain⟨w,h1,h2⟩:=f.rel j y h;refine⟨w,by rw[List.getElem?_set_ne fun y=>z y.symm]; exact h1,?_⟩;simp only[if_neg z];exact h2.mono sub fun _ _ _ e=>e
 ·by_cases z:j=i
  ·subst z;exact absurd (List.getElem?_set_self hl) (h x)
  ·simp only[if_neg z];exact f.em j fun y w=>h y (by rw[List.getElem?_set_ne fun y=>z y.symm]; exact w)
theorem FrF.weaken (f:FrF W E1 N pin A σ H F)(h:Sub E0 E1):FrF W E0 N pin A σ H F:=
 ⟨h.trans f.sub,f.nok,f.len,f.pn,f.nd,f.dj,fun i b hb=>⟨h.none (f.fr i b hb).1,(f.fr i b hb).2⟩,f.rel,f.em⟩
theorem PostS.strong (h:Sub E0 E1)(p:PostS W E0 N pin E Dn o):PostS W E1 N pin E Dn o:=by
 cases o with
 | nx A=>exact fun σ H F f=>p σ H F (f.weaken h)
 | ret k d A=>exact fun v σ H ⟨fp,F,f,nd,fr,o⟩=>p v σ H ⟨fp,F,f.weaken h,nd,fun b hb=>⟨h.none (fr b hb).1,(fr b hb).2⟩,o⟩
 | brk A=>exact fun σ H F f=>p σ H F (f.weaken h)
 | cnt A=>exact fun σ H F f=>p σ H F (f.weaken h)
 | exc c fs A=>exact fun e σ H ⟨F,f,he,q⟩=>p e σ H ⟨F,f.weaken h,⟨h.none he.1,he.2⟩,q⟩
 | bad=>exact p
theorem nz (f:FrF W E0 N pin A σ H F)(h:PostS W E0 N pin E Dn ((Ip.eval G (Ip.run G n) A.sl e).toO A k))
  (ok:∀x,Ip.eval G (Ip.run G n) A.sl e=.ok x->PostS W E0 N pin E Dn (k x)->∀v H',FrV W E0 N pin (Ip.settle e.names A x) σ H' x v->Q v H'):az W G (Ip.run G n) e E σ H Q:=by
 refine ka f ?_;cases q:Ip.eval G (Ip.run G n) A.sl e with
 | bad=>rw[q] at h; exact h
 | exc c fs=>rw[q] at h; exact fun a H' x=>h a σ H' x
 | ok x=>rw[q] at h; exact ok x q h
theorem p9 (h:bt W G n io E (.set i e) Dn σ H):az W G (Ip.run G n) e E σ H fun v H1=>Dn.nx (σ.set i (some v)) H1:=by
 obtain⟨E0,N,pin,A,F,hp,f,h⟩:=h;rw[Ip.kK] at h;refine nz f h fun x ex hk v H' fv=>?_;unfold bT at hk;by_cases c:io.contains i=false/\i<(Ip.settle e.names A x).length
 ·rw[if_pos c] at hk;obtain⟨F',f'⟩:=fv.set (fun p hp' z=>by have:=hp p hp'; rw[z] at this; have c1:=c.1; simp[this] at c1) c.2;exact hk _ _ _ f'
 ·rw[if_neg c] at hk; exact hk.elim
theorem FrV.drop (h:FrV W E0 N pin A σ H x v):∃F,FrF W E0 N pin A σ H F/\Den W (hid (ak N F) H) v x.2:=by
 obtain⟨fp,F',f',nd,fr,o⟩:=h;refine⟨F',⟨f'.sub,fun b z=>f'.nok b (.inl z),f'.len,f'.pn,f'.nd,f'.dj,fun i b hb=>⟨(f'.fr i b hb).1,fun z=>(f'.fr i b hb).2 (.inl z)⟩,fun i y hy=>?_,f'.em⟩,?_⟩
 ·obtain⟨w,h1,h2⟩:=f'.rel i y hy;refine⟨w,h1,h2.mono (fun b u e=>?_) fun _ _ _ e=>e⟩;obtain⟨g1,g2⟩:=ax.mp e;exact ax.mpr ⟨fun z=>g1 (z.imp .inl id),g2⟩
 ·refine o.den (fun b u e=>?_) fun b hb u e=>ax.mpr ⟨fun z=>?_,e⟩
  ·obtain⟨g1,g2⟩:=ax.mp e;exact ax.mpr ⟨fun z=>g1 (z.imp .inl id),g2⟩
  ·rcases z with z | ⟨j,z⟩
   ·exact (fr b hb).2 z
   ·exact (f'.fr j b z).2 (.inr hb)
theorem qR (h:bt W G n io E (.ex e) Dn σ H):az W G (Ip.run G n) e E σ H fun v H1=>Dn.nx σ H1:=by
 obtain⟨E0,N,pin,A,F,hp,f,h⟩:=h;rw[Ip.nI] at h;refine nz f h fun x ex hk v H' fv=>?_;obtain⟨F',f',_⟩:=fv.drop;exact hk σ H' F' f'
theorem t9 (hv:∀i,e≠.var i)(h:bt W G n io E (.ret e) Dn σ H):az W G (Ip.run G n) e E σ H Dn.rt:=by
 obtain⟨E0,N,pin,A,F,hp,f,h⟩:=h;rw[Ip.og] at h;have e1:Ip.b9 A e (Ip.eval G (Ip.run G n) A.sl e)=(Ip.eval G (Ip.run G n) A.sl e).toO A fun x=>.ret x.1 x.2 (Ip.settle e.names A x):=by
  cases e <;> first | rfl | exact absurd rfl (hv _)
 rw[e1] at h;exact nz f h fun x ex hk v H' fv=>hk v σ H' fv
theorem CD (h:bt W G n io E (.ret (.var i)) Dn σ H):∃v,σ[i]? = some (some v)/\Dn.rt v H:=by
 obtain⟨E0,N,pin,A,F,hp,f,h⟩:=h;rw[Ip.og,Ip.vO] at h;cases q:A[i]? with
 | none=>rw[q] at h; exact h.elim
 | some o=>
  cases o with
  | none=>rw[q] at h; exact h.elim
  | some x=>
   rw[q] at h;obtain⟨v,hv,ow⟩:=f.rel i x q;have hl:i<A.length:=(cr q).1;have eqH:∀b,ak (fun b=>N b\/b∈F i) (aU [i] F) b↔ak N F b:=fun b=>by
    constructor
    ·intro z;rcases z with (z | z) | ⟨j,z⟩
     ·exact .inl z
     ·exact .inr ⟨i,z⟩
     ·exact .inr ⟨j,(er z).2⟩
    ·intro z;rcases z with z | ⟨j,z⟩
     ·exact .inl (.inl z)
     ·by_cases y:j=i
      ·rw[y] at z; exact .inl (.inr z)
      ·exact .inr ⟨j,by unfold aU; rw[if_neg (by simpa using y)]; exact z⟩
   have eqF:ak (fun b=>N b\/b∈F i) (aU [i] F)=ak N F:=funext fun b=>propext (eqH b);refine⟨v,hv,h v σ H ⟨F i,aU [i] F,?_,f.nd i,fun b hb=>f.fr i b hb,by rw[eqF]; exact ow⟩⟩;refine⟨f.sub,fun b z=>z.elim (f.nok b) fun y=>f.dom y,by rw[List.length_set]; exact f.len,f.pn,fun j=>?_,fun j k b h1 h2=>f.dj j k b (er h1).2 (er h2).2,fun j b hb=>?_,fun j y hy=>?_,fun j hj=>?_⟩
   ·unfold aU;split
    ·exact .nil
    ·exact f.nd j
   ·obtain⟨z1,z2⟩:=er hb;refine⟨(f.fr j b z2).1,fun z=>z.elim (f.fr j b z2).2 fun y=>z1 ?_⟩;rw[f.dj j i b z2 y]; simp
   ·by_cases z:j=i
    ·subst z;rw[List.getElem?_set_self hl] at hy; cases hy
    ·rw[List.getElem?_set_ne fun y=>z y.symm] at hy;obtain⟨w,h1,h2⟩:=f.rel j y hy;refine⟨w,h1,?_⟩;have:aU [i] F j=F j:=by unfold aU; rw[if_neg (by simpa using z)]
     rw[this,eqF];exact h2
   ·unfold aU;by_cases z:j=i
    ·rw[if_pos (by simpa using z)]
    ·rw[if_neg (by simpa using z)];exact f.em j fun y w=>hj y (by rw[List.getElem?_set_ne fun y=>z y.symm]; exact w)
theorem DD (f:FrF W E0 N pin A σ H F)(h:PostS W E0 N pin E Dn (((Ip.eval G (Ip.run G n) A.sl e).bl).toO A k))
  (ok:∀b,PostS W E0 N pin E Dn (k b)->∀H',FrF W E0 N pin A σ H' F->Q b H'):bF W G (Ip.run G n) e E σ H Q:=by
 have f1:=f.frz e.names;have hN:NOk (ak N (aU e.names F)) H:=fun b z=>z.elim (f.nok b) fun⟨j,q⟩=>f1.dom q;have grow0:∀H',Sub H H'->FrF W E0 N pin A σ H' F:=fun H' hs=>by
  have g:=f.grow hs (fp:=[]) fun b z=>by simp at z
  have:(fun b=>N b\/b∈([]:List Addr))=N:=funext fun b=>propext (by simp);rw[this] at g; exact g
 refine⟨ak N (aU e.names F),mask e.names A.sl,hN,fun i d hi=>?_,?_⟩
 ·obtain⟨h1,h2⟩:=nr hi;obtain⟨k,h3⟩:=lW h2;exact f.see h1 h3
 rw[<-fh (a:=A.sl) e fun i hi=>nV hi];cases q:Ip.eval G (Ip.run G n) A.sl e with
 | bad=>rw[q] at h; exact h
 | exc c fs=>
  rw[q] at h;exact fun a H' r=>h a σ H' (f.excIn r)
 | ok x=>
  obtain⟨kx,d⟩:=x;rw[q] at h;cases d <;> try (exact h.elim)
  rename_i b;exact fun H' hs=>ok b h H' (grow0 H' hs)
end
section
variable {X:Cx}{W:Wd}{G:Pg}{n:Nat}{io:List Nat}{E:St->XK}{E0:Hp}{N:Addr->Prop}{pin:List (Nat×V)}{A:Fr}{σ:St}{H:Hp}{F:Nat->List Addr}
theorem EG (h:bt W G n io E (.iff c t e) Dn σ H):jF (bF W G (Ip.run G n) c E) (dA W G n io E t) (dA W G n io E e) Dn σ H:=by
 obtain⟨E0,N,pin,A,F,hp,f,h⟩:=h;rw[Ip.ve] at h;unfold jF;refine DD f h fun b hk H' f'=>?_;cases b with
 | true=>rw[if_pos rfl] at hk ⊢; exact⟨E0,N,pin,A,F,hp,f',hk⟩
 | false=>rw[if_neg (by decide)] at hk ⊢; exact⟨E0,N,pin,A,F,hp,f',hk⟩
theorem FrF.set0 (f:FrF W E0 N pin A σ H F)(hd:Den W (hid (ak N F) H) v d)(hi:∀p∈pin,p.1≠i)(hl:i<A.length):FrF W E0 N pin (A.set i (some (0,d))) (σ.set i (some v)) H (aU [i] F):=by
 have hlt:i < σ.length:=by rw[f.len]; exact hl
 refine⟨f.sub,f.nok,by rw[List.length_set,List.length_set]; exact f.len,fun p hp=>by rw[List.getElem?_set_ne fun z=>hi p hp z.symm]; exact f.pn p hp,fun j=>?_,fun j k b h1 h2=>f.dj j k b (er h1).2 (er h2).2,fun j b hb=>f.fr j b (er hb).2,fun j y hy=>?_,fun j hj=>?_⟩
 ·unfold aU;split
  ·exact .nil
  ·exact f.nd j
 ·have sub:Sub (hid (ak N F) H) (hid (ak N (aU [i] F)) H):=fun b u e=>ax.mpr ⟨fun z=>(ax.mp e).1 (ky z),(ax.mp e).2⟩;by_cases z:j=i
  ·subst z;rw[List.getElem?_set_self hl] at hy;cases hy;refine⟨v,List.getElem?_set_self hlt,?_⟩;unfold aU;rw[if_pos (by simp)];exact⟨rfl,hd.mono sub⟩
  ·rw[List.getElem?_set_ne fun y=>z y.symm] at hy;obtain⟨w,h1,h2⟩:=f.rel j y hy;refine⟨w,by rw[List.getElem?_set_ne fun y=>z y.symm]; exact h1,?_⟩;have:aU [i] F j=F j:=by unfold aU; rw[if_neg (by simpa using z)]
   rw[this];exact h2.mono sub fun _ _ _ e=>e
 ·unfold aU;by_cases z:j=i
  ·rw[if_pos (by simpa using z)]
  ·rw[if_neg (by simpa using z)];exact f.em j fun y w=>hj y (by rw[List.getElem?_set_ne fun y=>z y.symm]; exact w)
theorem pR:Sub (hid (ak N F) H) (hid (ak N (aU ns F)) H):=fun b u e=>ax.mpr ⟨fun z=>(ax.mp e).1 (ky z),(ax.mp e).2⟩
theorem nS (hp:∀p∈pin,p.1∈io)(h:io.contains i=false):∀p∈pin,p.1≠i:=fun p hp' z=>by
 have:=hp p hp';rw[z] at this;simp[this] at h
theorem uh (hp:∀p∈pin,p.1∈io)(hQ:∀A F σ,FrF W E0 N pin A σ H F->PostS W E0 N pin E Dn (k A)->Q σ H) :
  ∀{is:List Nat} {vs:List V} {ds:List D} {A:Fr} {σ:St} {F:Nat->List Addr},Dens W (hid (ak N F) H) vs ds->FrF W E0 N pin A σ H F->PostS W E0 N pin E Dn ((setFs io is (ds.map fun d=>(0,d)) A).seq k)->j6 is vs σ H Q
 | [],_,_,A,σ,F,.nil,f,h=>⟨rfl,hQ A F σ f h⟩
 | [],_,_,_,_,_,.cons _ _,_,h=>h.elim
 | _::_,_,_,_,_,_,.nil,_,h=>h.elim
 | i::is,_,_,A,σ,F,.cons hd q,f,h=>by
  refine⟨_,_,rfl,?_⟩;show j6 is _ (σ.set i (some _)) H Q;simp only[List.map_cons,setFs] at h;unfold bT at h;by_cases c:io.contains i=false/\i<A.length
  ·rw[if_pos c] at h;exact uh hp hQ (q.mono pR) (f.set0 hd (nS hp c.1) c.2) h
  ·rw[if_neg c] at h; exact h.elim
theorem sy (hK:W.K=X.K)(hp:∀p∈pin,p.1∈io)(hd:Den W (hid (ak N F) H) v d)(f:FrF W E0 N pin A σ H F)(h:PostS W E0 N pin E Dn ((bB io tg d A).seq k))
  (hQ:∀A F σ,FrF W E0 N pin A σ H F->PostS W E0 N pin E Dn (k A)->Q σ H):gT X.K tg v σ H Q:=by
 cases tg with
 | one i=>
  simp only[bB] at h;unfold bT at h;by_cases c:io.contains i=false/\i<A.length
  ·rw[if_pos c] at h;exact hQ _ _ _ (f.set0 hd (nS hp c.1) c.2) h
  ·rw[if_neg c] at h; exact h.elim
 | many is=>
  cases hd <;> simp only[bB] at h <;> try (exact h.elim)
  rename_i a vs ds h1 h2;refine⟨a,vs,rfl,hK ▸ SqT.sub bj h1,?_,uh hp hQ h2 f h⟩;rw[h2.length];exact len_of h
where
 len_of {E0:Hp} {Dn:Ends} {k:Fr->O}:∀{is:List Nat} {ds:List D} {A:Fr},PostS W E0 N pin E Dn ((setFs io is (ds.map fun d=>(0,d)) A).seq k)->ds.length=is.length
  | [],[],_,_=>rfl
  | [],_::_,_,h=>h.elim
  | _::_,[],_,h=>h.elim
  | i::is,d::ds,A,h=>by
   simp only[List.map_cons,setFs] at h;unfold bT at h;by_cases c:io.contains i=false/\i<A.length
   ·rw[if_pos c] at h;rw[List.length_cons,List.length_cons,len_of h]
   ·rw[if_neg c] at h; exact h.elim
theorem sN (hK:W.K=X.K)(h:bt W G n io E (.setT is e) Dn σ H):az W G (Ip.run G n) e E σ H fun v H1=>gT X.K (.many is) v σ H1 Dn.nx:=by
 obtain⟨E0,N,pin,A,F,hp,f,h⟩:=h;rw[Ip.oX] at h;refine lQ f ?_;cases q:Ip.eval G (Ip.run G n) A.sl e with
 | bad=>rw[q] at h; exact h.elim
 | exc c fs=>rw[q] at h; exact fun a H' x=>h a σ H' x
 | ok x=>
 rw[q] at h;intro v H' _ fv;have hk:PostS W E0 N pin E Dn (Ip.dG io is e A x):=h;obtain⟨F',f',dv⟩:=fv.drop;have sq:∀o:O,(o.seq fun A=>.nx A)=o:=fun o=>by cases o <;> rfl
 have eb:Ip.dG io is e A x=bB io (.many is) x.2 (Ip.settleT e.names A x):=by
  obtain⟨k,d⟩:=x;cases d <;> rfl
 rw[eb,<-sq (bB io (.many is) x.2 (Ip.settleT e.names A x))] at hk;exact sy hK hp dv f' hk fun A F σ f h=>h σ H' F f
theorem EZ (f:FrF W E0 N pin A σ H F)(h:PostS W E0 N pin E Dn ((evals G (Ip.run G n) A.sl it).toO A k))(nb:∀vs,PostS W E0 N pin E Dn (k vs)->∃ds,df wk vs=some ds)
  (ok:∀vs ds,df wk vs=some ds->PostS W E0 N pin E Dn (k vs)->∀J H',Sub H H'->ItD W (ak N (aU (Ex.namess it) F)) H' J ds->R J H'):fK W G (Ip.run G n) wk it E σ H R:=by
 have f1:=f.frz (Ex.namess it);have hN:NOk (ak N (aU (Ex.namess it) F)) H:=fun b z=>z.elim (f.nok b) fun⟨j,q⟩=>f1.dom q;refine⟨ak N (aU (Ex.namess it) F),mask (Ex.namess it) A.sl,hN,fun i d hi=>?_,?_⟩
 ·obtain⟨h1,h2⟩:=nr hi;obtain⟨k,h3⟩:=lW h2;exact f.see h1 h3
 rw[<-zAH (a:=A.sl) it fun i hi=>nV hi];cases q:evals G (Ip.run G n) A.sl it with
 | bad=>rw[q] at h; exact h
 | exc c fs=>rw[q] at h; exact fun a H' r=>h a σ H' (f.excIn r)
 | ok vs=>
  rw[q] at h;obtain⟨ds,e⟩:=nb vs h;simp only[e];exact ok vs ds e h
theorem zr (hK:W.K=X.K)(h:bt W G n io E (.fo tg wk it b) Dn σ H):jC (fK W G (Ip.run G n) wk it E) (gT X.K tg) (dA W G n io E b) Dn σ H:=by
 obtain⟨E0,N,pin,A,F,hp,f,h⟩:=h;rw[Ip.pb] at h;unfold jC;have pre:∀vs,PostS W E0 N pin E Dn (kB G (bb (eJ G (Ip.run G n) io tg b)) wk it A vs)->∃ds,df wk vs=some ds/\ds.length<=SL/\PostS W E0 N pin E Dn (bb (eJ G (Ip.run G n) io tg b) ds (frz (Ex.namess it) A)):=fun vs hv=>by
  unfold kB at hv;cases q:df wk vs with
  | none=>rw[q] at hv; exact hv.elim
  | some ds=>
   rw[q] at hv;simp only at hv;by_cases hl:ds.length<=SL
   ·rw[if_pos hl] at hv; exact⟨ds,rfl,hl,hv⟩
   ·rw[if_neg hl] at hv; exact hv.elim
 refine EZ f h (fun vs hv=>by obtain⟨ds,e,_⟩:=pre vs hv; exact⟨ds,e⟩) fun vs ds e hv J H1 hs hJ=>?_;obtain⟨ds',e',hl,hq⟩:=pre vs hv;rw[e] at e';cases e';have f0:=f.frz (Ex.namess it);have f1:FrF W E0 N pin (frz (Ex.namess it) A) σ H1 (aU (Ex.namess it) F):=by
  have g:=f0.grow hs (fp:=[]) fun b z=>by simp at z
  have:(fun b=>N b\/b∈([]:List Addr))=N:=funext fun b=>propext (by simp);rw[this] at g; exact g
 have hE1:Sub E0 (hid (fun b=>∃j,b∈aU (Ex.namess it) F j) H1):=fun b o eb=>ax.mpr ⟨(fun⟨j,z⟩=>by rw[(f1.fr j b z).1] at eb; cases eb),f1.sub b o eb⟩;have f2:FrF W (hid (fun b=>∃j,b∈aU (Ex.namess it) F j) H1) N pin (frz (Ex.namess it) A) σ H1 (aU (Ex.namess it) F):=
  ⟨bj,f1.nok,f1.len,f1.pn,f1.nd,f1.dj,fun i b hb=>⟨by
   cases q:hid (fun b=>∃j,b∈aU (Ex.namess it) F j) H1 b with
   | none=>rfl
   | some o=>exact absurd ⟨i,hb⟩ (ax.mp q).1,(f1.fr i b hb).2⟩,f1.rel,f1.em⟩
 have hvis:∀b o,hid (ak N (aU (Ex.namess it) F)) H1 b=some o->¬N b/\hid (fun b=>∃j,b∈aU (Ex.namess it) F j) H1 b=some o:=fun b o e=>by
  obtain⟨g1,g2⟩:=ax.mp e;exact⟨fun z=>g1 (.inl z),ax.mpr ⟨fun z=>g1 (.inr z),g2⟩⟩
 generalize hid (fun b=>∃j,b∈aU (Ex.namess it) F j) H1=E1 at hE1 f2 hvis;refine⟨fun i m σ H=>i<=ds.length/\m=ds.length - i/\∃A F,FrF W E1 N pin A σ H F/\PostS W E0 N pin E Dn (bb (eJ G (Ip.run G n) io tg b) (ds.drop i) A),⟨ds.length,Nat.zero_le _,by omega,_,_,f2,by simpa using hq⟩,?_⟩;rintro i m σ1 Hc ⟨hi,rfl,A1,F1,f3,p3⟩;have hsub:Sub (hid (ak N (aU (Ex.namess it) F)) H1) (hid (ak N F1) Hc):=fun b o e=>by
  obtain⟨g1,g2⟩:=hvis b o e;refine ax.mpr ⟨fun z=>?_,f3.sub b o g2⟩;rcases z with z | ⟨j,z⟩
  ·exact g1 z
  ·rw[(f3.fr j b z).1] at g2; cases g2
 have hN3:NOk (ak N F1) Hc:=fun b z=>z.elim (f3.nok b) fun⟨j,q⟩=>f3.dom q;obtain⟨J1,J2⟩:=hJ (ak N F1) Hc hsub hN3 i;by_cases hlt:i<ds.length
 ·have hdrop:ds.drop i=ds[i]::ds.drop (i+1):=List.drop_eq_getElem_cons hlt;rw[hdrop,bb] at p3;obtain⟨Jg,Jy⟩:=J1 ds[i] (by simp[hlt]);refine .inr ⟨Jg,fun σ H=>∃A F,FrF W E1 N pin A σ H F/\PostS W E0 N pin E Dn (bb (eJ G (Ip.run G n) io tg b) (ds.drop (i+1)) A),fun σ' H' ⟨A',F',f',p'⟩=>⟨ds.length - (i+1),by omega,hlt,rfl,A',F',f',p'⟩,fun x H' hy=>?_⟩;obtain⟨s3,dx⟩:=Jy x H' hy;have f4:FrF W E1 N pin A1 σ1 H' F1:=by
   have g:=f3.grow s3 (fp:=[]) fun b z=>by simp at z
   have:(fun b=>N b\/b∈([]:List Addr))=N:=funext fun b=>propext (by simp);rw[this] at g; exact g
  have turn:PostS W E1 N pin E { Dn with nx:=fun σ H=>∃A F,FrF W E1 N pin A σ H F/\PostS W E0 N pin E Dn (bb (eJ G (Ip.run G n) io tg b) (ds.drop (i+1)) A),ct:=fun σ H=>∃A F,FrF W E1 N pin A σ H F/\PostS W E0 N pin E Dn (bb (eJ G (Ip.run G n) io tg b) (ds.drop (i+1)) A),bk:=Dn.nx }
    (eJ G (Ip.run G n) io tg b ds[i] A1):=by
   cases q:eJ G (Ip.run G n) io tg b ds[i] A1 with
   | nx A'=>rw[q] at p3; exact fun σ H F f=>⟨A',F,f,p3⟩
   | cnt A'=>rw[q] at p3; exact fun σ H F f=>⟨A',F,f,p3⟩
   | brk A'=>rw[q] at p3; exact fun σ H F f=>p3 σ H F (f.weaken hE1)
   | ret k d A'=>
    rw[q] at p3;exact PostS.strong (Dn:=Dn) (o:=.ret k d A') hE1 p3
   | exc c fs A'=>
    rw[q] at p3;exact PostS.strong (Dn:=Dn) (o:=.exc c fs A') hE1 p3
   | bad=>rw[q] at p3; exact p3
  unfold eJ at turn;exact sy hK hp dx f4 turn fun A2 F2 σ2 g p=>⟨E1,N,pin,A2,F2,hp,g,p⟩
 ·have e:i=ds.length:=by omega
  subst e;rw[List.drop_of_length_le (Nat.le_refl _),bb] at p3;exact .inl ⟨J2 (aX _),p3 _ _ _ (f3.weaken hE1)⟩
end
section
variable {X:Cx}{W:Wd}{G:Pg}{n:Nat}{io:List Nat}{E:St->XK}{E0:Hp}{N:Addr->Prop}{pin:List (Nat×V)}{A:Fr}{σ:St}{H:Hp}{F:Nat->List Addr}
theorem FrF.upd {fp fx:List Addr}{x:Nat}{l:Addr}{v0:V}{y:KD}{H2:Hp}(f:FrF W E0 (fun b=>N b\/b∈fp) pin A σ H F)(fr:∀b∈fp,E0 b=none/\¬N b)(hl:l∈F x)(hx:x<A.length)(hσ:σ[x]? = some (some v0))(hfx:fx.Nodup)(hin:∀b∈fx,b∈F x\/b∈fp)
  (h12:∀b,b≠l->∀u,H b=some u->H2 b=some u)(h2l:H2 l≠none)(hy:Own W (hid (ak N fun j=>if j=x then fx else F j) H2) H2 y.1 v0 y.2 fx):FrF W E0 N pin (A.set x (some y)) σ H2 fun j=>if j=x then fx else F j:=by
 have l0:E0 l=none:=(f.fr x l hl).1;have mem:∀j b,b∈(if j=x then fx else F j)->(j=x/\b∈fx)\/(j≠x/\b∈F j):=fun j b h=>by
  by_cases z:j=x
  ·rw[if_pos z] at h; exact .inl ⟨z,h⟩
  ·rw[if_neg z] at h; exact .inr ⟨z,h⟩
 refine⟨fun b u e=>h12 b (fun z=>by rw[z,l0] at e; cases e) u (f.sub b u e),fun b z=>?_,by rw[List.length_set]; exact f.len,f.pn,fun j=>?_,fun i j b h1 h2=>?_,fun j b h=>?_,fun j z hz=>?_,fun j hj=>?_⟩
 ·by_cases q:b=l
  ·rw[q]; exact h2l
  ·have:=f.nok b (.inl z);cases e:H b with
   | none=>exact absurd e this
   | some u=>rw[h12 b q u e]; simp
 ·by_cases z:j=x
  ·simp only[if_pos z]; exact hfx
  ·simp only[if_neg z]; exact f.nd j
 ·rcases mem i b h1 with ⟨z1,q1⟩ | ⟨z1,q1⟩ <;> rcases mem j b h2 with ⟨z2,q2⟩ | ⟨z2,q2⟩
  ·rw[z1,z2]
  ·rcases hin b q1 with w | w
   ·exact absurd (f.dj j x b q2 w) z2
   ·exact absurd (.inr w) (f.fr j b q2).2
  ·rcases hin b q2 with w | w
   ·exact absurd (f.dj i x b q1 w) z1
   ·exact absurd (.inr w) (f.fr i b q1).2
  ·exact f.dj i j b q1 q2
 ·rcases mem j b h with ⟨z,q⟩ | ⟨z,q⟩
  ·rcases hin b q with w | w
   ·exact⟨(f.fr x b w).1,fun y=>(f.fr x b w).2 (.inl y)⟩
   ·exact fr b w
  ·exact⟨(f.fr j b q).1,fun y=>(f.fr j b q).2 (.inl y)⟩
 ·by_cases q:j=x
  ·subst q;rw[List.getElem?_set_self hx] at hz;cases hz;exact⟨_,hσ,by simp only[if_true]; exact hy⟩
  ·rw[List.getElem?_set_ne fun y=>q y.symm] at hz;obtain⟨w,h1,h2⟩:=f.rel j z hz;refine⟨w,h1,?_⟩;simp only[if_neg q];refine h2.mono (fun b u e=>?_) fun b hb u e=>h12 b (fun y=>q (f.dj j x b hb (y ▸ hl))) u e;obtain⟨g1,g2⟩:=ax.mp e;have bl:b≠l:=fun y=>g1 (.inr ⟨x,y ▸ hl⟩);refine ax.mpr ⟨fun y=>?_,h12 b bl u g2⟩;rcases y with y | ⟨i,y⟩
   ·exact g1 (.inl (.inl y))
   ·rcases mem i b y with ⟨z1,q1⟩ | ⟨z1,q1⟩
    ·rcases hin b q1 with w | w
     ·exact g1 (.inr ⟨x,w⟩)
     ·exact g1 (.inl (.inr w))
    ·exact g1 (.inr ⟨i,q1⟩)
 ·by_cases q:j=x
  ·subst q;exact absurd (List.getElem?_set_self hx) (hj y)
  ·simp only[if_neg q];exact f.em j fun z w=>hj z (by rw[List.getElem?_set_ne fun y=>q y.symm]; exact w)
theorem OwnL.snoc (h:P v d g):∀{vs ds fp},OwnL P vs ds fp->OwnL P (vs++[v]) (ds++[d]) (fp++g)
 | _,_,_,.nil=>by simpa using OwnL.cons h .nil
 | _,_,_,.cons h0 q=>by
  rw[List.cons_append,List.cons_append,List.append_assoc];exact .cons h0 (OwnL.snoc h q)
theorem Es {x:Nat}{k:Nat}{xs:List D}{v:KD}{w:V}(fv:FrV W E0 N pin A σ H v w)(hx:A[x]? = some (some (k+1,.lst xs))) :
  ∃l ws,σ[x]? = some (some (.ref l))/\H l=some (.lst ws)/\ws.length=xs.length/\∃F',FrF W E0 N pin (A.set x (some (bV k xs v+1,.lst (xs++[v.2])))) σ (upd H l (.lst (ws++[w]))) F':=by
 obtain⟨fp,F,f,nd,fr,o⟩:=fv;obtain⟨z,hσ,l,ws,fq,rfl,e2,e3,e4⟩:=f.rel x _ hx;have hl:l∈F x:=by rw[e4]; exact bD
 have hxl:x<A.length:=(cr hx).1;have ndx:=f.nd x;rw[e4] at ndx;obtain⟨lq,ndq⟩:=List.nodup_cons.mp ndx;have lfp:l∉fp:=fun z=>(f.fr x l hl).2 (.inr z);have qF:∀b∈fq,b∈F x:=fun b hb=>by rw[e4]; exact bw _ hb
 have h12:∀b,b≠l->∀u,H b=some u->(L2.upd H l (.lst (ws++[w]))) b=some u:=fun b nb u e=>by rw[aZ nb]; exact e
 refine⟨l,ws,hσ,e2,e3.length,?_⟩;have deep:∀j,aJ j v=true->(xs.all fun d=>aJ j (k,d))=true->∃F',FrF W E0 N pin (A.set x (some (j+1,.lst (xs++[v.2])))) σ (L2.upd H l (.lst (ws++[w]))) F':=fun j h1 h2=>by
  refine⟨_,f.upd (fx:=l::(fq++fp)) (y:=(j+1,.lst (xs++[v.2]))) fr hl hxl hσ ?_ (fun b hb=>?_) h12 (by rw[bu]; simp) ⟨l,_,fq++fp,rfl,bu,?_,rfl⟩⟩
  ·refine List.nodup_cons.mpr ⟨fun z=>(dk z).elim lq lfp,List.nodup_append.mpr ⟨ndq,nd,fun b hb c hc z=>?_⟩⟩;subst z;exact (f.fr x b (qF b hb)).2 (.inr hc)
  ·rcases bN hb with z | z
   ·rw[z]; exact .inl hl
   ·exact (dk z).imp (qF b) id
  ·have sub:Sub (hid (ak (fun b=>N b\/b∈fp) F) H) (hid (ak N fun i=>if i=x then l::(fq++fp) else F i) (L2.upd H l (.lst (ws++[w])))):=fun b u e=>by
    obtain⟨g1,g2⟩:=ax.mp e;have bl:b≠l:=fun y=>g1 (.inr ⟨x,y ▸ hl⟩);refine ax.mpr ⟨fun y=>?_,h12 b bl u g2⟩;rcases y with y | ⟨i,y⟩
    ·exact g1 (.inl (.inl y))
    ·by_cases z:i=x
     ·simp only[if_pos z] at y;rcases bN y with q | q
      ·exact bl q
      ·rcases dk q with q | q
       ·exact g1 (.inr ⟨x,qF b q⟩)
       ·exact g1 (.inl (.inr q))
     ·simp only[if_neg z] at y;exact g1 (.inr ⟨i,y⟩)
   refine OwnL.snoc ((o.at h1).mono sub fun b hb u e=>h12 b (fun z=>lfp (z ▸ hb)) u e) ?_;have e5:=e3.re (Q:=Own W (hid (ak (fun b=>N b\/b∈fp) F) H) H j) (b:=fun d=>aJ j (k,d)) (fun v d g hb o=>Own.at hb o) h2;exact e5.imp fun v d g hg o=>o.mono sub fun b hb u e=>h12 b (fun z=>lq (z ▸ hg b hb)) u e
 unfold bV;by_cases c1:aJ k v=true
 ·rw[if_pos c1];refine deep k c1 (List.all_eq_true.mpr fun d _=>?_);unfold aJ;simp
 ·rw[if_neg c1];by_cases c2:(xs.all fun d=>aJ v.1 (k,d))=true
  ·rw[if_pos c2];refine deep v.1 ?_ c2;unfold aJ;simp
  ·rw[if_neg c2];refine⟨_,f.upd (fx:=[l]) (y:=(1,.lst (xs++[v.2]))) fr hl hxl hσ (by simp) (fun b hb=>by rw[List.mem_singleton.mp hb]; exact .inl hl) h12 (by rw[bu]; simp) ⟨l,_,[],rfl,bu,OwnL.zero ?_,rfl⟩⟩;have sub:Sub (hid (ak (fun b=>N b\/b∈fp) F) H) (hid (ak N fun i=>if i=x then [l] else F i) (L2.upd H l (.lst (ws++[w])))):=fun b u e=>by
    obtain⟨g1,g2⟩:=ax.mp e;have bl:b≠l:=fun y=>g1 (.inr ⟨x,y ▸ hl⟩);refine ax.mpr ⟨fun y=>?_,h12 b bl u g2⟩;rcases y with y | ⟨i,y⟩
    ·exact g1 (.inl (.inl y))
    ·by_cases z:i=x
     ·simp only[if_pos z] at y; exact bl (List.mem_singleton.mp y)
     ·simp only[if_neg z] at y;exact g1 (.inr ⟨i,y⟩)
   have see:∀b,(b∈fq\/b∈fp)->∀u,H b=some u->hid (ak N fun i=>if i=x then [l] else F i) (L2.upd H l (.lst (ws++[w]))) b=some u:=fun b hb u e=>by
    have bl:b≠l:=fun z=>hb.elim (fun y=>lq (z ▸ y)) fun y=>lfp (z ▸ y);refine ax.mpr ⟨fun y=>?_,h12 b bl u e⟩;rcases y with y | ⟨i,y⟩
    ·rcases hb with q | q
     ·exact (f.fr x b (qF b q)).2 (.inl y)
     ·exact (fr b q).2 y
    ·by_cases z:i=x
     ·simp only[if_pos z] at y; exact bl (List.mem_singleton.mp y)
     ·simp only[if_neg z] at y;rcases hb with q | q
      ·exact z (f.dj i x b y (qF b q))
      ·exact (f.fr i b y).2 (.inr q)
   exact (e3.dens fun v d g hg o=>o.den sub fun b hb u e=>see b (.inl (hg b hb)) u e).append (.cons (o.den sub fun b hb u e=>see b (.inr hb) u e) .nil)
theorem wl (hK:W.K=X.K)(h:bt W G n io E (.mut x [] .append [e]) Dn σ H):cW (fN X.K "list" fc (de x) (cV (az W G (Ip.run G n) e E) dZ)) Dn σ H:=by
 obtain⟨E0,N,pin,A,F,hp,f,h⟩:=h;rw[Ip.nk] at h;by_cases c:cO A[x]? = true
 rotate_left
 ·rw[if_neg c] at h; exact h.elim
 rw[if_pos c] at h;have hs:∃k xs,A[x]? = some (some (k,.lst xs)):=by
  cases q:A[x]? with
  | none=>rw[q] at c; cases c
  | some o=>
   rw[q] at c;cases o with
   | none=>cases c
   | some y=>
    obtain⟨k,d⟩:=y;cases d <;> first | exact⟨k,_,rfl⟩ | cases c
 obtain⟨k,xs,hx⟩:=hs;obtain⟨v,hv,ow⟩:=f.rel x _ hx;have dv:Den W H v (.lst xs):=ow.den bj fun _ _ _ e=>e;unfold cW fN;refine⟨v,hv,?_,?_⟩
 ·cases dv with | @lst l ws _ h1 h2=>?_
  exact .inl ⟨rfl,ws,.inl h1⟩
 simp only[Ip.cM,bh,Ip.R.toO,Ip.R.bind] at h;unfold cV;refine ka f ?_;cases q:Ip.eval G (Ip.run G n) A.sl e with
 | bad=>rw[q] at h; exact h
 | exc c fs=>rw[q] at h; exact fun a H' r=>h a σ H' r
 | ok y=>
  rw[q] at h;simp only[eM] at h;have e1:(if ([y].all fun v=>v.2.fb v.1)=true then A else frz (Ex.namess [e]) A)=Ip.settle e.names A y:=by
   unfold Ip.settle;simp
  rw[e1] at h;intro w H1 fv;cases q2:(Ip.settle e.names A y)[x]? with
  | none=>rw[q2] at h; exact h.elim
  | some o=>
   rw[q2] at h;cases o with
   | none=>exact h.elim
   | some z=>
    obtain⟨k',d⟩:=z;cases k' with
    | zero=>cases d <;> exact h.elim
    | succ k'=>
     cases d <;> try (exact h.elim)
     rename_i ys;simp only[fE,Ip.uE] at h;by_cases hl:ys.length<SL
     ·rw[if_pos hl] at h;obtain⟨l,ws,g1,g2,g3,F',g4⟩:=Es fv q2;rw[hv] at g1;cases g1;exact⟨l,ws,w,rfl,rfl,g2,by rw[g3]; exact dR hl (by decide),h _ _ _ g4⟩
     ·rw[if_neg hl] at h; exact h.elim
end
theorem OwnF.put (nd:att.Nodup)(hn:att[f]? = some n)(h:P v d g):∀{vs ds fp},OwnF att P vs ds fp->(fp++g).Nodup ->
  ∃fz:List Addr,OwnF att P (putF n v vs) (Ip.putF f d ds) fz/\fz.Nodup/\∀b∈fz,b∈fp\/b∈g
 | _,_,_,.nil,hd=>⟨g,by
   have:=OwnF.cons hn h (OwnF.nil (att:=att) (P:=P));rw[List.append_nil] at this;exact this,by simpa using hd,fun b hb=>.inr hb⟩
 | _,_,_,.cons (n:=m) (i:=i) (f:=f0) (g:=g0) hi h0 q,hd=>by
  unfold putF Ip.putF;have hd1:=List.nodup_append.mp hd;have hd2:=List.nodup_append.mp hd1.1;by_cases e:i=f
  ·subst e;have:m=n:=by rw[hn] at hi; exact (bO hi).symm
   subst this;rw[if_pos rfl,if_pos rfl];refine⟨g++g0,.cons hi h q,List.nodup_append.mpr ⟨hd1.2.1,hd2.2.1,fun a ha b hb z=>?_⟩,fun b hb=>?_⟩
   ·exact hd1.2.2 b (bR _ hb) a ha z.symm
   ·rcases dk hb with z | z
    ·exact .inr z
    ·exact .inl (bR _ z)
  ·have nm:m≠n:=fun z=>e (pJ nd hi (by rw[z]; exact hn));rw[if_neg e,if_neg nm];obtain⟨fz,k1,k2,k3⟩:=q.put nd hn h (List.nodup_append.mpr ⟨hd2.2.1,hd1.2.1,fun a ha b hb z=>hd1.2.2 a (bR _ ha) b hb z⟩);refine⟨f0++fz,.cons hi h0 k1,List.nodup_append.mpr ⟨hd2.1,k2,fun a ha b hb z=>?_⟩,fun b hb=>?_⟩
   ·rcases k3 b hb with w | w
    ·exact hd2.2.2 a ha b w z
    ·exact hd1.2.2 a (dP _ ha) b w z
   ·rcases dk hb with z | z
    ·exact .inl (dP _ z)
    ·exact (k3 b z).imp (bR _) id
theorem OwnF.length:∀{vs ds fp},OwnF att P vs ds fp->vs.length=ds.length
 | _,_,_,.nil=>rfl
 | _,_,_,.cons _ _ q=>by rw[List.length_cons,List.length_cons,q.length]
theorem OwnF.zero:∀{vs ds},DenF W S vs ds->OwnF W.att (Own W S H 0) vs ds []
 | _,_,.nil=>.nil
 | _,_,.cons hf h q=>OwnF.cons (f:=[]) (g:=[]) hf ⟨rfl,h⟩ (OwnF.zero q)
section
variable {X:Cx}{W:Wd}{G:Pg}{n:Nat}{io:List Nat}{E:St->XK}{E0:Hp}{N:Addr->Prop}{pin:List (Nat×V)}{A:Fr}{σ:St}{H:Hp}{F:Nat->List Addr}
theorem rp (nda:W.att.Nodup)(hnm:W.att[f]? = some nm)(fr0:FrF W E0 (fun b=>N b\/b∈fp) pin A σ H F)(nd:fp.Nodup)(fr:∀b∈fp,E0 b=none/\¬N b)
  (o:Own W (hid (ak (fun b=>N b\/b∈fp) F) H) H v.1 w v.2 fp)(hxl:x<A.length)(hσ:σ[x]? = some (some (.ref l)))(e4:F x=l::fq)(e3:OwnF W.att (Own W (hid (ak (fun b=>N b\/b∈fp) F) H) H k) ws fs fq)
  (h12:∀b,b≠l->∀u,H b=some u->H2 b=some u)(h2l:H2 l≠none)
  (own:∀j fz S,OwnF W.att (Own W S H2 j) (putF nm w ws) (Ip.putF f v.2 fs) fz->Own W S H2 (j+1) (.ref l) dd (l::fz)) :
  ∃F',FrF W E0 N pin (A.set x (some (bV k (fs.map (·.2)) v+1,dd))) σ H2 F':=by
 have hl:l∈F x:=by rw[e4]; exact bD
 have ndx:=fr0.nd x;rw[e4] at ndx;obtain⟨lq,ndq⟩:=List.nodup_cons.mp ndx;have lfp:l∉fp:=fun z=>(fr0.fr x l hl).2 (.inr z);have qF:∀b∈fq,b∈F x:=fun b hb=>by rw[e4]; exact bw _ hb
 have ndc:(fq++fp).Nodup:=List.nodup_append.mpr ⟨ndq,nd,fun b hb c hc z=>by subst z; exact (fr0.fr x b (qF b hb)).2 (.inr hc)⟩;have sub:∀fz:List Addr,(∀b∈fz,b∈fq\/b∈fp)->Sub (hid (ak (fun b=>N b\/b∈fp) F) H) (hid (ak N fun i=>if i=x then l::fz else F i) H2):=fun fz hz b u e=>by
  obtain⟨g1,g2⟩:=ax.mp e;have bl:b≠l:=fun y=>g1 (.inr ⟨x,y ▸ hl⟩);refine ax.mpr ⟨fun y=>?_,h12 b bl u g2⟩;rcases y with y | ⟨i,y⟩
  ·exact g1 (.inl (.inl y))
  ·by_cases z:i=x
   ·simp only[if_pos z] at y;rcases bN y with q | q
    ·exact bl q
    ·rcases hz b q with q | q
     ·exact g1 (.inr ⟨x,qF b q⟩)
     ·exact g1 (.inl (.inr q))
   ·simp only[if_neg z] at y;exact g1 (.inr ⟨i,y⟩)
 have deep:∀j,aJ j v=true->((fs.map (·.2)).all fun d=>aJ j (k,d))=true->∃F',FrF W E0 N pin (A.set x (some (j+1,dd))) σ H2 F':=fun j h1 h2=>by
  have e5:=e3.re (Q:=Own W (hid (ak (fun b=>N b\/b∈fp) F) H) H j) (b:=fun d=>aJ j (k,d)) (fun v d g hb o=>Own.at hb o) (by rw[List.all_map] at h2; exact h2);obtain⟨fz,k1,k2,k3⟩:=e5.put nda hnm (o.at h1) ndc;have lz:l∉fz:=fun z=>(k3 l z).elim lq lfp;refine⟨_,fr0.upd (fx:=l::fz) (y:=(j+1,dd)) fr hl hxl hσ (List.nodup_cons.mpr ⟨lz,k2⟩) (fun b hb=>?_) h12 h2l (own j fz _ (k1.imp fun v d g hg o=>o.mono (sub fz k3) fun b hb u e=>h12 b (fun z=>lz (z ▸ hg b hb)) u e))⟩;rcases bN hb with z | z
  ·rw[z]; exact .inl hl
  ·exact (k3 b z).imp (qF b) id
 unfold bV;by_cases c1:aJ k v=true
 ·rw[if_pos c1];refine deep k c1 (List.all_eq_true.mpr fun d _=>?_);unfold aJ;simp
 ·rw[if_neg c1];by_cases c2:((fs.map (·.2)).all fun d=>aJ v.1 (k,d))=true
  ·rw[if_pos c2];refine deep v.1 ?_ c2;unfold aJ;simp
  ·rw[if_neg c2];have sub0:=sub [] (fun b z=>by simp at z);have see:∀b,(b∈fq\/b∈fp)->∀u,H b=some u->hid (ak N fun i=>if i=x then [l] else F i) H2 b=some u:=fun b hb u e=>by
    have bl:b≠l:=fun z=>hb.elim (fun y=>lq (z ▸ y)) fun y=>lfp (z ▸ y);refine ax.mpr ⟨fun y=>?_,h12 b bl u e⟩;rcases y with y | ⟨i,y⟩
    ·rcases hb with q | q
     ·exact (fr0.fr x b (qF b q)).2 (.inl y)
     ·exact (fr b q).2 y
    ·by_cases z:i=x
     ·simp only[if_pos z] at y; exact bl (List.mem_singleton.mp y)
     ·simp only[if_neg z] at y;rcases hb with q | q
      ·exact z (fr0.dj i x b y (qF b q))
      ·exact (fr0.fr i b y).2 (.inr q)
   have dn:DenF W (hid (ak N fun i=>if i=x then [l] else F i) H2) (putF nm w ws) (Ip.putF f v.2 fs):=
    (e3.dens fun v d g hg o=>o.den sub0 fun b hb u e=>see b (.inl (hg b hb)) u e).put nda hnm (o.den sub0 fun b hb u e=>see b (.inr hb) u e)
   exact⟨_,fr0.upd (fx:=[l]) (y:=(1,dd)) fr hl hxl hσ (by simp) (fun b hb=>by rw[List.mem_singleton.mp hb]; exact .inl hl) h12 h2l (own 0 [] _ (OwnF.zero dn))⟩
theorem zI (hK:W.K=X.K)(cf:CF W fl)(hk:k∈fl)(hnm:W.att[k]? = some nm)(h:bt W G n io E (.sfld x k e) Dn σ H) :
  gN X.K (de x) (az W G (Ip.run G n) e E) nm Dn σ H\/gc X.K (de x) (az W G (Ip.run G n) e E) nm Dn σ H:=by
 obtain⟨E0,N,pin,A,F,hp,f,h⟩:=h;rw[Ip.yM] at h;cases q:Ip.eval G (Ip.run G n) A.sl e with
 | bad=>rw[q] at h; exact h.elim
 | exc c fs=>
  refine .inl ?_;unfold gN;refine ka f ?_;rw[q] at h ⊢;exact fun a H' r=>h a σ H' r
 | ok v=>
  rw[q] at h;simp only[Ip.R.toO] at h;cases q2:(Ip.settle e.names A v)[x]? with
  | none=>rw[q2] at h; exact h.elim
  | some oo=>
   rw[q2] at h;cases oo with
   | none=>exact h.elim
   | some z=>
    obtain⟨k',d⟩:=z;have hxl:x<(Ip.settle e.names A v).length:=(cr q2).1;cases k' with
    | zero=>cases d <;> exact h.elim
    | succ k'=>
     cases d <;> try (exact h.elim)
     ·rename_i c fs;simp only[Ip.fk] at h;by_cases hl:fs.length<50
      rotate_left
      ·rw[if_neg hl] at h; exact h.elim
      rw[if_pos hl] at h;refine .inl ?_;unfold gN;refine ka f ?_;rw[q];rintro w H1 ⟨fp,F1,f1,nd,fr,o⟩;obtain⟨z,hσ,a,C,dx,ws,fq,rfl,e2,hC,e3,e4⟩:=f1.rel x _ q2;obtain⟨ic,na⟩:=cf.ins c C hC;refine⟨_,hσ,a,C,dx,ws,rfl,e2,hK ▸ ic.cls,hK ▸ na k nm hk hnm,by rw[e3.length]; omega,?_⟩;obtain⟨F',g⟩:=rp (H2:=L2.upd H1 a (.ins C dx (putF nm w ws))) (dd:=.ins c (Ip.putF k v.2 fs)) cf.nd hnm f1 nd fr o hxl hσ e4 e3 (fun b nb u e=>by rw[aZ nb]; exact e) (by rw[bu]; simp)
       (fun j fz S hz=>⟨a,C,dx,_,fz,rfl,bu,hC,hz,rfl⟩)
      exact h _ _ _ g
     ·rename_i c fs;simp only[Ip.fk] at h;by_cases hl:fs.length<50
      rotate_left
      ·rw[if_neg hl] at h; exact h.elim
      rw[if_pos hl] at h;refine .inr ?_;unfold gc;refine ka f ?_;rw[q];rintro w H1 ⟨fp,F1,f1,nd,fr,o⟩;obtain⟨z,hσ,a,C,nw,ws,fq,rfl,e2,hC,e3,e4⟩:=f1.rel x _ q2;obtain⟨ic,na⟩:=cf.exc c C hC.1;obtain⟨fI,tl,T⟩:=ic.xc;refine⟨_,hσ,a,C,fI,tl,nw,ws,rfl,e2,hK ▸ T,hK ▸ na k nm hk hnm,by rw[e3.length]; omega,fun H3 h3 h4=>?_⟩;obtain⟨F',g⟩:=rp (H2:=H3) (dd:=.exc c (Ip.putF k v.2 fs)) cf.nd hnm f1 nd fr o hxl hσ e4 e3 (fun b nb u e=>h4 b u nb e) (by rw[h3]; simp)
       (fun j fz S hz=>⟨a,C,nw,_,fz,rfl,h3,hC,hz,rfl⟩)
      exact h _ _ _ g
end
section
variable {X:Cx}{W:Wd}{G:Pg}{n:Nat}{io:List Nat}{E:St->XK}{E0:Hp}{N:Addr->Prop}{pin:List (Nat×V)}{A:Fr}{σ:St}{H:Hp}{F:Nat->List Addr}
theorem tY (fv:FrV W E0 N pin A σ H v w)(hx:A[x]? = some (some (k+1,.lst xs))) :
  ∃l ws,σ[x]? = some (some (.ref l))/\H l=some (.lst ws)/\ws.length=xs.length/\Dens W H ws xs/\Den W H w v.2 /\
   ∀ws' ds',(∀S,Dens W S ws xs->Den W S w v.2->Dens W S ws' ds')->∃F',FrF W E0 N pin (A.set x (some (1,.lst ds'))) σ (upd H l (.lst ws')) F':=by
 obtain⟨fp,F,f,nd,fr,o⟩:=fv;obtain⟨z,hσ,l,ws,fq,rfl,e2,e3,e4⟩:=f.rel x _ hx;have hl:l∈F x:=by rw[e4]; exact bD
 have hxl:x<A.length:=(cr hx).1;have ndx:=f.nd x;rw[e4] at ndx;obtain⟨lq,ndq⟩:=List.nodup_cons.mp ndx;have lfp:l∉fp:=fun z=>(f.fr x l hl).2 (.inr z);have qF:∀b∈fq,b∈F x:=fun b hb=>by rw[e4]; exact bw _ hb
 refine⟨l,ws,hσ,e2,e3.length,e3.dens fun v d g hg o=>o.den bj fun b hb u e=>e,o.den bj fun b hb u e=>e,fun ws' ds' hd=>?_⟩;have h12:∀b,b≠l->∀u,H b=some u->(L2.upd H l (.lst ws')) b=some u:=fun b nb u e=>by rw[aZ nb]; exact e
 refine⟨_,f.upd (fx:=[l]) (y:=(1,.lst ds')) fr hl hxl hσ (by simp) (fun b hb=>by rw[List.mem_singleton.mp hb]; exact .inl hl) h12 (by rw[bu]; simp) ⟨l,_,[],rfl,bu,OwnL.zero ?_,rfl⟩⟩;have sub:Sub (hid (ak (fun b=>N b\/b∈fp) F) H) (hid (ak N fun i=>if i=x then [l] else F i) (L2.upd H l (.lst ws'))):=fun b u e=>by
  obtain⟨g1,g2⟩:=ax.mp e;have bl:b≠l:=fun y=>g1 (.inr ⟨x,y ▸ hl⟩);refine ax.mpr ⟨fun y=>?_,h12 b bl u g2⟩;rcases y with y | ⟨i,y⟩
  ·exact g1 (.inl (.inl y))
  ·by_cases z:i=x
   ·simp only[if_pos z] at y; exact bl (List.mem_singleton.mp y)
   ·simp only[if_neg z] at y;exact g1 (.inr ⟨i,y⟩)
 have see:∀b,(b∈fq\/b∈fp)->∀u,H b=some u->hid (ak N fun i=>if i=x then [l] else F i) (L2.upd H l (.lst ws')) b=some u:=fun b hb u e=>by
  have bl:b≠l:=fun z=>hb.elim (fun y=>lq (z ▸ y)) fun y=>lfp (z ▸ y);refine ax.mpr ⟨fun y=>?_,h12 b bl u e⟩;rcases y with y | ⟨i,y⟩
  ·rcases hb with q | q
   ·exact (f.fr x b (qF b q)).2 (.inl y)
   ·exact (fr b q).2 y
  ·by_cases z:i=x
   ·simp only[if_pos z] at y; exact bl (List.mem_singleton.mp y)
   ·simp only[if_neg z] at y;rcases hb with q | q
    ·exact z (f.dj i x b y (qF b q))
    ·exact (f.fr i b y).2 (.inr q)
 exact hd _ (e3.dens fun v d g hg o=>o.den sub fun b hb u e=>see b (.inl (hg b hb)) u e) (o.den sub fun b hb u e=>see b (.inr hb) u e)
theorem Den.scal (hs:d.scal=true)(h:Den W S v d):Den W S' v d:=by
 cases h <;> first | exact .non | exact .bl | exact .int | exact .str | (simp[D.scal] at hs)
theorem Dens.scal:∀{vs:List V} {ds:List D},ds.all D.scal=true->Dens W S vs ds->Dens W S' vs ds
 | _,_,_,.nil=>.nil
 | _,_,hs,.cons h q=>by
  rw[List.all_cons,Bool.and_eq_true] at hs;exact .cons (h.scal hs.1) (q.scal hs.2)
theorem zp {x:Nat}(c:cO A[x]? = true):∃k xs,A[x]? = some (some (k,.lst xs)):=by
 cases q:A[x]? with
 | none=>rw[q] at c; cases c
 | some o=>
  rw[q] at c;cases o with
  | none=>cases c
  | some y=>
   obtain⟨k,d⟩:=y;cases d <;> first | exact⟨k,_,rfl⟩ | cases c
theorem BH {x:Nat}{e:Ex}{Dn:Ends}(hK:W.K=X.K)(h:bt W G n io E (.mut x [] .extend [e]) Dn σ H):cW (fN X.K "list" (iF X.K) (de x) (cV (az W G (Ip.run G n) e E) dZ)) Dn σ H:=by
 obtain⟨E0,N,pin,A,F,hp,f,h⟩:=h;rw[Ip.nk] at h;by_cases c:cO A[x]? = true
 rotate_left
 ·rw[if_neg c] at h; exact h.elim
 rw[if_pos c] at h;obtain⟨k,xs,hx⟩:=zp c;obtain⟨v,hv,ow⟩:=f.rel x _ hx;have dv:Den W H v (.lst xs):=ow.den bj fun _ _ _ e=>e;unfold cW fN;refine⟨v,hv,?_,?_⟩
 ·cases dv with | @lst l ws _ h1 h2=>?_
  exact .inl ⟨rfl,ws,.inl h1⟩
 simp only[Ip.cM,bh,Ip.R.toO,Ip.R.bind] at h;unfold cV;refine ka f ?_;cases q:Ip.eval G (Ip.run G n) A.sl e with
 | bad=>rw[q] at h; exact h
 | exc c fs=>rw[q] at h; exact fun a H' r=>h a σ H' r
 | ok y=>
  rw[q] at h;simp only[eM] at h;have e1:(if ([y].all fun v=>v.2.fb v.1)=true then A else frz (Ex.namess [e]) A)=Ip.settle e.names A y:=by
   unfold Ip.settle;simp
  rw[e1] at h;intro w H1 fv;cases q2:(Ip.settle e.names A y)[x]? with
  | none=>rw[q2] at h; exact h.elim
  | some o=>
   rw[q2] at h;cases o with
   | none=>exact h.elim
   | some z=>
    obtain⟨k',d⟩:=z;cases k' with
    | zero=>cases d <;> exact h.elim
    | succ k'=>
     cases d <;> try (exact h.elim)
     rename_i ys;simp only[fE,Ip.ue] at h;obtain⟨j,dy⟩:=y;cases dy <;> try (exact h.elim)
     rename_i zs;simp only at h;by_cases hl:zs.all D.scal=true/\ys.length+zs.length<=SL
     ·rw[if_pos hl] at h;obtain⟨l,ws,g1,g2,g3,g4,g5,g6⟩:=tY fv q2;rw[hv] at g1;cases g1;cases g5 with | @tup b vs _ t1 t2=>?_
      obtain⟨F',g7⟩:=g6 (ws++vs) (ys++zs) fun S hS _=>hS.append (t2.scal hl.1);exact⟨l,b,ws,vs,rfl,rfl,g2,hK ▸ t1,by rw[g3,t2.length]; exact jg hl.2,h _ _ _ g7⟩
     ·rw[if_neg hl] at h; exact h.elim
theorem Dens.setI (h:Den W S v d):∀{vs:List V} {ds:List D} (j:Nat),Dens W S vs ds->Dens W S (vs.set j v) (ds.set j d)
 | _,_,_,.nil=>.nil
 | _,_,0,.cons _ q=>.cons h q
 | _,_,j+1,.cons h0 q=>.cons h0 (q.setI h j)
theorem Dens.at:∀{vs:List V} {ds:List D} (j:Nat),Dens W S vs ds->ds[j]? = some d->∃v,vs[j]? = some v/\Den W S v d
 | _,_,_,.nil,e=>by simp at e
 | v::_,_,0,.cons h q,e=>by
  cases e;exact⟨v,rfl,h⟩
 | _,_,j+1,.cons h0 q,e=>by
  obtain⟨v,e1,e2⟩:=q.at j (by simpa using e);exact⟨v,by simpa using e1,e2⟩
theorem DJ (h:bt W G n io E (.put x [] (.var j) e) Dn σ H):i9 (de x) (de j) (az W G (Ip.run G n) e E) Dn σ H:=by
 obtain⟨E0,N,pin,A,F,hp,f,h⟩:=h;rw[Ip.qp] at h;simp only[List.isEmpty_nil,if_true] at h;unfold i9;refine ka f ?_;cases q:Ip.eval G (Ip.run G n) A.sl e with
 | bad=>rw[q] at h; exact h
 | exc c fs=>rw[q] at h; exact fun a H' r=>h a σ H' r
 | ok y=>
  rw[q] at h;simp only[Ip.R.toO,Ip.gk] at h;cases qj:A.sl[j]? with
  | none=>rw[qj] at h; exact h.elim
  | some oj=>
   cases oj with
   | none=>rw[qj] at h; exact h.elim
   | some dj=>
    rw[qj] at h;simp only at h;intro w H1 fv;cases q2:(Ip.settle e.names A y)[x]? with
    | none=>rw[q2] at h; exact h.elim
    | some o=>
     rw[q2] at h;cases o with
     | none=>exact h.elim
     | some z=>
      obtain⟨k',d⟩:=z;cases k' with
      | zero=>cases d <;> exact h.elim
      | succ k'=>
       cases d <;> try (exact h.elim)
       rename_i ys;simp only[Ip.gP] at h;cases dj <;> try (exact h.elim)
       rename_i i;simp only at h;by_cases hl:0<=i/\i<(ys.length:Int)
       ·rw[if_pos hl] at h;obtain⟨l,ws,g1,g2,g3,g4,g5,g6⟩:=tY fv q2;obtain⟨F',g7⟩:=g6 (ws.set i.toNat w) (ys.set i.toNat y.2) fun S hS hw=>hS.setI hw _;obtain⟨kj,hj⟩:=lW qj;obtain⟨vj,s1,s2⟩:=f.rel j _ hj;have dj:Den W H vj (.int i):=s2.den bj fun _ _ _ e=>e;cases dj;exact⟨.ref l,g1,.int i,s1,l,ws,i,rfl,rfl,g2,hl.1,by rw[g3]; exact hl.2,h _ _ _ g7⟩
       ·rw[if_neg hl] at h; exact h.elim
end
section
variable {X:Cx}{W:Wd}{G:Pg}{n:Nat}{io:List Nat}{E:St->XK}{E0:Hp}{N:Addr->Prop}{pin:List (Nat×V)}{A:Fr}{σ:St}{H:Hp}{F:Nat->List Addr}
theorem FrX.freeze (h:FrX W E0 N pin A σ H c fs e):FrX W E0 N pin (excA A fs) σ H c fs e:=by
 obtain⟨F,f,he,C,vs,h1,h2,h3⟩:=h;unfold excA;split
 ·exact⟨F,f,he,C,vs,h1,h2,h3⟩
 ·rw[mf];exact⟨_,f.frz _,⟨he.1,fun z=>he.2 (ky z)⟩,C,vs,h1,h2,h3.mono pR⟩
theorem wD (hK:W.K=X.K)(cf:CF W fl)(h:bt W G n io E (.rais c es) Dn σ H):eH X.K (az W G (Ip.run G n) (.make c es) E) E Dn σ H:=by
 obtain⟨E0,N,pin,A,F,hp,f,h⟩:=h;rw[Ip.uj] at h;unfold eH;refine nz f h fun x ex hk v H' hZz=>?_;obtain⟨fp,F1,f1,nd,fr,o⟩:=hZz;obtain⟨kx,d⟩:=x;cases kx with
 | zero=>cases d <;> exact hk.elim
 | succ kx=>
  have hd:∃c' fs,d=.exc c' fs:=by
   cases d <;> first | exact⟨_,_,rfl⟩ | exact hk.elim
  obtain⟨c',fs,rfl⟩:=hd;simp only[Ip.fe] at hk;obtain⟨a,C,nw,vs,fq,rfl,e2,⟨hC,hnw⟩,e3,e4⟩:=o;subst hnw;obtain⟨ic,_⟩:=cf.exc c' C hC;obtain⟨fI,tl,T⟩:=ic.xc;have ha:a∈fp:=by rw[e4]; exact bD
  have nd':=nd;rw[e4] at nd';obtain⟨aq,ndq⟩:=List.nodup_cons.mp nd';have up:∀b,b≠a->(L2.upd H' a (.exc C false vs)) b=H' b:=fun b nb=>aZ nb;have sub:Sub (hid (ak (fun b=>N b\/b∈fp) F1) H') (hid (ak N F1) (L2.upd H' a (.exc C false vs))):=fun b u e=>by
   obtain⟨g1,g2⟩:=ax.mp e;have ba:b≠a:=fun z=>g1 (.inl (.inr (z ▸ ha)));refine ax.mpr ⟨fun z=>g1 (z.imp .inl id),by rw[up b ba]; exact g2⟩
  refine⟨a,C,tl,vs,rfl,e2,hK ▸ T.toXO,hk a σ _ (FrX.freeze ⟨F1,?_,⟨(fr a ha).1,fun z=>z.elim (fr a ha).2 fun⟨j,y⟩=>(f1.fr j a y).2 (.inr ha)⟩,C,vs,bu,hC,?_⟩)⟩
  ·refine⟨fun b u e=>?_,fun b z=>?_,f1.len,f1.pn,f1.nd,f1.dj,fun i b hb=>⟨(f1.fr i b hb).1,fun z=>(f1.fr i b hb).2 (.inl z)⟩,fun i y hy=>?_,f1.em⟩
   ·rw[up b fun z=>by rw[z,(fr a ha).1] at e; cases e]; exact f1.sub b u e
   ·by_cases q:b=a
    ·rw[q,bu]; simp
    ·rw[up b q]; exact f1.nok b (.inl z)
   ·obtain⟨w,h1,h2⟩:=f1.rel i y hy;exact⟨w,h1,h2.mono sub fun b hb u e=>by rw[up b fun z=>(f1.fr i b hb).2 (.inr (z ▸ ha))]; exact e⟩
  ·refine e3.dens fun v d g hg o=>o.den sub fun b hb u e=>?_;have bq:=hg b hb;have ba:b≠a:=fun z=>aq (z ▸ bq);have bf:b∈fp:=by rw[e4]; exact bw _ bq
   refine ax.mpr ⟨fun z=>?_,by rw[up b ba]; exact e⟩;rcases z with z | ⟨j,z⟩
   ·exact (fr b bf).2 z
   ·exact (f1.fr j b z).2 (.inr bf)
theorem pE (f:FrF W E0 N pin A σ H F)(h:PostS W E0 N pin E Dn ((evals G (Ip.run G n) A.sl es).toO A k))
  (ok:∀xs,evals G (Ip.run G n) A.sl es=.ok xs->PostS W E0 N pin E Dn (k xs)->∀vs H',FrF W E0 N pin A σ H' F->Dens W H' vs (xs.map (·.2))->Q vs H'):be W G (Ip.run G n) es E σ H Q:=by
 have f1:=f.frz (Ex.namess es);have hN:NOk (ak N (aU (Ex.namess es) F)) H:=fun b z=>z.elim (f.nok b) fun⟨j,q⟩=>f1.dom q;refine⟨ak N (aU (Ex.namess es) F),mask (Ex.namess es) A.sl,hN,fun i d hi=>?_,?_⟩
 ·obtain⟨h1,h2⟩:=nr hi;obtain⟨k,h3⟩:=lW h2;exact f.see h1 h3
 rw[<-zAH (a:=A.sl) es fun i hi=>nV hi];cases q:evals G (Ip.run G n) A.sl es with
 | bad=>rw[q] at h; exact h
 | exc c fs=>rw[q] at h; exact fun a H' r=>h a σ H' (f.excIn r)
 | ok xs=>
  rw[q] at h;intro vs H' r;have g:=f.grow r.1 (fp:=[]) fun b z=>by simp at z
  have:(fun b=>N b\/b∈([]:List Addr))=N:=funext fun b=>propext (by simp);rw[this] at g;exact ok xs q h vs H' g ((r.dens hN).mono bj)
theorem EW (hK:W.K=X.K)(cf:CF W fl)(hl:es.length<=100)(h:bt W G n io E (.xinit es) Dn σ H):cW (eD X.K (be W G (Ip.run G n) es E)) Dn σ H:=by
 obtain⟨E0,N,pin,A,F,hp,f,h⟩:=h;rw[Ip.EL] at h;unfold cW eD;refine pE f h fun xs ex hk vs H' f' dv=>?_;have hlen:=iK ex;match xs,vs,dv,hk with
 | [],_,_,hk=>exact hk.elim
 | (k,d)::xs,v::vs,.cons h1 h2,hk=>
  cases h1 <;> try (exact hk.elim)
  rename_i a C nw c ws ds e1 e2 e3;obtain⟨ic,_⟩:=cf.exc c C e2;obtain⟨fI,tl,T⟩:=ic.xc;refine⟨a,C,fI,tl,nw,ws,vs,rfl,?_,e1,hK ▸ T,hk _ _ _ f'⟩;rw[h2.length,List.length_map];rw[List.length_cons] at hlen;omega
theorem FrX.caught (h:FrX W E0 N pin A σ H c fs e)(hx:∀p∈pin,p.1≠x)(hi:∀p∈pin,p.1≠i)(hix:i≠x)(hl:x<A.length) :
  ∃F,FrF W E0 N pin ((A.set x (some (0,.exc c fs))).set i none) (((σ.set i (some (.ref e))).set x (some (.ref e))).set i none) H F:=by
 obtain⟨F,f,he,C,vs,h1,h2,h3⟩:=h;have hd:Den W (hid (ak N F) H) (.ref e) (.exc c fs):=.exc (ax.mpr ⟨he.2,h1⟩) h2 h3;have g:=f.set0 hd hx hl;have sub:Sub (hid (ak N (aU [x] F)) H) (hid (ak N (aU [i] (aU [x] F))) H):=pR;have e1:((σ.set i (some (.ref e))).set x (some (.ref e))).set i none=(σ.set x (some (.ref e))).set i none:=by
  apply List.ext_getElem?;intro j;by_cases z:i=j
  ·subst z;simp only[List.getElem?_set_self',List.getElem?_set_ne (fun y=>hix y.symm)];simp
  ·rw[List.getElem?_set_ne z,List.getElem?_set_ne z];by_cases y:x=j
   ·subst y;simp[List.getElem?_set]
   ·rw[List.getElem?_set_ne y,List.getElem?_set_ne y,List.getElem?_set_ne z]
 rw[e1];refine⟨aU [i] (aU [x] F),g.sub,g.nok,by simpa using g.len,fun p hp=>by rw[List.getElem?_set_ne fun z=>hi p hp z.symm]; exact g.pn p hp,fun j=>?_,fun j k b q1 q2=>g.dj j k b (er q1).2 (er q2).2,fun j b hb=>g.fr j b (er hb).2,fun j y hy=>?_,fun j hj=>?_⟩
 ·unfold aU;split
  ·exact .nil
  ·exact g.nd j
 ·by_cases z:j=i
  ·subst z;by_cases w:j<(A.set x (some (0,.exc c fs))).length
   ·rw[List.getElem?_set_self w] at hy; cases hy
   ·rw[List.getElem?_eq_none (by rw[List.length_set]; omega)] at hy; cases hy
  ·rw[List.getElem?_set_ne fun y=>z y.symm] at hy;obtain⟨w,k1,k2⟩:=g.rel j y hy;refine⟨w,by rw[List.getElem?_set_ne fun y=>z y.symm]; exact k1,?_⟩;have:aU [i] (aU [x] F) j=aU [x] F j:=by
    show (if j∈[i] then [] else aU [x] F j)=_;rw[if_neg (by simpa using z)]
   rw[this];exact k2.mono sub fun _ _ _ e=>e
 ·by_cases z:j=i
  ·show (if j∈[i] then [] else aU [x] F j)=_;rw[if_pos (by simpa using z)]
  ·show (if j∈[i] then [] else aU [x] F j)=_;rw[if_neg (by simpa using z)];exact g.em j fun y w=>hj y (by rw[List.getElem?_set_ne fun y=>z y.symm]; exact w)
theorem Aj (hcl:∀c' C fs,W.xA c'=some C->ao G (.exc c' fs) (.cls c)=true->∃tl,XO X.K C tl/\Wa∈C::tl)(h:bt W G n io E (.tryE b c i x) Dn σ H) :
  jZ X.K Wa i (fun Ec=>dA W G n io Ec b) (fR (de i) (da x)) Dn σ H:=by
 obtain⟨E0,N,pin,A,F,hp,f,h⟩:=h;rw[Ip.tR] at h;unfold jZ;refine⟨E0,N,pin,A,F,hp,f,?_⟩;cases q:Ip.execs G (Ip.run G n) io A b with
 | nx A'=>rw[q] at h; exact h
 | ret k d A'=>rw[q] at h; exact h
 | brk A'=>rw[q] at h; exact h
 | cnt A'=>rw[q] at h; exact h
 | bad=>rw[q] at h; exact h
 | exc c' fs A'=>
  rw[q] at h;simp only[Ip.gC] at h;by_cases ht:ao G (.exc c' fs) (.cls c)=true
  rotate_left
  ·rw[if_neg ht] at h; exact h.elim
  rw[if_pos ht] at h;unfold bT at h;by_cases c1:io.contains x=false/\x<A'.length
  rotate_left
  ·rw[if_neg c1] at h; exact h.elim
  rw[if_pos c1] at h;simp only[O.seq] at h;by_cases c2:io.contains i=false/\i≠x/\i<(A'.set x (some (0,.exc c' fs))).length
  rotate_left
  ·rw[if_neg c2] at h; exact h.elim
  rw[if_pos c2] at h;intro e σ1 H1 fx;obtain⟨F1,f1,he,C,vs,g1,g2,g3⟩:=id fx;obtain⟨tl,xo,hin⟩:=hcl c' C fs g2 ht;have il:i < σ1.length:=by rw[f1.len]; have:=c2.2.2; rw[List.length_set] at this; exact this
  refine⟨e,C,tl,vs,rfl,g1,xo,hin,.ref e,List.getElem?_set_self il,?_⟩;obtain⟨F2,f2⟩:=fx.caught (nS hp c1.1) (nS hp c2.1) c2.2.1 c1.2;exact h _ _ _ f2
end
section
variable {X:Cx}{W:Wd}{G:Pg}{n:Nat}{io:List Nat}{E:St->XK}{E0:Hp}{N:Addr->Prop}{pin:List (Nat×V)}{A:Fr}{σ:St}{H:Hp}{F:Nat->List Addr}
end
structure GT (W:Wd)(G:Pg)(T:Tb)(mg:Str->Option Value):Prop where
 db:(T.wb == ("__debug__" : Str))=false
 wb:∃Wa tlW,mg T.wb=some (.ref Wa)/\XInit W.K Wa/\XO W.K Wa tlW/\∀c c' C fs,T.cls.lookup T.wb=some c->W.xA c'=some C->ao G (.exc c' fs) (.cls c)=true->∃tl,XO W.K C tl/\Wa∈C::tl
 bare:∀x c,T.bare.lookup x=some c->(x == ("__debug__" : Str))=false/\∃C tl,mg x=some (.ref C)/\W.xA c=some C/\XC W.K C (.builtin "ValueError.__init__") tl/\PySem.W.keepIn W.K (.ref C)=true
structure Gs (W:Wd)(G:Pg)(T:Tb)(n:Nat)(E:St->XK)(sc:Scope)(N:List Str)(X:Cx):Prop where
 gd:Gd W G T n E sc N X
 gt:GT W G T X.mg
 rais:ma X E
 own:PassesOwn (model X.prog X.w) X.A X.env X.xe
 stk:∃L outer,X.stack=X.env::outer/\X.env.frame=some L
 scq:X.env.scope=sc
section
variable {W:Wd}{G:Pg}{T:Tb}{n:Nat}{io:List Nat}{m:Nat}{E:St->XK}{sc:Scope}{N:List Str}{X:Cx}
theorem jL {st:Stmt}{i:Nat}:PS X st (bt W G n io E (.set i .bad)):=fun pins s σ H Dn I ⟨_,_,_,_,_,_,_,h⟩=>by
 rw[Ip.kK,fA] at h; exact h.elim
theorem v8 {st:Stmt}:PS X st (bt W G n io E (.ex .bad)):=fun pins s σ H Dn I ⟨_,_,_,_,_,_,_,h⟩=>by
 rw[Ip.nI,fA] at h; exact h.elim
theorem rC (e:Expr):(∃a b c d,e=.ListComp a b c d)\/(∀T sc N m,cE T sc N m e=.bad)\/∀t l env,swapsWith e t l env=pure false:=by
 cases e <;> first
  | exact .inl ⟨_,_,_,_,rfl⟩
  | exact .inr (.inr fun _ _ _=>rfl)
  | (refine .inr (.inl fun T sc N m=>?_); cases m <;> rfl)
theorem Bh (g:Gs W G T n E sc N X)(x:Str)(p:Pos)(e:Expr)(pos:Pos)(i:Nat)(hl:aY sc x=true)(hi:pos? x N=some i):PS X (.Assign [.Name x p] e pos) (bt W G n io E (.set i (cE T sc N m e))):=by
 obtain⟨l1,l2⟩:=g.gd.loc x hl;have hN:X.N.Nodup:=by rw[g.gd.nm]; exact g.gd.nd
 have hx:X.N[i]? = some x:=by rw[g.gd.nm]; exact pos?_get hi
 rcases rC e with ⟨el,gs,scope,cp,rfl⟩ | hb | hs
 ·have hsw:∃b,swapsWith (.ListComp el gs scope cp) (some (.Name x p)) pos.line X.env=pure b:=⟨_,rfl⟩
  obtain⟨b,hsw⟩:=hsw;cases b with
  | false=>exact (qz hN hx l1 ((eB m).e g.gd _) hsw l2).mono fun Dn σ H h=>p9 h
  | true=>
   cases m with
   | zero=>exact jL
   | succ m=>
    have ih:=eB (W:=W) (G:=G) (T:=T) (n:=n) m;match gs with
    | []=>exact jL
    | ⟨_,_,_,_⟩::_::_=>exact jL
    | [⟨tg,iter,ifs,as⟩]=>
     simp only[Ip.rh];by_cases h:(Ip.cu sc N (Ip.au scope) (Ip.aH N scope) scope&&as == 0&&decide (ifs.length<=1))=true
     rotate_left
     ·rw[if_neg h]; exact jL
     rw[if_pos h];simp only[Bool.and_eq_true,beq_iff_eq,decide_eq_true_eq] at h;obtain⟨⟨hb,has⟩,hln⟩:=h;subst has;cases ht:ci scope (Ip.au scope) tg with
     | none=>exact jL
     | some t=>
      by_cases h2:(dD (cI T sc N m iter).1 t&&(Ip.cq t).all (fun i=>(Ip.aH N scope)[i]? == some none))=true
      rotate_left
      ·simp only[h2]; exact jL
      simp only[h2,if_true];rw[Bool.and_eq_true] at h2;rcases qN iter with ⟨a,b,c,rfl⟩ | hs
      ·rintro pins s σ H Dn I ⟨_,_,_,_,_,_,_,q⟩;rw[Ip.kK,Ip.kh,oA,bh,fA] at q;exact q.elim
      ·have cp:=tQ (e:=el) ih g.gd hb hln ht h2.1 h2.2;exact (xb g.gd.calm cp.hS hN hx l1 cp.hi cp.hg cp.ht cp.he hsw l2 (hs X.env)).mono fun Dn σ H h=>tD g.gd.K cp.hx (p9 h)
 ·rw[hb]; exact jL
 ·exact (qz hN hx l1 ((eB m).e g.gd e) (hs _ _ _) l2).mono fun Dn σ H h=>p9 h
theorem vU (g:Gs W G T n E sc N X)(e:Expr)(pos:Pos)(hl:∀a b c d,e≠.ListComp a b c d):PS X (.Expr e pos) (bt W G n io E (.ex (cE T sc N m e))):=by
 rcases rC e with ⟨a,b,c,d,rfl⟩ | hb | hs
 ·exact absurd rfl (hl a b c d)
 ·rw[hb]; exact v8
 ·exact (mX ((eB m).e g.gd e) (hs _ _ _)).mono fun Dn σ H h=>qR h
theorem sm (e:Expr)(l:Nat)(env:Env):swapsWith e (some (.Attribute o f p)) l env=pure false:=by
 cases e <;> rfl
theorem wB (g:Gs W G T n E sc N X)(es:List Expr)(k:Nat)(tp:Pos)(e:Expr)(pos:Pos)(is:List Nat)(hc:Ip.eG e=true)(ht:ci sc N (.Tuple es k tp)=some (.many is)):PS X (.Assign [.Tuple es k tp] e pos) (bt W G n io E (.setT is (cE T sc N m e))):=by
 cases e with
 | Call f args kws cp=>exact (vp ((eB m).e g.gd _) (nv g.gd ht)).mono fun Dn σ H h=>sN g.gd.K h
 | Name x p=>exact (vp ((eB m).e g.gd _) (nv g.gd ht)).mono fun Dn σ H h=>sN g.gd.K h
 | _=>cases hc
theorem zg (g:Gs W G T n E sc N X)(x:Str)(xp:Pos)(f:Str)(ap:Pos)(e:Expr)(pos:Pos)(k j:Nat)(hv:aL sc x=true)(hok:ar x=true)(hk:pos? x N=some k)(hj:pos? f T.att=some j)(hf:T.fl.contains j=true) :
  PS X (.Assign [.Attribute (.Name x xp) f ap] e pos) (bt W G n io E (.sfld k j (cE T sc N m e))):=by
 unfold ar at hok;simp only[Bool.and_eq_true,Bool.not_eq_true'] at hok;have hx:X.N[k]? = some x:=by rw[g.gd.nm]; exact pos?_get hk
 have po:=nq (pos:=xp) hx (g.gd.vis x hv) hok.1 hok.2;have he:=(eB m).e g.gd e;have r1:=AY (f:=f) (pos:=pos) (pos':=ap) po he (sm e _ _);have r2:=xU (m:=f) (pos:=pos) (pos':=ap) po he (sm e _ _);intro pins s σ H Dn I h;have hnm:W.att[j]? = some f:=by rw[g.gd.gf.att]; exact pos?_get hj
 rcases zI g.gd.K g.gd.gf.cf (by simpa using hf) hnm h with q | q
 ·exact r1 pins s σ H Dn I q
 ·exact r2 pins s σ H Dn I q
end
section
variable {W:Wd}{G:Pg}{T:Tb}{n:Nat}{io:List Nat}{m:Nat}{E:St->XK}{sc:Scope}{N:List Str}{X:Cx}
theorem okN (h:ar x=true):(x == ("__debug__" : Str))=false/\(x == ("__classdict__" : Str))=false:=by
 unfold ar at h;simp only[Bool.and_eq_true,Bool.not_eq_true'] at h;exact h
theorem lH (g:Gs W G T n E sc N X)(hv:aL sc x=true)(hok:ar x=true)(hi:pos? x N=some i):PE X (.Name x p) (de i):=
 nq (by rw[g.gd.nm]; exact pos?_get hi) (g.gd.vis x hv) (okN hok).1 (okN hok).2
theorem AO (g:Gs W G T n E sc N X)(e:Expr)(pos:Pos)(h:¬nD (cE T sc N m e)=true):PS X (.Return (some e) pos) (bt W G n io E (.ret (cE T sc N m e))):=
 (uU ((eB m).e g.gd e)).mono fun Dn σ H=>t9 fun i z=>h (by rw[z]; rfl)
theorem Cr (g:Gs W G T n E sc N X)(x:Str)(p pos:Pos)(i:Nat)(hv:aL sc x=true)(hok:ar x=true)(hi:pos? x N=some i):PS X (.Return (some (.Name x p)) pos) (bt W G n io E (.ret (.var i))):=
 (uU (lH g hv hok hi)).mono fun Dn σ H h=>CD h
theorem ED (pos:Pos):PS X (.Return none pos) (bt W G n io E (.ret (.cst .non))):=
 Bq.mono fun Dn σ H h=>by
  obtain⟨N0,a,hN,hS,h⟩:=t9 (fun i=>by simp) h;rw[Ip.kl] at h;exact h _ _ (Res.of_flat (Sub.refl _) rfl .non)
theorem ut (ns:noStar (e::es)=true)(hl:es.length<29):((backTo cp (starEach (e::es) env)).all (fun x=>!x.1)&&(backToKw cp (keywordEach [] env)).all (fun x=>x.1.isSome)
   && decide ((e::es).length+([]:List Keyword).length+(if ([]:List Keyword).isEmpty then 0 else 1)<30))=true:=by
 rw[mN ns];show (true&&true&&decide (es.length+1+0+0<30))=true;rw[decide_eq_true (by omega)]; rfl
theorem zj (g:Gs W G T n E sc N X)(x:Str)(xp mp cp pos:Pos)(e:Expr)(i:Nat)(hv:aL sc x=true)(hok:ar x=true)(hi:pos? x N=some i)(ns:noStar [e]=true)(hp:(mp.endLine == cp.line)=true) :
  PS X (.Expr (.Call (.Attribute (.Name x xp) "append" mp) [e] [] cp) pos) (bt W G n io E (.mut i [] .append [cE T sc N m e])):=by
 have s1:=(dU ns).1;exact (mX (mh PySem.F.plainAttrs_list PySem.F.slot_list_append PySem.F.type_list_append sd (lH g hv hok hi) (iG ((eB m).e g.gd e) km (di s1)) rfl (ut ns (by decide)) hp (di s1) rfl) rfl).mono fun Dn σ H h=>wl g.gd.K h
theorem CM (g:Gs W G T n E sc N X)(x:Str)(xp mp cp pos:Pos)(e:Expr)(i:Nat)(hv:aL sc x=true)(hok:ar x=true)(hi:pos? x N=some i)(ns:noStar [e]=true)(hp:(mp.endLine == cp.line)=true) :
  PS X (.Expr (.Call (.Attribute (.Name x xp) "extend" mp) [e] [] cp) pos) (bt W G n io E (.mut i [] .extend [cE T sc N m e])):=by
 have s1:=(dU ns).1;exact (mX (mh PySem.F.plainAttrs_list PySem.F.slot_list_extend PySem.F.type_list_extend yE (lH g hv hok hi) (iG ((eB m).e g.gd e) km (di s1)) rfl (ut ns (by decide)) hp (di s1) rfl) rfl).mono fun Dn σ H h=>BH g.gd.K h
theorem wE (g:Gs W G T n E sc N X)(x j:Str)(xp jp sp pos:Pos)(e:Expr)(i k:Nat)(hv:aL sc x=true)(hok:ar x=true)(hi:pos? x N=some i)(hv2:aL sc j=true)(hok2:ar j=true)(hk:pos? j N=some k) :
  PS X (.Assign [.Subscript (.Name x xp) (.Name j jp) sp] e pos) (bt W G n io E (.put i [] (.var k) (cE T sc N m e))):=
 (B1 (lH g hv hok hi) (lH g hv2 hok2 hk) ((eB m).e g.gd e) (by cases e <;> rfl)).mono fun Dn σ H h=>DJ h
theorem yT (g:Gs W G T n E sc N X)(xp mp cp pos:Pos)(e:Expr)(es:List Expr)(hg:aM sc T.wb=true)(ns:noStar (e::es)=true)(hl:es.length<29)(hp:mp.endLine=cp.line) :
  PS X (.Expr (.Call (.Attribute (.Name T.wb xp) "__init__" mp) (e::es) [] cp) pos) (bt W G n io E (.xinit ((e::es).map (cE T sc N m)))):=by
 obtain⟨Wa,tlW,hm,XI,XW,_⟩:=g.gt.wb;obtain⟨s1,s2⟩:=dU ns;exact (mX (AC (g.gd.K ▸ XI) (g.gd.gl _ hg) hm ((eB m).args g.gd (e::es)) g.gt.db (di s1) (kz s2) (td rfl ns (by rw[List.length_cons]; omega) hp)) rfl).mono fun Dn σ H h=>
  EW g.gd.K g.gd.gf.cf (by rw[List.length_map,List.length_cons]; omega) h
theorem EX (g:Gs W G T n E sc N X)(x:Str)(args:List Expr)(p cp pos:Pos)(c:Nat)(hg:aM sc x=true)(ns:noStar args=true)(hc:T.cls.lookup x=some c):PS X (.Raise (some (.Call (.Name x p) args [] cp)) none pos) (bt W G n io E (.rais c (args.map (cE T sc N m)))):=
 (ua g.gd.calm g.rais (vF (eB m) g.gd x args p cp c hg hc ns)).mono fun Dn σ H h=>wD g.gd.K g.gd.gf.cf h
theorem CH (g:Gs W G T n E sc N X)(x:Str)(p cp pos:Pos)(c:Nat)(hg:aM sc x=true)(hc:T.bare.lookup x=some c):PS X (.Raise (some (.Call (.Name x p) [] [] cp)) none pos) (bt W G n io E (.raisV c)):=by
 obtain⟨db,C,tl,hm,hC,xc,kp⟩:=g.gt.bare x c hc;refine (ua g.gd.calm g.rais (ya (g.gd.K ▸ xc) (g.gd.K ▸ kp) (g.gd.gl _ hg) hm db)).mono fun Dn σ H hZz=>?_;obtain⟨E0,N,pin,A,F,_,f,h⟩:=hZz;rw[Ip.uR] at h;intro a ha;refine⟨a,C,tl,[],rfl,bu,g.gd.K ▸ xc.toXO,h a σ _ (f.excIn (ns:=[]) ⟨fun b u e=>?_,ha,C,[],bu,hC,.nil⟩)⟩;have nb:b≠a:=fun z=>by rw[z,ha] at e; cases e
 rw[aZ nb,aZ nb]; exact e
def ii (W:Wd)(G:Pg)(T:Tb)(n m:Nat):Prop:=∀{io:List Nat} {E:St->XK} {sc:Scope} {N:List Str} {X:Cx},Gs W G T n E sc N X->∀st,PS X st (bt W G n io E (cS T sc N m st))
theorem kQ (ih:ii W G T n m)(g:Gs W G T n E sc N X):∀sts:List Stmt,PSs X sts (dA W G n io E (sts.map (cS T sc N m)))
 | []=>zk
 | st::sts=>BL (ih g st) (kQ ih g sts)
theorem qE (ih:ii W G T n m)(g:Gs W G T n E sc N X)(c:Expr)(a b:List Stmt)(pos:Pos):PS X (.If c a b pos) (bt W G n io E (.iff (Ip.cT T sc N m c) (a.map (cS T sc N m)) (b.map (cS T sc N m)))):=
 (Au ((eB m).t g.gd c) (kQ ih g a) (kQ ih g b)).mono fun Dn σ H h=>EG h
theorem EF {st:Stmt}{tg:Tg}{wk:Wk}{b:List Ip.S}:PS X st (bt W G n io E (.fo tg wk [.bad] b)):=fun pins s σ H Dn I ⟨_,_,_,_,_,_,_,h⟩=>by
 rw[Ip.pb,bh,fA] at h; exact h.elim
theorem DE (ih:ii W G T n m)(g:Gs W G T n E sc N X)(tg it:Expr)(b:List Stmt)(pos:Pos)(t:Tg)(ht:ci sc N tg=some t)(hw:dD (cI T sc N m it).1 t=true) :
  PS X (.For tg it b [] pos) (bt W G n io E (.fo t (cI T sc N m it).1 (cI T sc N m it).2 (b.map (cS T sc N m)))):=by
 rcases qN it with ⟨a,b',c,rfl⟩ | hs
 ·rw[oA]; exact EF
 ·exact (z9 g.own g.gd.calm ((eB m).i g.gd tg it (tW ht hw)) (nv g.gd ht) (kQ ih g b) (hs X.env)).mono fun Dn σ H h=>zr g.gd.K h
theorem Ax (ih:ii W G T n m)(g:Gs W G T n E sc N X)(b:List Stmt)(cp xp yp hp ap pos:Pos)(e x:Str)(k i j:Nat)(hg:aM sc T.wb=true)(hk:T.cls.lookup T.wb=some k)(hi:pos? e N=some i)(hj:pos? x N=some j)(hl:aY sc x=true)(he:sc.names.lookup e=some .local)(hok:ar e=true) :
  PS X (.Try b [.ExceptHandler (some (.Name T.wb cp)) (some e) [.Assign [.Name x xp] (.Name e yp) ap] hp] [] [] pos) (bt W G n io E (.tryE (b.map (cS T sc N m)) k i j)):=by
 obtain⟨Wa,tlW,hm,XI,XW,hcl⟩:=g.gt.wb;have hN:X.N.Nodup:=by rw[g.gd.nm]; exact g.gd.nd
 have hiX:X.N[i]? = some e:=by rw[g.gd.nm]; exact pos?_get hi
 have hjX:X.N[j]? = some x:=by rw[g.gd.nm]; exact pos?_get hj
 have heX:X.env.scope.names.lookup e=some .local:=by rw[g.scq]; exact he
 obtain⟨l1,l2⟩:=g.gd.loc x hl;refine (EU (tb:=fun Ec=>dA W G n io Ec (b.map (cS T sc N m))) (ts:=fR (de i) (da j)) hN hiX heX g.stk (g.gd.K ▸ XW) (g.gd.gl _ hg) hm (fun xe pn Ec ps rt po=>?_) (fun a=>?_) g.gt.db).mono fun Dn σ H h=>Aj (fun c' C fs h1 h2=>g.gd.K ▸ hcl k c' C fs hk h1 h2) h
 ·refine kQ (X:=X.tryCx xe pn) ih ?_ b;have gd':Gd W G T n Ec sc N (X.tryCx xe pn):=⟨g.gd.gf,g.gd.K,g.gd.vis,g.gd.loc,g.gd.gl,g.gd.fr,g.gd.nm,g.gd.nd,g.gd.calm,ps,g.gd.room⟩
  exact⟨gd',g.gt,rt,po,g.stk,g.scq⟩
 ·exact w6 (qz (X:=X.markCx a) hN hjX l1 (nq (X:=X.markCx a) hiX (.inl heX) (okN hok).1 (okN hok).2) rfl l2)
theorem ps?_or:ps? x N f=.bad\/∃i,pos? x N=some i/\ps? x N f=f i:=by
 unfold ps?;cases pos? x N with
 | none=>exact .inl rfl
 | some i=>exact .inr ⟨i,rfl,rfl⟩
theorem pc?_or:pc? T x f=.bad\/∃i,T.cls.lookup x=some i/\pc? T x f=f i:=by
 unfold pc?;cases T.cls.lookup x with
 | none=>exact .inl rfl
 | some i=>exact .inr ⟨i,rfl,rfl⟩
theorem pq {st:Stmt}{x:Str}{N:List Str}{f:Nat->Ip.S}(h:∀i,pos? x N=some i->PS X st (bt W G n io E (f i))):PS X st (bt W G n io E (ps? x N f)):=by
 rcases ps?_or (x:=x) (N:=N) (f:=f) with q | ⟨i,hi,q⟩
 ·rw[q]; exact bX
 ·rw[q]; exact h i hi
theorem tJ {st:Stmt}{x:Str}{f:Nat->Ip.S}(h:∀i,T.cls.lookup x=some i->PS X st (bt W G n io E (f i))):PS X st (bt W G n io E (pc? T x f)):=by
 rcases pc?_or (T:=T) (x:=x) (f:=f) with q | ⟨i,hi,q⟩
 ·rw[q]; exact bX
 ·rw[q]; exact h i hi
theorem Ap (g:Gs W G T n E sc N X)(ts:List Expr)(e:Expr)(pos:Pos):PS X (.Assign ts e pos) (bt W G n io E (cS T sc N (m+1) (.Assign ts e pos))):=by
 rw[Ip.De];cases ts with
 | nil=>exact bX
 | cons t r=>
  unfold Ip.jV;dsimp only;by_cases hr:r.isEmpty=true
  rotate_left
  ·rw[if_neg hr]; exact bX
  rw[if_pos hr];obtain rfl:=List.isEmpty_iff.mp hr;cases q1:Ip.bv t with
  | some x=>
   obtain⟨p1,rfl⟩:=Ip.gq q1;dsimp only;by_cases hl:aY sc x=true
   ·rw[if_pos hl]; exact pq fun i hi=>Bh g _ _ e pos i hl hi
   ·rw[if_neg hl]; exact bX
  | none=>
   dsimp only;cases q2:Ip.i7 t with
   | some xj=>
    obtain⟨x,j⟩:=xj;obtain⟨p1,p2,p3,rfl⟩:=Ip.Ac q2;dsimp only;by_cases hl:(aL sc x&&ar x&&aL sc j&&ar j)=true
    ·rw[if_pos hl];simp only[Bool.and_eq_true] at hl;obtain⟨⟨⟨h1,h2⟩,h3⟩,h4⟩:=hl;refine pq fun k hk=>?_;refine pq fun j hj=>?_;exact wE g _ _ _ _ _ pos e k j h1 h2 hk h3 h4 hj
    ·rw[if_neg hl]; exact bX
   | none=>
    dsimp only;cases q3:Ip.jG t with
    | none=>
     dsimp only;cases q4:Ip.jl t with
     | none=>exact bX
     | some u=>
      obtain⟨es,k,tp⟩:=u;obtain rfl:=Ip.zt q4;dsimp only;by_cases hc:Ip.eG e=true
      rotate_left
      ·rw[if_neg hc]; exact bX
      rw[if_pos hc];split
      ·rename_i ht;exact wB g _ _ _ e pos _ hc ht
      ·exact bX
    | some xf=>
     obtain⟨x,f⟩:=xf;obtain⟨p1,p2,rfl⟩:=Ip.AS q3;dsimp only;by_cases hl:(aL sc x&&ar x)=true
     rotate_left
     ·rw[if_neg hl]; exact bX
     rw[if_pos hl];rw[Bool.and_eq_true] at hl;refine pq fun k hk=>?_;refine pq fun j hj=>?_;by_cases hf:T.fl.contains j=true
     ·simp only[hf,if_true];exact zg g _ _ _ _ e pos k j hl.1 hl.2 hk hj hf
     ·simp only[hf]; exact bX
theorem wN (g:Gs W G T n E sc N X)(e:Expr)(pos:Pos):PS X (.Expr e pos) (bt W G n io E (cS T sc N (m+1) (.Expr e pos))):=by
 rw[Ip.A3];unfold Ip.jO;cases qm:Ip.jz e with
 | some t=>
  obtain⟨x,mm,mp,args,cp⟩:=t;obtain⟨xp,rfl⟩:=Ip.AQ qm;dsimp only;split
  ·rename_i hc;simp only[Bool.and_eq_true,beq_iff_eq] at hc;obtain⟨⟨h1,h2⟩,rfl⟩:=hc;unfold Ip.lK;split
   ·split
    ·rename_i a hd;rw[Bool.and_eq_true] at hd;refine pq fun k hk=>?_;exact zj g _ _ _ _ _ _ _ h1 h2 hk hd.1 hd.2
    ·exact bX
   ·exact bX
  ·split
   ·rename_i hc;simp only[Bool.and_eq_true,beq_iff_eq] at hc;obtain⟨⟨h1,h2⟩,rfl⟩:=hc;unfold Ip.lE;split
    ·split
     ·rename_i hd;rw[Bool.and_eq_true] at hd;refine pq fun k hk=>?_;exact CM g _ _ _ _ _ _ _ h1 h2 hk hd.1 hd.2
     ·exact bX
    ·exact bX
   split
   ·rename_i hc;unfold Ip.u6 at hc;simp only[Bool.and_eq_true,beq_iff_eq] at hc;obtain⟨⟨h1,rfl⟩,rfl⟩:=hc;unfold Ip.lC;split
    ·exact bX
    ·split
     ·rename_i hd;simp only[Bool.and_eq_true,beq_iff_eq,decide_eq_true_eq] at hd;exact yT g _ _ _ _ _ _ h1 hd.1.1 hd.1.2 hd.2
     ·exact bX
   ·exact vU g _ pos fun _ _ _ _ z=>by cases z
 | none=>
  dsimp only;by_cases hL:Ip.mo e=true
  ·rw[if_pos hL]; exact bX
  rw[if_neg hL];exact vU g e pos fun _ _ _ _ z=>hL (by rw[z]; rfl)
theorem yj (g:Gs W G T n E sc N X)(o:Option Expr)(pos:Pos):PS X (.Return o pos) (bt W G n io E (cS T sc N (m+1) (.Return o pos))):=by
 rw[Ip.DY];cases o with
 | none=>exact ED pos
 | some e=>
  unfold Ip.jh;dsimp only;cases q1:Ip.bv e with
  | some x=>
   obtain⟨p,rfl⟩:=Ip.gq q1;dsimp only;by_cases hc:(aL sc x&&ar x)=true
   ·rw[if_pos hc];rw[Bool.and_eq_true] at hc;refine pq fun k hk=>?_;exact Cr g _ _ pos k hc.1 hc.2 hk
   ·rw[if_neg hc]; exact bX
  | none=>
   dsimp only;by_cases hb:nD (cE T sc N m e)=true
   ·rw[if_pos hb]; exact bX
   ·rw[if_neg hb]; exact AO g e pos hb
theorem Et (ih:ii W G T n m)(g:Gs W G T n E sc N X)(tg it:Expr)(b els:List Stmt)(pos:Pos):PS X (.For tg it b els pos) (bt W G n io E (cS T sc N (m+1) (.For tg it b els pos))):=by
 simp only[Ip.wA,Ip.jA];split
 ·exact bX
 ·split
  ·rename_i ht;split
   ·rename_i hw;exact DE ih g tg it b pos _ ht hw
   ·exact bX
  ·exact bX
theorem Bw (g:Gs W G T n E sc N X)(e c:Option Expr)(pos:Pos):PS X (.Raise e c pos) (bt W G n io E (cS T sc N (m+1) (.Raise e c pos))):=by
 rw[Ip.Da];cases c with
 | some _=>exact bX
 | none=>
  cases e with
  | none=>exact bX
  | some e=>
   unfold Ip.jt;dsimp only;cases q:Ip.gK e with
   | none=>exact bX
   | some t=>
    obtain⟨x,args⟩:=t;obtain⟨p1,p2,rfl⟩:=Ip.vH q;dsimp only;by_cases hc:(aM sc x&&noStar args)=true
    ·rw[if_pos hc];rw[Bool.and_eq_true] at hc;cases hb:T.bare.lookup x with
     | none=>
      refine tJ fun k hk=>?_;exact EX g _ _ _ _ pos k hc.1 hc.2 hk
     | some k=>
      cases args with
      | nil=>exact CH g _ _ _ pos k hc.1 hb
      | cons _ _=>exact bX
    ·rw[if_neg hc]; exact bX
theorem wq (ih:ii W G T n m)(g:Gs W G T n E sc N X)(b:List Stmt)(hs:List ExceptHandler)(els fin:List Stmt)(pos:Pos):PS X (.Try b hs els fin pos) (bt W G n io E (cS T sc N (m+1) (.Try b hs els fin pos))):=by
 rw[Ip.DM];unfold Ip.jB;cases q:Ip.gQ hs with
 | none=>exact bX
 | some t=>
  obtain⟨c,e,x,y⟩:=t;obtain⟨p1,p2,p3,p4,p5,rfl⟩:=Ip.xZ q;simp only;split
  ·rename_i hc;obtain⟨z1,z2,hc⟩:=hc;obtain rfl:=List.isEmpty_iff.mp z1;obtain rfl:=List.isEmpty_iff.mp z2;simp only[Bool.and_eq_true,beq_iff_eq] at hc;obtain⟨⟨⟨⟨⟨h1,rfl⟩,rfl⟩,h4⟩,h5⟩,h6⟩:=hc;refine tJ fun k hk=>?_;refine pq fun i hi=>?_;refine pq fun j hj=>?_;exact Ax ih g b _ _ _ _ _ pos _ _ k i j h1 hk hi hj h5 h6 h4
  ·exact bX
theorem ui (W:Wd)(G:Pg)(T:Tb)(n:Nat):∀m,ii W G T n m
 | 0=>fun g st=>by exact bX
 | m+1=>fun g st=>by
  have ih:ii W G T n m:=ui W G T n m;cases st with
  | Assign ts e pos=>exact Ap g ts e pos
  | Expr e pos=>exact wN g e pos
  | Return o pos=>exact yj g o pos
  | If c a b pos=>exact qE ih g c a b pos
  | For tg it b els pos=>exact Et ih g tg it b els pos
  | Break pos=>exact xa.mono fun Dn σ H ⟨_,_,_,A,_,_,f,h⟩=>by rw[show Ip.exec G (Ip.run G n) _ A (cS T _ _ (m+1) (.Break pos))=.brk A from rfl] at h; exact h _ _ _ f
  | Continue pos=>exact A4.mono fun Dn σ H ⟨_,_,_,A,_,_,f,h⟩=>by rw[show Ip.exec G (Ip.run G n) _ A (cS T _ _ (m+1) (.Continue pos))=.cnt A from rfl] at h; exact h _ _ _ f
  | Pass pos=>exact wj.mono fun Dn σ H ⟨_,_,_,A,_,_,f,h⟩=>by rw[show Ip.exec G (Ip.run G n) _ A (cS T _ _ (m+1) (.Pass pos))=.nx A from rfl] at h; exact h _ _ _ f
  | Raise e c pos=>exact Bw g e c pos
  | Try b hs els fin pos=>exact wq ih g b hs els fin pos
  | _=>exact bX
end
section
variable {W:Wd}{G:Pg}{T:Tb}{n:Nat}{P:Program}{w:World}{mg:Str->Option Value}{base:Heap}
theorem oJ:∀{vs:List V} {ds:List D} {i:Nat} {d:D},Dens W S vs ds->ds[i]? = some d->∃v,vs[i]? = some v/\Den W S v d
 | _,_,_,_,.nil,h=>by simp at h
 | _,_,0,_,.cons h _,e=>by
  simp only[List.getElem?_cons_zero,Option.some.injEq] at e;subst e;exact⟨_,rfl,h⟩
 | _,_,i+1,_,.cons _ q,e=>by
  simp only[List.getElem?_cons_succ] at e ⊢;exact oJ q e
theorem tP (h:(bi F xs)[i]? = some (some x)):∃y,xs[i]? = some y/\x=if F.io.contains i then y else (0,y.2):=by
 unfold bi at h;by_cases hi:i<xs.length
 ·rw[List.getElem?_append_left (by rw[List.length_mapIdx]; exact hi),List.getElem?_mapIdx,List.getElem?_eq_getElem hi] at h;simp only[Option.map_some,Option.some.injEq] at h;refine⟨xs[i],List.getElem?_eq_getElem hi,?_⟩;by_cases c:F.io.contains i=true
  ·rw[if_pos c] at h ⊢; exact (bO h).symm
  ·rw[if_neg c] at h ⊢; exact (bO h).symm
 ·rw[List.getElem?_append_right (by rw[List.length_mapIdx]; omega)] at h;have:=List.mem_of_getElem? h;rw[List.mem_replicate] at this;cases this.2
theorem sI (h:xs.length=F.np)(h2:F.np<=F.ns):(bi F xs).length=F.ns:=by
 unfold bi;rw[List.length_append,List.length_mapIdx,List.length_replicate];omega
theorem nH {N:List Str}{vs:List V}{i:Nat}{v:V}(h:vs[i]? = some v):(start N vs)[i]? = some (some v):=by
 unfold start;have hi:i<vs.length:=(cr h).1;rw[List.getElem?_append_left (by rw[List.length_map]; exact hi),List.getElem?_map,h]; rfl
theorem zC (h:vs.length<=N.length):(start N vs).length=N.length:=by
 unfold start;rw[List.length_append,List.length_map,List.length_replicate]; omega
theorem yb:ak M (fun _=>[])=M:=funext fun b=>propext ⟨fun z=>z.elim id fun⟨_,y⟩=>by simp at y,.inl⟩
theorem Bg:Own W S H 99 .non .non []:=⟨rfl,.non⟩
theorem yk (h:Own W S H k v .non fp):v=.non:=by
 cases k with
 | zero=>obtain⟨_,h⟩:=h; cases h; rfl
 | succ k=>obtain⟨_,h⟩:=h; cases h; rfl
theorem FrX.out {E0:Hp}{N:Addr->Prop}{pin:List (Nat×V)}{A:Fr}{σ:St}{H:Hp}{c:Nat}{fs:List (Nat×D)}{e:Addr}(h:FrX W E0 N pin A σ H c fs e):ExcR W E0 N H c fs e:=by
 obtain⟨F,f,he,C,vs,h1,h2,h3⟩:=h;exact⟨f.sub,he.1,C,vs,h1,h2,h3.mono fun b u z=>ax.mpr ⟨fun y=>(ax.mp z).1 (.inl y),(ax.mp z).2⟩⟩
theorem C4 (h:match Ip.fin [] o with
  | .ret k d []=>∀v H',Res W H N H' (k,d) v->Q v H'
  | .exc c fs []=>∀e H',ExcR W H N H' c fs e->E (.ref e) none H'
  | _=>False):PostS W H N [] (fun _=>E) { nx:=fun _ H'=>Q .non H',rt:=Q } o:=by
 cases o with
 | nx A=>exact fun σ H' F f=>h .non H' ⟨f.sub,[],.nil,fun _ z=>by simp at z,Bg⟩
 | ret k d A=>
  rintro v σ H' ⟨fp,F,f,nd,fr,o⟩;refine h v H' ⟨f.sub,fp,nd,fun b hb=>(fr b hb).1,o.mono (fun b u z=>?_) fun _ _ _ e=>e⟩;exact ax.mpr ⟨fun y=>(ax.mp z).1 (.inl y),(ax.mp z).2⟩
 | brk A=>exact h.elim
 | cnt A=>exact h.elim
 | exc c fs A=>exact fun e σ H' x=>h e H' x.out
 | bad=>exact h.elim
theorem Bk {H:Hp}{N:Addr->Prop}{f0:List Addr}{v0:V}{o:O}{Q:VK}{E:XK}(h:match Ip.fin [0] o with
  | .ret k d [y]=>∀v H' (fp:List Addr),Sub (hid (fun b=>b∈f0) H) H'->fp.Nodup->(∀b∈fp,hid (fun b=>b∈f0) H b=none)->Own W (hid (fun b=>N b\/b∈fp) H') H' y.1 v0 y.2 fp->(d=.non->v=.non)->Q v H'
  | .exc c fs _=>∀e H',ExcR W (hid (fun b=>b∈f0) H) N H' c fs e->E (.ref e) none H'
  | _=>False):PostS W (hid (fun b=>b∈f0) H) N [(0,v0)] (fun _=>E) { nx:=fun _ H'=>Q .non H',rt:=Q } o:=by
 have key:∀{N':Addr->Prop} {A:Fr} {σ:St} {H':Hp} {F:Nat->List Addr} {y:KD},FrF W (hid (fun b=>b∈f0) H) N' [(0,v0)] A σ H' F->(∀b,N b->N' b)->A[0]? = some (some y)->Sub (hid (fun b=>b∈f0) H) H'/\(F 0).Nodup/\(∀b∈F 0,hid (fun b=>b∈f0) H b=none)/\Own W (hid (fun b=>N b\/b∈F 0) H') H' y.1 v0 y.2 (F 0):=by
  intro N' A σ H' F y f hN hA;obtain⟨v,h1,h2⟩:=f.rel 0 y hA;have h3:=f.pn (0,v0) (by simp);rw[h1] at h3;cases h3;refine⟨f.sub,f.nd 0,fun b hb=>(f.fr 0 b hb).1,h2.mono (fun b u z=>?_) fun _ _ _ e=>e⟩;refine ax.mpr ⟨fun y=>(ax.mp z).1 ?_,(ax.mp z).2⟩;exact y.elim (fun q=>.inl (hN b q)) fun q=>.inr ⟨0,q⟩
 cases o with
 | nx A=>
  intro σ H' F f;simp only[Ip.fin,outs] at h;cases q:A[0]? with
  | none=>rw[q] at h; exact h.elim
  | some o=>
   cases o with
   | none=>rw[q] at h; exact h.elim
   | some y=>
    rw[q] at h;obtain⟨a1,a2,a3,a4⟩:=key f (fun _ z=>z) q;exact h .non H' _ a1 a2 a3 a4 fun _=>rfl
 | ret k d A=>
  rintro v σ H' ⟨fp,F,f,nd,fr,o⟩;simp only[Ip.fin,outs] at h;cases q:A[0]? with
  | none=>rw[q] at h; exact h.elim
  | some o=>
   cases o with
   | none=>rw[q] at h; exact h.elim
   | some y=>
    rw[q] at h;obtain⟨a1,a2,a3,a4⟩:=key f (fun _ z=>.inl z) q;refine h v H' _ a1 a2 a3 a4 fun z=>?_;subst z;exact yk o
 | brk A=>exact h.elim
 | cnt A=>exact h.elim
 | exc c fs A=>
  intro e σ H' x;simp only[Ip.fin,outs] at h;cases q:A[0]? with
  | none=>rw[q] at h; exact h.elim
  | some o=>
   cases o with
   | none=>rw[q] at h; exact h.elim
   | some y=>rw[q] at h; exact h e H' x.out
 | bad=>exact h.elim
theorem zw {k:Nat}{F:Fn}{N:List Str}{vs:List V}{H:Hp}{Q:VK}{E:XK}(hF:G.fn k=some F)(hns:F.ns=N.length)(hnp:F.np<=F.ns)(h:fH W G (n+1) k F vs H Q E) :
  dA W G n F.io (fun _=>E) F.body { nx:=fun _ H'=>Q .non H',rt:=Q } (start N vs) H:=by
 have hlen:=oQ hF h;have hsl:(start N vs).length=N.length:=zC (by omega);rcases h with ⟨hio,M,xs,hM,dv,h⟩ | ⟨hio,M,x0,xs,v0,ws,f0,rfl,hM,nd,dj,ow,dv,h⟩
 ·have hx:xs.length=F.np:=by rw[dv.length,List.length_map] at hlen; exact hlen
  rw[Ip.run,hF] at h;simp only[if_pos hx,hio] at h;refine⟨H,M,[],bi F xs,fun _=>[],fun p hp=>by simp at hp,⟨fun _ _ e=>e,hM,by rw[hsl,sI hx hnp,hns],fun p hp=>by simp at hp,fun _=>.nil,fun i j b hb=>by simp at hb,fun i b hb=>by simp at hb,fun i x e=>?_,fun _ _=>rfl⟩,?_⟩
  ·obtain⟨y,e1,e2⟩:=tP e;rw[hio] at e2;simp only[List.contains_nil,Bool.false_eq_true,if_false] at e2;obtain⟨v,e3,e4⟩:=oJ (i:=i) (d:=y.2) dv (by rw[List.getElem?_map,e1]; rfl);refine⟨v,nH e3,?_⟩;rw[yb,e2];exact⟨rfl,e4⟩
  ·rw[hio];exact C4 h
 ·have hx:(x0::xs).length=F.np:=by rw[List.length_cons,dv.length,List.length_map] at hlen; rw[List.length_cons]; exact hlen
  rw[Ip.run,hF] at h;simp only[if_pos hx,hio] at h;have hh:ak M (fun i=>if i=0 then f0 else [])=fun b=>M b\/b∈f0:=funext fun b=>propext ⟨fun z=>z.imp id fun⟨j,y⟩=>by
   by_cases q:j=0
   ·simpa[q] using y
   ·simp[q] at y,fun z=>z.imp id fun y=>⟨0,by simpa using y⟩⟩
  refine⟨hid (fun b=>b∈f0) H,M,[(0,v0)],bi F (x0::xs),fun i=>if i=0 then f0 else [],fun p hp=>by simp at hp; rw[hp,hio]; simp,⟨fun b u e=>(ax.mp e).2,hM,by rw[hsl,sI hx hnp,hns],fun p hp=>?_,fun i=>?_,fun i j b h1 h2=>?_,fun i b hb=>?_,fun i x e=>?_,fun i hi=>?_⟩,?_⟩
  ·simp only[List.mem_singleton] at hp;rw[hp];exact nH rfl
  ·split
   ·exact nd
   ·exact .nil
  ·split at h1
   ·split at h2
    ·omega
    ·simp at h2
   ·simp at h1
  ·split at hb
   ·exact⟨by unfold hid; exact if_pos hb,dj b hb⟩
   ·simp at hb
  ·obtain⟨y,e1,e2⟩:=tP e;rw[hio] at e2;rw[hh];cases i with
   | zero=>
    simp only[List.getElem?_cons_zero,Option.some.injEq] at e1;subst e1;rw[if_pos (by simp)] at e2;subst e2;exact⟨v0,nH rfl,by simpa using ow⟩
   | succ i=>
    simp only[List.getElem?_cons_succ] at e1;rw[if_neg (by simp)] at e2;obtain⟨v,e3,e4⟩:=oJ (i:=i) (d:=y.2) dv (by rw[List.getElem?_map,e1]; rfl);refine⟨v,nH (by simpa using e3),?_⟩;rw[e2];exact⟨by simp,e4⟩
  ·split
   ·rename_i z;subst z;exact absurd (show (bi F (x0::xs))[0]? = some (some x0) by simp[bi,hio]) (hi x0)
   ·rfl
  ·rw[hio];exact Bk h
structure FunD (K:aG)(x qual:Str)(st:Stmt)(f:Addr)(fd:FuncData):Prop where
 ex:∃(oc:Value) (od:Option Addr) (dV kV doc pm:Value) (an:Option Addr) (cdv ct:Value) (osl:Array (Option Value)),
  fd=PySem.W.fnOf x qual (aj st) (av st) (bA st) dV kV doc pm an cdv ct/\K.lookup f=some ⟨oc,od,.func fd,osl⟩/\PySem.W.codeIn K cdv qual=true
theorem FunD.okX {N:List Str}{x qual:Str}{st:Stmt}{f:Addr}{fd:FuncData}{ps:List Str}{k:Nat}{sp:Sp}{K:aG}(F:FunD K x qual st f fd)(S:FnScope N ps (bA st))(len:∀vs H Q E,sp vs H Q E->vs.length=ps.length)
  (hbody:∀(cdv:Value) (A:Around) (outer:List Env) (s:Shared) (H:Hp) (vs:List V) (Q:VK) (E:XK),Room k (A.deeper (envOfC qual (bA st) s.heap.objs.size f cdv))->sp vs H Q E ->
   ∃t,PSs (dX (cX P w) P w K mg base N qual (bA st) f cdv A outer s H E) (av st) t/\t { nx:=fun _ H'=>Q .non H',rt:=Q } (start N vs) H):FnOk P w K mg base (cX P w) (k+1) f fd ps sp:=by
 obtain⟨oc,od,dV,kV,doc,pm,an,cdv,ct,osl,rfl,lk,hcd⟩:=F.ex;exact El lk hcd S len fun A outer s H vs Q E hr hsp=>hbody cdv A outer s H vs Q E hr hsp
structure DefAt (W:Wd)(T:Tb)(F:Fn)(a:Addr):Prop where
 ex:∃(x qual:Str) (st:Stmt) (fd:FuncData) (ps:List Str) (io:List Nat),FunD W.K x qual st a fd/\FnScope (d9 (aj st) (bA st)) ps (bA st)/\cF T io st=some F/\F.np=ps.length /\
  ∀m,m<=F.np->F.np - m<=F.dfl.length->∃(ds:List Value) (dvs:List V),Binds W.K fd ps ds/\Vals dvs ds/\∀S,Dens W S dvs (bS F m)
theorem Cy {io:List Nat}{st:Stmt}{F:Fn}(h:cF T io st=some F):F.io=io/\F.ns=(d9 (aj st) (bA st)).length/\F.np=(aj st).args.length/\F.body=(av st).map (cS T (bA st) (d9 (aj st) (bA st)) 60):=by
 unfold cF at h;split at h
 ·obtain⟨ds,_,h2⟩:=cy h;subst h2;exact⟨rfl,rfl,rfl,rfl⟩
 ·cases h
theorem AE:a.args.length<=(d9 a sc).length:=by
 unfold d9;rw[List.length_append,List.length_map]; omega
theorem uV {k:Nat}{F:Fn}{a:Addr}{x qual:Str}{st:Stmt}{fd:FuncData}{ps:List Str}{io:List Nat}(hF:G.fn k=some F)(g:∀m,n=m+1->GF W G T m P w mg base)(gt:GT W G T mg)(fu:FunD W.K x qual st a fd)(S:FnScope (d9 (aj st) (bA st)) ps (bA st))(hc:cF T io st=some F)(hnp:F.np=ps.length) :
  FnOk P w W.K mg base (cX P w) (rm n) a fd ps (fH W G n k F):=by
 obtain⟨c1,c2,c3,c4⟩:=Cy hc;cases n with
 | zero=>
  refine fu.okX (k:=0) S (fun vs H Q E h=>by rw[oQ hF h,hnp]) fun cdv A outer s H vs Q E hr h=>?_;rcases h with ⟨_,_,_,_,_,q⟩ | ⟨_,_,_,_,_,_,_,_,_,_,_,_,_,q⟩
  ·exact q.elim
  ·exact q.elim
 | succ n=>
  refine fu.okX (k:=3 * n+3) S (fun vs H Q E h=>by rw[oQ hF h,hnp]) fun cdv A outer s H vs Q E hr h=>?_;refine⟨_,kQ (io:=F.io) (E:=fun _=>E) (ui W G T n 60) (sc:=bA st) (N:=d9 (aj st) (bA st)) ?_ (av st),?_⟩
  ·refine⟨⟨g n rfl,rfl,fun y hy=>?_,fun y hy=>?_,fun y hy=>?_,fun y hy=>hy,rfl,S.nd,rfl,passF,hr.mono (by unfold rm; omega)⟩,gt,kc,PassesOwn.leaving,⟨_,_,rfl,rfl⟩,rfl⟩
   ·unfold aL at hy;simp only[Bool.or_eq_true,beq_iff_eq] at hy;exact hy.elim (fun z=>z.elim .inl fun z=>.inr (.inl z)) fun z=>.inr (.inr z)
   ·unfold aY at hy;simp only[Bool.or_eq_true,beq_iff_eq] at hy;exact⟨hy,.inl rfl⟩
   ·unfold aM at hy;simp only[beq_iff_eq] at hy;exact hy
  ·rw[<-c4];exact zw hF c2 (by rw[c3,c2]; exact AE) h
theorem qY (hF:G.fn k=some F)(g:∀m,n=m+1->GF W G T m P w mg base)(gt:GT W G T mg)(d:DefAt W T F a):FI W G n P w mg base k F a:=by
 obtain⟨x,qual,st,fd,ps,io,fu,S,hc,hnp,dfl⟩:=d.ex;exact⟨fd,ps,uV hF g gt fu S hc hnp,dfl⟩
end
structure GF0 (W:Wd)(G:Pg)(T:Tb)(mg:Str->Option Value):Prop where
 cf:CF W T.fl
 att:W.att=T.att
 blt:∀x v,(x,v)∈bG->mg x=none/\bootBuiltins x=some v
 cst:∀x d,T.cst.lookup x=some d->(x == ("__debug__" : Str))=false/\∃u v,mg x=some u/\RelV v u/\d.flat=true/\∀S,Den W S v d
 fns:∀x k,T.fns.lookup x=some k->(x == ("__debug__" : Str))=false/\∃F a,G.fn k=some F/\mg x=some (.ref a)/\PySem.W.keepIn W.K (.ref a)=true/\DefAt W T F a
 cls:∀x c,T.cls.lookup x=some c->(x == ("__debug__" : Str))=false/\∃C,mg x=some (.ref C)/\∀Cl' f F,G.cl c=some Cl'->Cl'.init=some f->G.fn f=some F ->
  ∃a,DefAt W T F a/\if Cl'.isx=true then W.xA c=some C/\PySem.W.keepIn W.K (.ref C)=true/\∃tl,XC W.K C (.ref a) tl else W.iA c=some C/\Mk W.K C a
 meth:∀c Cl' m f F,G.cl c=some Cl'->Cl'.meths.lookup m=some f->G.fn f=some F->∀nm,W.att[m]? = some nm->∃C a,W.iA c=some C/\Meth W.K C nm a/\DefAt W T F a
 isB:∀x t,jf.lookup x=some t->mg x=none/\x ≠ "__name__" /\ (x == ("__debug__" : Str))=false/\∃nm,bootBuiltins x=some (.type nm)/\bC W G t (.type nm)
 isC:∀x c,T.cls.lookup x=some c->∃C,mg x=some (.ref C)/\bC W G (.cls c) (.ref C)
theorem Ck (g0:GF0 W G T mg)(gt:GT W G T mg):∀n,GF W G T n P w mg base:=by
 have step:∀n,(∀m,n=m+1->GF W G T m P w mg base)->GF W G T n P w mg base:=fun n ih=>
  ⟨g0.cf,g0.att,g0.blt,g0.cst,fun x k h=>by
   obtain⟨h1,F,a,h2,h3,h4,h5⟩:=g0.fns x k h;exact⟨h1,F,a,h2,h3,h4,qY h2 ih gt h5⟩,fun x c h=>by
   obtain⟨h1,C,h2,h3⟩:=g0.cls x c h;refine⟨h1,C,h2,fun Cl' f F q1 q2 q3=>?_⟩;obtain⟨a,h4,h5⟩:=h3 Cl' f F q1 q2 q3;exact⟨a,qY q3 ih gt h4,h5⟩,fun c Cl' m f F q1 q2 q3 nm q4=>by
   obtain⟨C,a,h1,h2,h3⟩:=g0.meth c Cl' m f F q1 q2 q3 nm q4;exact⟨C,a,h1,h2,qY q3 ih gt h3⟩,g0.isB,g0.isC⟩
 intro n;induction n with
 | zero=>exact step 0 fun m h=>by cases h
 | succ n ih=>exact step (n+1) fun m h=>by cases h; exact ih
section
variable {W:Wd}{T:Tb}{F:Fn}{f:Addr}{x qual:Str}{st:Stmt}{oc dV kV doc pm cdv ct:Value}{od an:Option Addr}{osl:Array (Option Value)}{ps:List Str}{io:List Nat}
theorem Bm (l:W.K.lookup f=some ⟨oc,od,.func (PySem.W.fnOf x qual (aj st) (av st) (bA st) dV kV doc pm an cdv ct),osl⟩)(c:PySem.W.codeIn W.K cdv qual=true)
  (S:FnScope (d9 (aj st) (bA st)) ps (bA st))(hc:cF T io st=some F)(hnp:F.np=ps.length)(hd:F.dfl=[])
  (hb:∀us:List Value,us.length=ps.length->bindArgs (PySem.W.fnOf x qual (aj st) (av st) (bA st) dV kV doc pm an cdv ct) ⟨us,[]⟩=pure (ps.zip us)):DefAt W T F f:=by
 refine⟨x,qual,st,_,ps,io,⟨oc,od,dV,kV,doc,pm,an,cdv,ct,osl,rfl,l,c⟩,S,hc,hnp,fun m h1 h2=>⟨[],[],Binds.all hb,.nil,fun S=>?_⟩⟩;unfold bS;rw[hd];simp;exact .nil
theorem zW (l:W.K.lookup f=some ⟨oc,od,.func (PySem.W.fnOf x qual (aj st) (av st) (bA st) dV kV doc pm an cdv ct),osl⟩)(c:PySem.W.codeIn W.K cdv qual=true)
  (S:FnScope (d9 (aj st) (bA st)) ps (bA st))(hc:cF T io st=some F)(hnp:F.np=ps.length)(hd:F.dfl=[d])(r:RelV v u)(dv:∀S,Den W S v d)
  (hb0:Binds W.K (PySem.W.fnOf x qual (aj st) (av st) (bA st) dV kV doc pm an cdv ct) ps [])(hb1:Binds W.K (PySem.W.fnOf x qual (aj st) (av st) (bA st) dV kV doc pm an cdv ct) ps [u]):DefAt W T F f:=by
 refine⟨x,qual,st,_,ps,io,⟨oc,od,dV,kV,doc,pm,an,cdv,ct,osl,rfl,l,c⟩,S,hc,hnp,fun m h1 h2=>?_⟩;unfold bS;rw[hd] at h2 ⊢;by_cases e:F.np - m=0
 ·refine⟨[],[],hb0,.nil,fun S=>?_⟩;rw[e];exact .nil
 ·have:F.np - m=1:=by simp at h2; omega
  refine⟨[u],[v],hb1,.cons r .nil,fun S=>?_⟩;rw[this];exact .cons (dv S) .nil
theorem mem_of_lookup:∀{l:List (Addr×Obj)},l.lookup a=some o->(a,o)∈l
 | [],h=>nomatch h
 | (y,j)::r,h=>by
  rw[List.lookup_cons] at h;cases e:a == y with
  | true=>
   rw[e] at h;rw[beq_iff_eq] at e;cases h;rw[e];exact bD
  | false=>rw[e] at h; exact bw _ (mem_of_lookup h)
def fj (K:aG):Sp:=fun vs H Q _=>∃(a:Addr) (ns:List Int),vs=[.ref a]/\SqL K H a (ns.map V.int)/\ns.length<=63/\∀H',Q (.bl true) H'
theorem EQ (hio:F.io=[])(hno:(W.K.all fun p=>!(p.2.cls == Value.type "list"))=true)(hr:∀ns:List Int,ns.length<=63->∃kk,Ip.run G n k [(0,.lst (ns.map D.int))]=.ret kk (.bl true) []) :
  ∀vs H Q E,fj W.K vs H Q E->fH W G n k F vs H Q E:=by
 rintro vs H Q E ⟨a,ns,e,hS,hl,hq⟩;subst e;obtain⟨kk,hr⟩:=hr ns hl;refine .inl ⟨hio,fun _=>False,[(0,.lst (ns.map D.int))],fun _ z=>z.elim,?_,?_⟩
 ·have e:hid (fun _=>False) H=H:=funext fun b=>by unfold hid; exact if_neg id
  rw[e];have hR:Rd H a (.lst (ns.map V.int)):=by
   rcases hS with h | ⟨o,its,m,h1,h2,_⟩
   ·exact h
   ·have:=dF hno (a,o) (mem_of_lookup h1);rw[h2] at this;simp at this
  refine .cons (.lst hR ?_) .nil;clear hr hS hR hl;induction ns with
  | nil=>exact .nil
  | cons i ns ih=>exact .cons .int ih
 ·rw[hr];rintro v H' ⟨_,fp,_,_,o⟩;have:v=.bl true:=by
   cases kk with
   | zero=>obtain⟨_,o⟩:=o; cases o; rfl
   | succ kk=>obtain⟨_,o⟩:=o; cases o; rfl
  subst this;exact hq H'
end
section
variable {W:Wd}{G:Pg}{T:Tb}{mg:Str->Option Value}
def PF (W:Wd)(T:Tb)(G:Pg)(mg:Str->Option Value)(p:Str×Nat):Prop:=(p.1 == ("__debug__" : Str))=false/\∃F a,G.fn p.2=some F/\mg p.1=some (.ref a)/\PySem.W.keepIn W.K (.ref a)=true/\DefAt W T F a
def Be (W:Wd)(T:Tb)(G:Pg)(mg:Str->Option Value)(p:Str×Nat):Prop:=(p.1 == ("__debug__" : Str))=false/\∃C,mg p.1=some (.ref C)/\bC W G (.cls p.2) (.ref C)/\∀Cl' f F,G.cl p.2=some Cl'->Cl'.init=some f->G.fn f=some F ->
  ∃a,DefAt W T F a/\if Cl'.isx=true then W.xA p.2=some C/\PySem.W.keepIn W.K (.ref C)=true/\∃tl,XC W.K C (.ref a) tl else W.iA p.2=some C/\Mk W.K C a
def PV (W:Wd)(mg:Str->Option Value)(p:Str×D):Prop:=(p.1 == ("__debug__" : Str))=false/\∃u v,mg p.1=some u/\RelV v u/\p.2.flat=true/\∀S,Den W S v p.2
def PM (W:Wd)(T:Tb)(G:Pg)(C:Addr)(p:Nat×Nat):Prop:=∃F nm a,G.fn p.2=some F/\W.att[p.1]? = some nm/\Meth W.K C nm a/\DefAt W T F a
theorem eh [BEq α][LawfulBEq α]:∀{l:List (α×β)},l.lookup a=some b->(a,b)∈l
 | [],h=>nomatch h
 | (y,j)::r,h=>by
  rw[List.lookup_cons] at h;cases e:a == y with
  | true=>
   rw[e] at h;rw[beq_iff_eq] at e;cases h;rw[e];exact bD
  | false=>rw[e] at h; exact bw _ (eh h)
theorem BP (cf:CF W T.fl)(att:W.att=T.att)(blt:∀p∈bG,mg p.1=none/\bootBuiltins p.1=some p.2)(cst:∀p∈T.cst,PV W mg p)(fns:∀p∈T.fns,PF W T G mg p)(cls:∀p∈T.cls,Be W T G mg p)
  (meth:∀c Cl',G.cl c=some Cl'->Cl'.meths≠[]->∃C,W.iA c=some C/\∀p∈Cl'.meths,PM W T G C p)
  (isB:∀p∈jf,mg p.1=none/\p.1 ≠ "__name__" /\ (p.1 == ("__debug__" : Str))=false/\∃nm,bootBuiltins p.1=some (.type nm)/\bC W G p.2 (.type nm)):GF0 W G T mg where
 cf:=cf
 att:=att
 blt:=fun x v h=>blt (x,v) h
 cst:=fun x d h=>cst (x,d) (eh h)
 fns:=fun x k h=>fns (x,k) (eh h)
 cls:=fun x c h=>by
  obtain⟨h1,C,h2,_,h3⟩:=cls (x,c) (eh h);exact⟨h1,C,h2,h3⟩
 meth:=fun c Cl' m f F h1 h2 h3 nm h4=>by
  have hm:=eh h2;obtain⟨C,e1,e2⟩:=meth c Cl' h1 (fun z=>by rw[z] at hm; simp at hm);obtain⟨F',nm',a,e3,e4,e5,e6⟩:=e2 (m,f) hm;rw[h3] at e3; cases e3;rw[h4] at e4; cases e4;exact⟨C,a,e1,e5,e6⟩
 isB:=fun x t h=>isB (x,t) (eh h)
 isC:=fun x c h=>by
  obtain⟨_,C,h2,h3,_⟩:=cls (x,c) (eh h);exact⟨C,h2,h3⟩
theorem Ei (h0:PySem.W.kitOne W.K (.type "NoneType") cv=some (ao G .non t))(h1:PySem.W.kitOne W.K (.type "bool") cv=some (ao G (.bl true) t))(h2:PySem.W.kitOne W.K (.type "int") cv=some (ao G (.int 0) t))
  (h3:PySem.W.kitOne W.K (.type "str") cv=some (ao G (.str "") t))(h4:PySem.W.kitOne W.K (.type "list") cv=some (ao G (.lst []) t))(h5:PySem.W.kitOne W.K (.type "tuple") cv=some (ao G (.tup []) t))
  (h6:∀c C,W.iA c=some C->PySem.W.kitOne W.K (.ref C) cv=some (ao G (.ins c []) t))(h7:∀c C,W.xA c=some C->PySem.W.kitOne W.K (.ref C) cv=some (ao G (.exc c []) t)):bC W G t cv:=by
 intro d tv h;cases d with
 | non=>cases h; exact h0
 | bl b=>cases h; rw[h1]; cases t <;> rfl
 | int i=>cases h; rw[h2]; cases t <;> rfl
 | str s=>cases h; rw[h3]; cases t <;> rfl
 | lst xs=>cases h; rw[h4]; cases t <;> rfl
 | tup xs=>cases h; rw[h5]; cases t <;> rfl
 | ins c fs=>
  obtain⟨C,e1,e2⟩:=cy h;subst e2;rw[h6 c C e1]; cases t <;> rfl
 | exc c fs=>
  obtain⟨C,e1,e2⟩:=cy h;subst e2;rw[h7 c C e1]; cases t <;> rfl
end
noncomputable def cg (K:aG)(iL xL:List (Nat×Addr))(att:List Str):Wd:=⟨K,fun c=>iL.lookup c,fun c=>xL.lookup c,att⟩
theorem jx (h:l.length=1):∃a,l=[a]:=List.length_eq_one_iff.mp h
theorem k7 (h:l.length=n+1):∃a r,l=a::r/\r.length=n:=by
 cases l with
 | nil=>cases h
 | cons a r=>exact⟨a,r,rfl,Nat.succ.inj h⟩
theorem jj (h:l.length=2):∃a b,l=[a,b]:=by
 obtain⟨a,r,rfl,h2⟩:=k7 h;obtain⟨b,rfl⟩:=jx h2;exact⟨a,b,rfl⟩
theorem qM (h:l.length=3):∃a b c,l=[a,b,c]:=by
 obtain⟨a,r,rfl,h2⟩:=k7 h;obtain⟨b,c,rfl⟩:=jj h2;exact⟨a,b,c,rfl⟩
section
variable {K:aG}{iL xL:List (Nat×Addr)}{att:List Str}{fl:List Nat}{G:Pg}{T:Tb}{mg:Str->Option Value}
noncomputable def mQ (fl:List Nat)(att:List Str):List Str:=fl.filterMap fun f=>att[f]?
abbrev NoA (K:aG)(C:Addr)(ns:List Str):Prop:=(ns.map fun n=>PySem.W.findIn K (.ref C) n)=ns.map fun _=>some none
theorem NoA.at (h:NoA K C ns)(hn:n∈ns):NoAttr K C n:=List.map_inj_left.mp h n hn
theorem ym (nd:att.Nodup)(hi:∀p∈iL,InsC K p.2/\NoA K p.2 (mQ fl att))(hx:∀p∈xL,ExcC K p.2/\NoA K p.2 (mQ fl att)):CF (cg K iL xL att) fl:=
 ⟨nd,fun c C h=>⟨(hi (c,C) (eh h)).1,fun f n hf hn=>(hi (c,C) (eh h)).2.at (List.mem_filterMap.mpr ⟨f,hf,hn⟩)⟩,
  fun c C h=>⟨(hx (c,C) (eh h)).1,fun f n hf hn=>(hx (c,C) (eh h)).2.at (List.mem_filterMap.mpr ⟨f,hf,hn⟩)⟩⟩
abbrev lD (K:aG)(G:Pg)(t:Ip.Ty)(cv:Value):Prop:=[PySem.W.kitOne K (.type "NoneType") cv,PySem.W.kitOne K (.type "bool") cv,PySem.W.kitOne K (.type "int") cv,PySem.W.kitOne K (.type "str") cv,PySem.W.kitOne K (.type "list") cv,PySem.W.kitOne K (.type "tuple") cv]=[some (ao G .non t),some (ao G (.bl true) t),some (ao G (.int 0) t),some (ao G (.str "") t),some (ao G (.lst []) t),some (ao G (.tup []) t)]
abbrev pN (K:aG)(iL:List (Nat×Addr))(G:Pg)(t:Ip.Ty)(cv:Value):Prop:=(iL.map fun p=>PySem.W.kitOne K (.ref p.2) cv)=iL.map fun p=>some (ao G (.ins p.1 []) t)
abbrev pX (K:aG)(xL:List (Nat×Addr))(G:Pg)(t:Ip.Ty)(cv:Value):Prop:=(xL.map fun p=>PySem.W.kitOne K (.ref p.2) cv)=xL.map fun p=>some (ao G (.exc p.1 []) t)
theorem xY (hb:lD K G t cv)(hi:pN K iL G t cv)(hx:pX K xL G t cv):bC (cg K iL xL att) G t cv:=by
 unfold lD at hb;injection hb with h0 hb;injection hb with h1 hb;injection hb with h2 hb;injection hb with h3 hb;injection hb with h4 hb;injection hb with h5 hb;exact Ei h0 h1 h2 h3 h4 h5 (fun c C h=>List.map_inj_left.mp hi (c,C) (eh h)) fun c C h=>List.map_inj_left.mp hx (c,C) (eh h)
theorem D2 (db:(T.wb == ("__debug__" : Str))=false)(hm:mg T.wb=some (.ref Wa))(xi:XInit K Wa)(xo:XO K Wa [])(h:∀p∈xL,∃tl,XO K p.2 tl/\Wa∈p.2::tl)(hb:∀x c,T.bare.lookup x=some c->(x == ("__debug__" : Str))=false/\∃C tl,mg x=some (.ref C)/\xL.lookup c=some C/\XC K C (.builtin "ValueError.__init__") tl/\PySem.W.keepIn K (.ref C)=true):GT (cg K iL xL att) G T mg:=
 ⟨db,⟨Wa,[],hm,xi,xo,fun c c' C fs _ h2 _=>h (c',C) (eh h2)⟩,hb⟩
def FnAt (K:aG)(x qual:Str)(st:Stmt)(f:Addr):Prop:=∃(oc:Value) (od:Option Addr) (kV doc pm:Value) (an:Option Addr) (cdv ct:Value) (osl:Array (Option Value)),
 K.lookup f=some ⟨oc,od,.func (PySem.W.fnOf x qual (aj st) (av st) (bA st) .none kV doc pm an cdv ct),osl⟩/\PySem.W.codeIn K cdv qual=true
theorem FnAt.mk {x qual:Str}{st:Stmt}{f:Addr}{oc kV doc pm cdv ct:Value}{od an:Option Addr}{osl:Array (Option Value)}(l:K.lookup f=some ⟨oc,od,.func (PySem.W.fnOf x qual (aj st) (av st) (bA st) .none kV doc pm an cdv ct),osl⟩)(c:PySem.W.codeIn K cdv qual=true):FnAt K x qual st f:=
 ⟨oc,od,kV,doc,pm,an,cdv,ct,osl,l,c⟩
def FnAtD (K:aG)(x qual:Str)(st:Stmt)(v:V)(f:Addr):Prop:=∃(oc:Value) (od:Option Addr) (t:Addr) (kV doc pm:Value) (an:Option Addr) (cdv ct:Value) (osl:Array (Option Value)) (u oct:Value) (odt:Option Addr) (n:Nat) (slt:Array (Option Value)),
 K.lookup f=some ⟨oc,od,.func (PySem.W.fnOf x qual (aj st) (av st) (bA st) (.ref t) kV doc pm an cdv ct),osl⟩/\PySem.W.codeIn K cdv qual=true/\K.lookup t=some ⟨oct,odt,.seq #[u] n,slt⟩/\RelV v u
theorem FnAtD.mk {x qual:Str}{st:Stmt}{v:V}{f t:Addr}{oc kV doc pm cdv ct u oct:Value}{od an odt:Option Addr}{osl slt:Array (Option Value)}{n:Nat}(l:K.lookup f=some ⟨oc,od,.func (PySem.W.fnOf x qual (aj st) (av st) (bA st) (.ref t) kV doc pm an cdv ct),osl⟩)(c:PySem.W.codeIn K cdv qual=true)
  (lt:K.lookup t=some ⟨oct,odt,.seq #[u] n,slt⟩)(r:RelV v u):FnAtD K x qual st v f:=⟨oc,od,t,kV,doc,pm,an,cdv,ct,osl,u,oct,odt,n,slt,l,c,lt,r⟩
theorem Ba {K:aG}{iL xL:List (Nat×Addr)}{P:Program}{w:World}{n:Nat}{F:Fn}{f:Addr}{st:Stmt}{x:Str}(g0:GF0 (cg K iL xL att) G T mg)(gt:GT (cg K iL xL att) G T mg)(hno:(K.all fun p=>!(p.2.cls == Value.type "list"))=true)(hF:G.fn 69=some F)(hio:F.io=[])(d:FnAt K "law" "law" st f)
  (S:FnScope (d9 (aj st) (bA st)) [x] (bA st))(hc:cF T [] st=some F)(hnp:F.np=1)(hb:∀(kV doc pm:Value) (an:Option Addr) (cdv ct:Value) (u:Value),bindArgs (PySem.W.fnOf "law" "law" (aj st) (av st) (bA st) .none kV doc pm an cdv ct) ⟨[u],[]⟩=pure [(x,u)])
  (hr:∀ns:List Int,ns.length<=63->∃kk,Ip.run G n 69 [(0,.lst (ns.map D.int))]=.ret kk (.bl true) []) :
  ∃fd:FuncData,(∀(s:Shared) (u:Value),BindsTo s fd ⟨[u],[]⟩ [(x,u)])/\∀base:Heap,K.In base->base.Ns mainGlobals mg->FnOk P w K mg base (cX P w) (rm n) f fd [x] (fj K):=by
 obtain⟨oc,od,kV,doc,pm,an,cdv,ct,osl,l,c⟩:=d;refine⟨_,fun s u=>.of_eq (hb kV doc pm an cdv ct u),fun base _ _=>?_⟩;have fu:FunD (cg K iL xL att).K "law" "law" st f (PySem.W.fnOf "law" "law" (aj st) (av st) (bA st) .none kV doc pm an cdv ct):=⟨oc,od,.none,kV,doc,pm,an,cdv,ct,osl,rfl,l,c⟩
 exact (uV (n:=n) hF (fun m _=>Ck g0 gt m) gt fu S hc hnp).imp (EQ (W:=cg K iL xL att) hio hno hr)
theorem XO.mk'
  (h:K.lookup C=some (excClassObj nm q C N bs (tl.map Value.ref++bo) true sn sub ab col dd k0 k1 k2 k3 k5 "ValueError.__new__")):XO K C tl:=⟨nm,q,N,bs,sn,sub,ab,col,dd,k0,k1,k2,k3,k5,h⟩
end
end L2
end
section
namespace Hd
open PySem PySem.W PySem.Calls PyProof.Rows
noncomputable def f8 (thr ok:Thread->Bool)(stp:SharedT->Thread->Option (SharedT×Thread))(n:Nat):SharedT->Thread->Option SharedT:=
 @Nat.rec (fun _=>SharedT->Thread->Option SharedT) (fun _ _=>none) (fun _ ih s t=>match thr t with
  | true=>some s
  | false=>match ok t with
   | false=>none
   | true=>match stp s t with
    | some (s',t')=>ih s' t'
    | none=>none) n
theorem xN (thr ok:Thread->Bool)(stp:SharedT->Thread->Option (SharedT×Thread))(n:Nat)(s:SharedT)(t:Thread):f8 thr ok stp (n+1) s t=(match thr t with
  | true=>some s
  | false=>match ok t with
   | false=>none
   | true=>match stp s t with
    | some (s',t')=>f8 thr ok stp n s' t'
    | none=>none):=rfl
theorem tT:∀(n:Nat) (s s':SharedT) (t:Thread),f8 through (stepOk n₀ ann) (stepT (denote tb) p w) n s t=some s'->topRun tb p w n₀ ann n s.abs t=some s'.abs
 | 0,_,_,_,h=>by cases h
 | n+1,s,s',t,h=>by
  rw[xN] at h;unfold topRun;cases ht:through t with
  | true=>rw[ht] at h; cases h; rfl
  | false=>
   rw[ht] at h;cases hk:stepOk n₀ ann t with
   | false=>rw[hk] at h; cases h
   | true=>
    rw[hk] at h;cases hs:stepT (denote tb) p w s t with
    | none=>rw[hs] at h; cases h
    | some r=>obtain⟨s₂,t₂⟩:=r; rw[hs] at h; dsimp only; rw[stepT_spec hs]; exact tT n s₂ s' t₂ h
noncomputable def lookG {β α:Type}(mods:List Str)(so lk:Heap->Heap->Bool)(nb:Heap->Bool)(seen:Shared->β)(Yf:Shared->α)(h₀:Heap)(st:SharedT):Bool×β×α:=
 (so h₀ st.abs.heap&&nb st.abs.heap&&gensDone st.abs&&lk h₀ st.abs.heap,seen st.abs,Yf st.abs)
theorem wt {p q:Program}{loose:List Str}{Xt:Shared->Bool}{α:Type}{Yf:Shared->α}{Ya:World->α}{N m₀:Nat}{ann:Option Value}{T0:Params->BT}{life:Params->Life}
  (e:opening p=plainProg p.main.scope.names)(hN:Nat.ble 600 N=true)(f:∀s,fenceModules? p s=some s)
  (size:∀w:World,((boot_heap w.params).isNs mainGlobals,(boot_heap w.params).objs.size,(boot_heap w.params).nsMap mainGlobals "__annotations__")=(true,m₀,ann))
  (habs:∀P,absHeap (T0 P) m₀ (life P)=boot_heap P)
  (run:∀(w:World) (os:OsState),(f8 through (stepOk m₀ ann) (stepT (denote treeTable) p w) N ⟨T0 w.params,m₀,life w.params,Array.mk [],boot_drawn,boot_toks,os⟩ (topStub p)).map
   (lookG (importedModules p.main.body) (staticsOk (importedModules p.main.body)) laidKept (namesBound p) (openSeen q loose (importedModules p.main.body) Xt true) Yf (boot_heap w.params))=some (true,openGood q loose,Ya w)) :
  LeftO p q loose Xt Yf Ya N:=fun w=>by
 obtain⟨⟨h,gs,d,k,os⟩,e1,e'⟩:=cy (boot_open e hN f w);obtain⟨rfl,rfl,rfl,rfl⟩:h=boot_heap w.params/\gs=Array.mk []/\d=boot_drawn/\k=boot_toks:=by simpa using e'
 obtain⟨z1,z2,z3⟩:_/\_/\_:=by simpa only[Prod.mk.injEq] using size w
 obtain⟨st,hr,hl⟩:=cy (run w os);have r:=tT _ _ _ _ hr;have ha:SharedT.abs ⟨T0 w.params,m₀,life w.params,Array.mk [],boot_drawn,boot_toks,os⟩=⟨boot_heap w.params,Array.mk [],boot_drawn,boot_toks,os⟩:=by
  show Shared.mk _ _ _ _ _=_;rw[habs]
 rw[ha] at r;obtain⟨l1,l2,l3⟩:_/\_/\_:=by simpa only[lookG,Prod.mk.injEq] using hl
 have t:topFrom treeTable p w N ⟨boot_heap w.params,Array.mk [],boot_drawn,boot_toks,os⟩=some st.abs:=by
  unfold topFrom;dsimp only;rw[z1,z2,z3];show ((topRun treeTable p w m₀ ann N _ (topStub p)).bind _)=_;rw[r];show (match staticsOk (importedModules p.main.body) (boot_heap w.params) st.abs.heap&&namesBound p st.abs.heap&&gensDone st.abs&&laidKept (boot_heap w.params) st.abs.heap with | true=>_ | false=>_)=_;rw[l1]
 unfold openEnds;rw[e1];show (topFrom treeTable p w N _).map _=_;rw[t];exact congrArg some (Prod.ext l2 l3)
end Hd
end
section
namespace Hd
open PySem PySem.Spec PySem.W PyProof.Rows L2
noncomputable abbrev uw:=(Str×Str×Arguments×FuncBody)×Scope×Addr×List (Str×Addr)×Value×Addr×Bool
noncomputable def j8 (K:Frag)(f:Addr):Option uw:=match K.lookup f with
 | some ⟨_,_,.func fd,_⟩=>some ((fd.name,fd.qualname,fd.params,fd.body),fd.scope,fd.globals,fd.closure,fd.defaults,fd.builtins,codeIn K fd.code fd.qualname)
 | _=>none
noncomputable abbrev pH:=Value×List Value×Bool×Bool×Option Value
noncomputable def nZ (K:Frag)(C:Addr):Option pH:=match K.lookup C with
 | some ⟨c,_,.cls cd,⟨[_,_,_,_,k4,_]⟩⟩=>some (c,cd.mro,cd.hasDict,cd.hasDel,k4)
 | _=>none
noncomputable def gB (K:Frag)(t:Addr):Option (List Value):=match K.lookup t with
 | some ⟨_,_,.seq xs _,_⟩=>some xs.toList
 | _=>none
theorem zV {K:Frag}{f:Addr}{oc:Value}{od:Option Addr}{fd:FuncData}{osl:Array (Option Value)}(l:K.lookup f=some ⟨oc,od,.func fd,osl⟩):j8 K f=some ((fd.name,fd.qualname,fd.params,fd.body),fd.scope,fd.globals,fd.closure,fd.defaults,fd.builtins,codeIn K fd.code fd.qualname):=by
 unfold j8; rw[l]
theorem uf {K:Frag}{f:Addr}{x qual:Str}{st:Stmt}(h:j8 K f=some ((x,qual,aj st,.stmts (av st)),bA st,mainGlobals,[],.none,builtinsNs,true)):FnAt K x qual st f:=by
 unfold j8 at h;split at h
 ·rename_i fd _ hk;obtain⟨a1,a2,a3,a4,a5,a6,a7,a8,a9,a10,a11,a12,a13,a14,a15⟩:=fd;simp only[Option.some.injEq,Prod.mk.injEq] at h;obtain⟨⟨rfl,rfl,rfl,rfl⟩,rfl,rfl,rfl,rfl,rfl,hc⟩:=h;exact .mk hk hc
 ·cases h
theorem yC {K:Frag}{f t:Addr}{x qual:Str}{st:Stmt}{v:V}{u:Value}(h:j8 K f=some ((x,qual,aj st,.stmts (av st)),bA st,mainGlobals,[],.ref t,builtinsNs,true))(ht:gB K t=some [u])(r:RelV v u):FnAtD K x qual st v f:=by
 unfold j8 at h;split at h
 ·rename_i fd _ hk;obtain⟨a1,a2,a3,a4,a5,a6,a7,a8,a9,a10,a11,a12,a13,a14,a15⟩:=fd;simp only[Option.some.injEq,Prod.mk.injEq] at h;obtain⟨⟨rfl,rfl,rfl,rfl⟩,rfl,rfl,rfl,rfl,rfl,hc⟩:=h;unfold gB at ht;split at ht
  ·rename_i xs n _ hs;obtain⟨l⟩:=xs;obtain rfl:l=[u]:=bO ht;exact .mk hk hc hs r
  ·cases ht
 ·cases h
theorem t7 {K:Frag}{C:Addr}{tl:List Addr}(h:nZ K C=some (.type "type",.ref C::(tl.map Value.ref++bo),true,false,some (.builtin "ValueError.__new__"))):XO K C tl:=by
 unfold nZ at h;split at h
 ·rename_i c cd k0 k1 k2 k3 k4 k5 hk;obtain⟨a1,a2,a3,a4,a5,a6,a7,a8,a9,a10,a11⟩:=cd;simp only[Option.some.injEq,Prod.mk.injEq] at h;obtain⟨rfl,rfl,rfl,rfl,rfl⟩:=h;exact .mk' hk
 ·cases h
noncomputable def nF (as:List Addr)(h:Heap):Frag:=as.filterMap fun a=>(h.get? a).map fun o=>(a,o)
theorem rK (h:Heap):∀as:List Addr,(nF as h).In h
 | []=>fun a o e=>by cases e
 | a::as=>fun b o e=>by
  have ih:=rK h as;unfold nF at e ih;rw[List.filterMap_cons] at e;cases q:h.get? a with
  | none=>rw[q] at e; exact ih b o e
  | some x=>
   rw[q] at e;by_cases hb:b=a
   ·subst hb;have:some x=some o:=by simpa[List.lookup_cons] using e
    cases this;exact q
   ·have:(List.filterMap (fun a=>(h.get? a).map fun o=>(a,o)) as).lookup b=some o:=by
     have hb':(b == a)=false:=beq_eq_false_iff_ne.mpr hb;simpa[List.lookup_cons,hb'] using e
    exact ih b o this
noncomputable def iw {α:Type}(as:List Addr)(q:Frag->α)(v:α):Hook where
 α:=α
 obs:=fun s=>q (nF as s.heap)
 val:=fun _=>v
 says:=fun _ h=>∃K:Frag,K.In h/\q K=v
 of:=fun _ s e=>⟨_,rK s.heap as,e⟩
 keeps:=fun _ _ _ ⟨K,a,b⟩ k=>⟨K,a.keeps k,b⟩
theorem Aw {l:OpenLaw}{n k:Nat}{q:Program}{loose:List Str}{XP:(Str->Option Value)->Heap->Prop}{d:DefRec}{α:Type}{as:List Addr}{qs:Frag->α}{v:α}{CX:World->fM}{sp:World->Frag->Sp}{x:Str}
  (hn:l.most=some n)(hn2:n<=sizeLine)(hdf:d.params.defaults=[])(hr:Room k callerA)
  (F:∀(w:World) (K:Frag) (mg:Str->Option Value) (fa:Addr) (h:Heap),qs K=v->K.In h->h.Ns mainGlobals mg->mg d.name=some (.ref fa) ->
   ∃fd:FuncData,(∀(s:Shared) (u:Value),BindsTo s fd ⟨[u],[]⟩ [(x,u)]) /\
    ∀base:Heap,K.In base->base.Ns mainGlobals mg->FnOk l.prog w K mg base (CX w) k fa fd [x] (sp w K))
  (hsp:∀(w:World) (K:Frag) (H:Hp) (a:Addr) (ns:List Int),ns.length<=n->jy H->SqL K H a (ns.map V.int)->sp w K [.ref a] H (fun v _=>v=.bl true) fun _ _ _=>False)
  (hCX:∀(w:World) (H:Hp) (s:Shared) (e:Value) (s':Shared),CX w [] H s (fun _ _ _=>False) e s'->False) :
  WalkO q loose XP (Hook.says (iw as qs v)) l.row.toRowW d [] (fun f vs=>PySem.call f vs):=by
 refine Att.attach_call hn hdf fun w s₀ s₁ mg mb fa o pm cd doc a vs ns G Y ho hd hcd hmg hobj hints hlen hg=>?_;obtain⟨K,KX,hq⟩:=Y;obtain⟨fd,hb,hF⟩:=F w K mg fa _ hq KX G.T.g hmg;exact Ev KX G.T.g G.T.b G.T.builtins G.T.nolimit hg hobj hints (br hlen hn2) hr hF hb (fun H hO hS=>hsp w K H a ns hlen hO hS) fun H e s'=>hCX w H s₁ e s'
theorem Cn {α:Type}{p:α->Prop}{a:α}{l:List α}(h:p a)(t:∀b∈l,p b):∀b∈a::l,p b:=List.forall_mem_cons.mpr ⟨h,t⟩
theorem Nl {α:Type}{p:α->Prop}:∀b∈([]:List α),p b:=fun _ h=>nomatch h
structure Fd where
 x:Str
 q:Str
 k:Nat
 f:Addr
 st:Stmt
 d:Option (Addr×Value)
noncomputable abbrev OV:=Option (Option Value)
noncomputable abbrev DV:=Option uw×Option (Option (List Value))
noncomputable def mi (d:Option (Addr×Value)):Value:=match d with
 | none=>.none
 | some p=>.ref p.1
noncomputable def qD (K:Frag)(d:Fd):DV:=(j8 K d.f,d.d.map fun p=>gB K p.1)
noncomputable def aD (d:Fd):DV:=(some ((d.x,d.q,aj d.st,.stmts (av d.st)),bA d.st,mainGlobals,[],mi d.d,builtinsNs,true),d.d.map fun p=>some [p.2])
section
variable {W:Wd}{T:Ip.Tb}{G:Ip.Pg}{F:Ip.Fn}{ps:List Str}{io:List Nat}{d:Fd}{mg:Str->Option Value}{K:Frag}
noncomputable def ul (N ps:List Str)(sc:Scope):Bool:=sc.kind == .function&&(sc.isCoroutine == false&&(sc.isGenerator == false&&(decide N.Nodup&&(N.take ps.length == ps&&(ps.all (fun x=>sc.names.lookup x == some .local||sc.names.lookup x == some .cell)&&sc.names.all fun y=>y.2 != .free)))))
theorem oK (h:ul N ps sc=true):FnScope N ps sc:=by
 simp only[ul,Bool.and_eq_true,beq_iff_eq,decide_eq_true_eq,List.all_eq_true,Bool.or_eq_true,bne_iff_ne] at h;obtain⟨h1,h2,h3,h4,h5,h6,h7⟩:=h;exact⟨h1,h2,h3,h4,h5,h6,h7⟩
theorem bZ (h:qD W.K d=aD d)(hd:d.d=none:=by rfl)(S:FnScope (Ip.d9 (aj d.st) (bA d.st)) ps (bA d.st):=by exact oK (by kernel_rfl))(hc:Ip.cF T io d.st=some F:=by kernel_rfl)(hnp:F.np=ps.length:=by rfl)(hf:F.dfl=[]:=by rfl)
  (hb:∀(kV doc pm:Value) (an:Option Addr) (cdv ct:Value) (us:List Value),us.length=ps.length->bindArgs (fnOf d.x d.q (aj d.st) (av d.st) (bA d.st) .none kV doc pm an cdv ct) ⟨us,[]⟩=pure (ps.zip us):=by
   intro _ _ _ _ _ _ us hl;first | (obtain⟨_,rfl⟩:=jx hl; rfl) | (obtain⟨_,_,rfl⟩:=jj hl; rfl) | (obtain⟨_,_,_,rfl⟩:=qM hl; rfl)):DefAt W T F d.f:=by
 have h1:=(Prod.mk.inj h).1;rw[hd] at h1;obtain⟨oc,od,kV,doc,pm,an,cdv,ct,osl,l,c⟩:=uf h1;exact Bm l c S hc hnp hf fun us hl=>hb kV doc pm an cdv ct us hl
theorem BC {t:Addr}{u:Value}{v:V}{dd:Ip.D}(h:qD W.K d=aD d)(hd:d.d=some (t,u))(S:FnScope (Ip.d9 (aj d.st) (bA d.st)) ps (bA d.st))(hc:Ip.cF T io d.st=some F)(hnp:F.np=ps.length)(hf:F.dfl=[dd])(r:RelV v u)(dv:∀S,Den W S v dd)
  (hb0:∀(kV doc pm:Value) (an:Option Addr) (cdv ct:Value) {oct:Value} {odt:Option Addr} {n:Nat} {slt:Array (Option Value)},W.K.lookup t=some ⟨oct,odt,.seq #[u] n,slt⟩->Binds W.K (fnOf d.x d.q (aj d.st) (av d.st) (bA d.st) (.ref t) kV doc pm an cdv ct) ps [])
  (hb1:∀(kV doc pm:Value) (an:Option Addr) (cdv ct:Value) {oct:Value} {odt:Option Addr} {n:Nat} {slt:Array (Option Value)},W.K.lookup t=some ⟨oct,odt,.seq #[u] n,slt⟩->Binds W.K (fnOf d.x d.q (aj d.st) (av d.st) (bA d.st) (.ref t) kV doc pm an cdv ct) ps [u]):DefAt W T F d.f:=by
 obtain⟨h1,h2⟩:=Prod.mk.inj h;rw[hd] at h1 h2;obtain⟨oc,od,t',kV,doc,pm,an,cdv,ct,osl,u',oct,odt,n,slt,l,c,lt,r'⟩:=yC (v:=v) h1 (bO h2) r;obtain rfl:t'=t:=by
  have z:=zV l;rw[h1] at z;simp only[Option.some.injEq,Prod.mk.injEq,mi,Value.ref.injEq] at z;exact z.2.2.2.2.1.symm
 have hu:=h2;simp only[Option.map_some,gB,lt,Option.some.injEq,List.cons.injEq,and_true] at hu;subst hu;exact zW (d:=dd) (v:=v) l c S hc hnp hf r dv (hb0 kV doc pm an cdv ct lt) (hb1 kV doc pm an cdv ct lt)
def ng (W:Wd)(T:Ip.Tb)(G:Ip.Pg)(d:Fd):Prop:=∃F,G.fn d.k=some F/\(qD W.K d=aD d->DefAt W T F d.f)
structure Ic where
 x:Str
 c:Nat
 C:Addr
 d:Fd
structure Xc where
 x:Str
 c:Nat
 C:Addr
 tl:List Addr
 d:Fd
noncomputable def qI (K:Frag)(ns:List Str)(e:Ic):OV×List Bool×List OV×List (Option Bool)×List OV×DV:=
  (nsIn K mainGlobals e.x,[plainGet K e.C Str.empty,hasDictIn K e.C,plainOver K e.C,makesIn K e.C,isFn K (.ref e.d.f),keepIn K (.ref e.C)],
   [findIn K (.ref e.C) "__setattr__",findIn K (.ref e.C) "__class__",specialIn K (.builtin "object.__class__") "__get__",findIn K (.ref e.C) "__init__"],
   [takesIn K (.builtin "object.__class__"),mroIn K e.C (.type "object")],ns.map fun n=>findIn K (.ref e.C) n,qD K e.d)
noncomputable def aI (ns:List Str)(e:Ic):OV×List Bool×List OV×List (Option Bool)×List OV×DV:=
  (some (some (.ref e.C)),[true,true,true,true,true,true],
   [some (some (.builtin "object.__setattr__")),some (some (.builtin "object.__class__")),some (some (.builtin "getset_descriptor.__get__")),some (some (.ref e.d.f))],
   [some true,some true],ns.map fun _=>some none,aD e.d)
theorem ins_of (h:qI K ns e=aI ns e):nsIn K mainGlobals e.x=some (some (.ref e.C))/\InsC K e.C/\NoA K e.C ns/\Mk K e.C e.d.f/\qD K e.d=aD e.d:=by
 simp only[qI,aI,Prod.mk.injEq,List.cons.injEq,and_true] at h;obtain⟨h1,⟨b1,b2,b3,b4,b5,b6⟩,⟨c1,c2,c3,c4⟩,⟨d1,d2⟩,h5,h6⟩:=h;exact⟨h1,⟨⟨b1,b2,b3,c1⟩,c2,c3,d1,d2⟩,h5,⟨b4,c4,b5,b6⟩,h6⟩
noncomputable abbrev EV:=OV×Option pH×Bool×List OV×List (Option Bool)×List OV
noncomputable def qV (K:Frag)(ns:List Str)(x:Str)(C:Addr):EV:=
  (nsIn K mainGlobals x,nZ K C,keepIn K (.ref C),
   [findIn K (.ref C) "__init__",findIn K (.ref C) "__setattr__",findIn K (.ref C) "__getattribute__",findIn K (.ref C) "__getattr__",findIn K (.ref C) "__class__",specialIn K (.builtin "object.__class__") "__get__"],
   [takesIn K (.builtin "object.__class__"),mroIn K C (.type "object")],ns.map fun n=>findIn K (.ref C) n)
noncomputable def aV (ns:List Str)(C:Addr)(tl:List Addr)(fI:Value):EV:=
  (some (some (.ref C)),some (.type "type",.ref C::(tl.map Value.ref++bo),true,false,some (.builtin "ValueError.__new__")),true,
   [some (some fI),some (some (.builtin "object.__setattr__")),some (some (.builtin "BaseException.__getattribute__")),some none,some (some (.builtin "object.__class__")),some (some (.builtin "getset_descriptor.__get__"))],
   [some true,some true],ns.map fun _=>some none)
theorem uL (h:qV K ns x C=aV ns C tl fI)(hf:isFn K fI=true\/fI=.builtin "ValueError.__init__"):nsIn K mainGlobals x=some (some (.ref C))/\XC K C fI tl/\XI K C/\NoA K C ns/\keepIn K (.ref C)=true:=by
 simp only[qV,aV,Prod.mk.injEq,List.cons.injEq,and_true] at h;obtain⟨h1,h2,b2,⟨c1,c2,c3,c4,c5,c6⟩,⟨d1,d2⟩,h5⟩:=h;exact⟨h1,⟨t7 h2,c1,hf,c2,c3,c4⟩,⟨c5,c6,d1,d2⟩,h5,b2⟩
noncomputable def qT (K:Frag)(iL xL:List (Nat×Addr))(cv:Value):List (Option Bool)×List (Option Bool)×List (Option Bool):=
 ([kitOne K (.type "NoneType") cv,kitOne K (.type "bool") cv,kitOne K (.type "int") cv,kitOne K (.type "str") cv,kitOne K (.type "list") cv,kitOne K (.type "tuple") cv],iL.map fun p=>kitOne K (.ref p.2) cv,xL.map fun p=>kitOne K (.ref p.2) cv)
noncomputable def aT (G:Ip.Pg)(iL xL:List (Nat×Addr))(t:Ip.Ty):List (Option Bool)×List (Option Bool)×List (Option Bool):=
 ([some (Ip.ao G .non t),some (Ip.ao G (.bl true) t),some (Ip.ao G (.int 0) t),some (Ip.ao G (.str "") t),some (Ip.ao G (.lst []) t),some (Ip.ao G (.tup []) t)],iL.map fun p=>some (Ip.ao G (.ins p.1 []) t),xL.map fun p=>some (Ip.ao G (.exc p.1 []) t))
theorem zQ (h:qT K iL xL cv=aT G iL xL t):bC (cg K iL xL att) G t cv:=
 xY (Prod.mk.inj h).1 (Prod.mk.inj (Prod.mk.inj h).2).1 (Prod.mk.inj (Prod.mk.inj h).2).2
end
structure Tl where
 fL:List Fd
 iC:List Ic
 xC:List Xc
 nC:List (Str×Nat×Addr)
 mL:List (Addr×Fd)
 wa:Addr
 cL:List (Str×Int×Nat)
 tL:List (Str×Addr×List (Str×Nat))
 vC:List (Str×Nat×Addr×List Addr)
noncomputable def Tl.iL (B:Tl):List (Nat×Addr):=B.iC.map fun e=>(e.c,e.C)
noncomputable def Tl.xL (B:Tl):List (Nat×Addr):=B.xC.map (fun e=>(e.c,e.C))++B.vC.map fun e=>(e.2.1,e.2.2.1)
noncomputable def tyV:List (Ip.Ty×Value):=[(.int,.type "int"),(.bool,.type "bool"),(.str,.type "str"),(.list,.type "list"),(.tuple,.type "tuple"),(.dict,.type "dict"),(.verr,.type "ValueError")]
noncomputable def Tl.ty (B:Tl):List (Ip.Ty×Value):=tyV++(B.nC.map (fun e=>(.cls e.2.1,.ref e.2.2))++(B.iC.map (fun e=>(.cls e.c,.ref e.C))++B.xC.map fun e=>(.cls e.c,.ref e.C)))
noncomputable def zL:List Str:=bG.map (·.1)++Ip.jf.map (·.1)
noncomputable abbrev OB:=List (OV×Bool×DV)×List (OV×List Bool×List OV×List (Option Bool)×List OV×DV)×List (EV×Bool×DV)×List OV×List (OV×Bool×Bool×DV) ×
 (OV×Bool×Option CFound×Option pH)×List (List (Option Bool)×List (Option Bool)×List (Option Bool))×List OV×List OV×Bool×List (OV×Option (Value×Bool×Option (List Value)))×List EV
noncomputable def gZ (K:Frag)(a:Addr):Option (Value×Bool×Option (List Value)):=(K.lookup a).map fun o=>(o.cls,o.dict.isNone,match o.data with
 | .seq its _=>some its.toList
 | _=>none)
noncomputable def Tl.q (B:Tl)(ns:List Str)(K:Frag):OB:=
  (B.fL.map fun d=>(nsIn K mainGlobals d.x,keepIn K (.ref d.f),qD K d),B.iC.map (qI K ns),B.xC.map (fun e=>(qV K ns e.x e.C,isFn K (.ref e.d.f),qD K e.d)),B.nC.map fun e=>nsIn K mainGlobals e.1,
   B.mL.map fun e=>(findIn K (.ref e.1) e.2.x,isFn K (.ref e.2.f),keepIn K (.ref e.2.f),qD K e.2),
   (specialIn K (.ref B.wa) "__getattribute__",readsIn K B.wa (.type "type"),findCls K (.ref B.wa) (.type "type") "__init__",nZ K B.wa),B.ty.map fun e=>qT K B.iL B.xL e.2,
   zL.map fun x=>nsIn K mainGlobals x,B.cL.map fun c=>nsIn K mainGlobals c.1,K.all (fun p=>!(p.2.cls == Value.type "list")),B.tL.map (fun c=>(nsIn K mainGlobals c.1,gZ K c.2.1)),B.vC.map fun e=>qV K ns e.1 e.2.2.1)
noncomputable def Tl.a (B:Tl)(ns:List Str)(G:Ip.Pg):OB:=
  (B.fL.map fun d=>(some (some (.ref d.f)),true,aD d),B.iC.map (aI ns),B.xC.map (fun e=>(aV ns e.C e.tl (.ref e.d.f),true,aD e.d)),B.nC.map fun e=>some (some (.ref e.2.2)),
   B.mL.map fun e=>(some (some (.ref e.2.f)),true,true,aD e.2),
   (some (some (.builtin "type.__getattribute__")),true,some (.val (.builtin "ValueError.__init__")),some (.type "type",.ref B.wa::(([]:List Addr).map Value.ref++bo),true,false,some (.builtin "ValueError.__new__"))),B.ty.map fun e=>aT G B.iL B.xL e.1,
   zL.map fun _=>some none,B.cL.map fun c=>some (some (.int c.2.1 c.2.2)),true,B.tL.map (fun c=>(some (some (.ref c.2.1)),some (.type "tuple",true,some (c.2.2.map fun s=>.str s.1 s.2)))),B.vC.map fun e=>aV ns e.2.2.1 e.2.2.2 (.builtin "ValueError.__init__"))
theorem yQ:∀p∈bG,bootBuiltins p.1=some p.2:=Cn rfl <| Cn rfl <| Cn rfl <| Cn rfl <| Cn rfl <| Cn rfl <| Cn rfl <| Cn rfl <| Cn rfl <| Cn rfl <| Cn rfl <| Cn rfl <| Cn rfl <| Cn rfl Nl
theorem zz:∀p∈Ip.jf,p.1 ≠ "__name__" /\ (p.1 == ("__debug__" : Str))=false/\∃nm,bootBuiltins p.1=some (.type nm)/\(p.2,Value.type nm)∈tyV:=
 Cn ⟨by decide +kernel,by decide +kernel,_,rfl,by simp[tyV]⟩ <| Cn ⟨by decide +kernel,by decide +kernel,_,rfl,by simp[tyV]⟩ <| Cn ⟨by decide +kernel,by decide +kernel,_,rfl,by simp[tyV]⟩ <| Cn ⟨by decide +kernel,by decide +kernel,_,rfl,by simp[tyV]⟩ <|
 Cn ⟨by decide +kernel,by decide +kernel,_,rfl,by simp[tyV]⟩ <| Cn ⟨by decide +kernel,by decide +kernel,_,rfl,by simp[tyV]⟩ <| Cn ⟨by decide +kernel,by decide +kernel,_,rfl,by simp[tyV]⟩ Nl
section
variable {T:Ip.Tb}{G:Ip.Pg}{mg:Str->Option Value}{K:Frag}{h:Heap}{B:Tl}{ns:List Str}
theorem nK {l:List Str}(s:(l.all fun x=>!(x == ("__debug__" : Str)))=true){x:Str}(hx:x∈l):(x == ("__debug__" : Str))=false:=by
 have:=dF s x hx;simpa using this
theorem Cu {p:Str×Nat}(s:(B.nC.any (fun e=>e.1 == p.1&&e.2.1 == p.2)||B.iC.any (fun e=>e.x == p.1&&e.c == p.2)||B.xC.any (fun e=>e.x == p.1&&e.c == p.2))=true) :
  (∃e∈B.nC,e.1=p.1/\e.2.1=p.2)\/(∃e∈B.iC,e.x=p.1/\e.c=p.2)\/∃e∈B.xC,e.x=p.1/\e.c=p.2:=by
 simp only[Bool.or_eq_true,List.any_eq_true,Bool.and_eq_true,beq_iff_eq] at s;rcases s with (s | s) | s
 ·exact .inl s
 ·exact .inr (.inl s)
 ·exact .inr (.inr s)
structure Ans (B:Tl)(ns:List Str)(G:Ip.Pg)(K:Frag):Prop where
 f:∀d∈B.fL,nsIn K mainGlobals d.x=some (some (.ref d.f))/\keepIn K (.ref d.f)=true/\qD K d=aD d
 i:∀e∈B.iC,nsIn K mainGlobals e.x=some (some (.ref e.C))/\InsC K e.C/\NoA K e.C ns/\Mk K e.C e.d.f/\qD K e.d=aD e.d
 x:∀e∈B.xC,nsIn K mainGlobals e.x=some (some (.ref e.C))/\XC K e.C (.ref e.d.f) e.tl/\XI K e.C/\NoA K e.C ns/\keepIn K (.ref e.C)=true/\qD K e.d=aD e.d
 n:∀e∈B.nC,nsIn K mainGlobals e.1=some (some (.ref e.2.2))
 m:∀e∈B.mL,Meth K e.1 e.2.x e.2.f/\qD K e.2=aD e.2
 wi:XInit K B.wa
 wo:XO K B.wa []
 t:∀e∈B.ty,∀att,bC (cg K B.iL B.xL att) G e.1 e.2
 z:∀x∈zL,nsIn K mainGlobals x=some none
 c:∀c∈B.cL,nsIn K mainGlobals c.1=some (some (.int c.2.1 c.2.2))
 l:(K.all fun p=>!(p.2.cls == Value.type "list"))=true
 v:∀e∈B.vC,nsIn K mainGlobals e.1=some (some (.ref e.2.2.1))/\XC K e.2.2.1 (.builtin "ValueError.__init__") e.2.2.2/\XI K e.2.2.1/\NoA K e.2.2.1 ns/\keepIn K (.ref e.2.2.1)=true
 u:∀c∈B.tL,nsIn K mainGlobals c.1=some (some (.ref c.2.1))/\gZ K c.2.1=some (.type "tuple",true,some (c.2.2.map fun s=>.str s.1 s.2))
theorem By (e:B.q ns K=B.a ns G):Ans B ns G K:=by
 simp only[Tl.q,Tl.a,Prod.mk.injEq] at e;obtain⟨e1,e2,e3,e4,e5,⟨w1,w2,w3,w4⟩,e7,e8,e9,e10,e11,e12⟩:=e;refine⟨fun d hd=>?_,fun d hd=>ins_of (List.map_inj_left.mp e2 d hd),fun d hd=>?_,fun d hd=>List.map_inj_left.mp e4 d hd,fun d hd=>?_,⟨w1,w2,w3⟩,t7 w4,fun d hd att=>zQ (List.map_inj_left.mp e7 d hd),fun x hx=>List.map_inj_left.mp e8 x hx,fun c hc=>List.map_inj_left.mp e9 c hc,e10,fun d hd=>uL (List.map_inj_left.mp e12 d hd) (.inr rfl),fun c hc=>Prod.mk.injEq .. ▸ List.map_inj_left.mp e11 c hc⟩
 ·have:=List.map_inj_left.mp e1 d hd;simpa only[Prod.mk.injEq] using this
 ·have:=List.map_inj_left.mp e3 d hd;simp only[Prod.mk.injEq] at this;obtain⟨a,b,c⟩:=this;obtain⟨h1,h2,h3,h4,h5⟩:=uL a (.inl b);exact⟨h1,h2,h3,h4,h5,c⟩
 ·have:=List.map_inj_left.mp e5 d hd;simp only[Prod.mk.injEq] at this;exact⟨⟨this.1,this.2.1,this.2.2.1⟩,this.2.2.2⟩
theorem Dh (l:List (Str×Nat)):(Ip.D.tup (l.map fun s=>.str s.1)).flat=true:=by
 induction l with
 | nil=>rfl
 | cons x l ih=>simpa[Ip.D.flat,Ip.D.flats] using ih
theorem tG:∀l:List (Str×Nat),Dens W S (l.map fun s=>V.str s.1) (l.map fun s=>Ip.D.str s.1)
 | []=>.nil
 | _::l=>.cons .str (tG l)
theorem t4:∀l:List (Str×Nat),Vals (l.map fun s=>V.str s.1) (l.map fun s=>Value.str s.1 s.2)
 | []=>.nil
 | _::l=>.cons ⟨_,rfl⟩ (t4 l)
theorem Cc {S:Hp}{a:Addr}{l:List (Str×Nat)}(h:gZ K a=some (.type "tuple",true,some (l.map fun s=>.str s.1 s.2)))(hz:l.length<=6):SqT K S a (l.map fun s=>V.str s.1):=by
 unfold gZ at h;cases e:K.lookup a with
 | none=>rw[e] at h; cases h
 | some o=>
  rw[e] at h;simp only[Option.map_some,Option.some.injEq,Prod.mk.injEq] at h;obtain⟨h1,h2,h3⟩:=h;have hd:o.dict=none:=by
   cases hh:o.dict with
   | none=>rfl
   | some x=>rw[hh] at h2; cases h2
  cases hdt:o.data with
  | seq its n=>
   rw[hdt] at h3;have e3:its.toList=l.map fun s=>Value.str s.1 s.2:=bO h3;refine .inr ⟨o,its,n,e,h1,hd,hdt,?_,by rw[e3]; exact t4 l⟩;have:its.size=l.length:=by rw[<-Array.length_toList,e3,List.length_map]
   rw[this];exact br hz (by decide)
  | _=>rw[hdt] at h3; cases h3
theorem yD {cw:Nat}(clL:List (Nat×Ip.Cl))(X:K.In h)(Gl:h.Ns mainGlobals mg)(A:Ans B (mQ T.fl T.att) G K)(hcl:∀c,G.cl c=clL.lookup c)
  (s1:T.fns=B.fL.map fun d=>(d.x,d.k))
  (s2:(T.cls.all fun p=>B.nC.any (fun e=>e.1 == p.1&&e.2.1 == p.2)||B.iC.any (fun e=>e.x == p.1&&e.c == p.2)||B.xC.any (fun e=>e.x == p.1&&e.c == p.2))=true)
  (s3:((T.wb::(T.fns.map (·.1)++(T.cls.map (·.1)++T.cst.map (·.1)))).all fun x=>!(x == ("__debug__" : Str)))=true)
  (s4:T.cst=B.cL.map (fun c=>(c.1,Ip.D.int c.2.1))++B.tL.map fun c=>(c.1,Ip.D.tup (c.2.2.map fun s=>.str s.1)))(nd:T.att.Nodup)(s5:(B.tL.all fun c=>decide (c.2.2.length<=6))=true)
  (okF:∀d∈B.fL,ng (cg K B.iL B.xL T.att) T G d)
  (okI:∀e∈B.iC,ng (cg K B.iL B.xL T.att) T G e.d/\B.iL.lookup e.c=some e.C/\∃Cl,G.cl e.c=some Cl/\Cl.init=some e.d.k/\Cl.isx=false)
  (okX:∀e∈B.xC,ng (cg K B.iL B.xL T.att) T G e.d/\B.xL.lookup e.c=some e.C/\∃Cl,G.cl e.c=some Cl/\Cl.init=some e.d.k/\Cl.isx=true)
  (okN:∀e∈B.nC,∃Cl,G.cl e.2.1=some Cl/\Cl.init=none)
  (okM:∀e∈B.mL,ng (cg K B.iL B.xL T.att) T G e.2)
  (sM:(clL.all fun p=>p.2.meths.isEmpty||(match B.iL.lookup p.1 with
   | some C=>p.2.meths.all fun m=>B.mL.any fun e=>e.1 == C&&(T.att[m.1]? == some e.2.x&&e.2.k == m.2)
   | none=>false))=true)
  (sW:(T.wb,cw,B.wa)∈B.nC)(sX:(B.xC.all fun e=>(e.C::e.tl).contains B.wa)=true)(sB:T.bare=B.vC.map fun e=>(e.1,e.2.1))(sV:(B.vC.all fun e=>!(e.1 == ("__debug__" : Str))&&(B.xL.lookup e.2.1 == some e.2.2.1&&(e.2.2.1::e.2.2.2).contains B.wa))=true) :
  GF0 (cg K B.iL B.xL T.att) G T mg/\GT (cg K B.iL B.xL T.att) G T mg:=by
 have d1:∀p∈T.fns,(p.1 == ("__debug__" : Str))=false:=fun p hp=>nK s3 (bw _ (dP _ (List.mem_map_of_mem hp)));have d2:∀p∈T.cls,(p.1 == ("__debug__" : Str))=false:=fun p hp=>nK s3 (bw _ (bR _ (dP _ (List.mem_map_of_mem hp))));have d3:∀p∈T.cst,(p.1 == ("__debug__" : Str))=false:=fun p hp=>nK s3 (bw _ (bR _ (bR _ (List.mem_map_of_mem hp))));have d4:(T.wb == ("__debug__" : Str))=false:=nK s3 bD;refine⟨BP ?cf rfl ?blt ?cst ?fns ?cls ?meth ?isB,D2 d4 (mg_of X Gl (A.n _ sW)) A.wi A.wo (fun p hp=>?_) fun x c hx=>?_⟩
 case cf=>
  refine ym nd (fun p hp=>?_) fun p hp=>?_
  ·obtain⟨e,he,rfl⟩:=du hp;exact⟨(A.i e he).2.1,(A.i e he).2.2.1⟩
  ·rcases dk hp with hp | hp <;> obtain⟨e,he,rfl⟩:=du hp
   ·obtain⟨_,a1,a2,a3,_⟩:=A.x e he;exact⟨⟨⟨_,_,a1⟩,a2⟩,a3⟩
   ·obtain⟨_,a1,a2,a3,_⟩:=A.v e he;exact⟨⟨⟨_,_,a1⟩,a2⟩,a3⟩
 case blt=>exact fun p hp=>⟨mg_none_of X Gl (A.z _ (dP _ (List.mem_map_of_mem hp))),yQ p hp⟩
 case cst=>
  intro p hp;have h0:=d3 p hp;rw[s4] at hp;rcases dk hp with hp | hp
  ·obtain⟨c,hc,rfl⟩:=du hp;exact⟨h0,_,.int c.2.1,mg_of X Gl (A.c c hc),⟨_,rfl⟩,rfl,fun _=>.int⟩
  ·obtain⟨c,hc,rfl⟩:=du hp;obtain⟨a1,a2⟩:=A.u c hc;have hz:c.2.2.length<=6:=of_decide_eq_true (dF s5 c hc);exact⟨h0,_,.ref c.2.1,mg_of X Gl a1,rfl,Dh _,fun S=>.tup (Cc a2 hz) (tG _)⟩
 case fns=>
  intro p hp;have h0:=d1 p hp;rw[s1] at hp;obtain⟨d,hd,rfl⟩:=du hp;obtain⟨F,f1,f2⟩:=okF d hd;obtain⟨a1,a2,a3⟩:=A.f d hd;exact⟨h0,F,d.f,f1,mg_of X Gl a1,a2,f2 a3⟩
 case cls=>
  intro p hp;refine⟨d2 p hp,?_⟩;rcases Cu (dF s2 p hp) with ⟨e,he,q1,q2⟩ | ⟨e,he,q1,q2⟩ | ⟨e,he,q1,q2⟩
  ·obtain⟨Cl,c1,c2⟩:=okN e he;refine⟨e.2.2,by rw[<-q1]; exact mg_of X Gl (A.n e he),by rw[<-q2]; exact A.t (.cls e.2.1,.ref e.2.2) (bR _ (dP _ (List.mem_map_of_mem (f:=fun e:Str×Nat×Addr=>(Ip.Ty.cls e.2.1,Value.ref e.2.2)) he))) _,fun Cl' f F h1 h2 _=>?_⟩;rw[<-q2,c1] at h1;cases h1;rw[c2] at h2;cases h2
  ·obtain⟨⟨F',f1,f2⟩,li,Cl,c1,c2,c3⟩:=okI e he;obtain⟨a1,_,_,a4,a5⟩:=A.i e he;refine⟨e.C,by rw[<-q1]; exact mg_of X Gl a1,by rw[<-q2]; exact A.t (.cls e.c,.ref e.C) (bR _ (bR _ (dP _ (List.mem_map_of_mem (f:=fun e:Ic=>(Ip.Ty.cls e.c,Value.ref e.C)) he)))) _,fun Cl' f F h1 h2 h3=>?_⟩;rw[<-q2,c1] at h1;cases h1;rw[c2] at h2;cases h2;rw[f1] at h3;cases h3;refine⟨e.d.f,f2 a5,?_⟩;rw[c3,<-q2];exact⟨li,a4⟩
  ·obtain⟨⟨F',f1,f2⟩,li,Cl,c1,c2,c3⟩:=okX e he;obtain⟨a1,a2,_,_,a4,a5⟩:=A.x e he;refine⟨e.C,by rw[<-q1]; exact mg_of X Gl a1,by rw[<-q2]; exact A.t (.cls e.c,.ref e.C) (bR _ (bR _ (bR _ (List.mem_map_of_mem (f:=fun e:Xc=>(Ip.Ty.cls e.c,Value.ref e.C)) he)))) _,fun Cl' f F h1 h2 h3=>?_⟩;rw[<-q2,c1] at h1;cases h1;rw[c2] at h2;cases h2;rw[f1] at h3;cases h3;refine⟨e.d.f,f2 a5,?_⟩;rw[c3,<-q2];exact⟨li,a4,_,a2⟩
 case meth=>
  intro c Cl' h1 hm;rw[hcl] at h1;have q:=dF sM (c,Cl') (eh h1);have hm':Cl'.meths.isEmpty=false:=by cases hh:Cl'.meths with | nil=>exact absurd hh hm | cons _ _=>rfl
  rw[hm',Bool.false_or] at q;cases hi:B.iL.lookup c with
  | none=>rw[hi] at q; cases q
  | some C=>
   rw[hi] at q;refine⟨C,hi,fun p hp=>?_⟩;obtain⟨e,he,q1⟩:=List.any_eq_true.mp (dF q p hp);simp only[Bool.and_eq_true,beq_iff_eq] at q1;obtain⟨rfl,q2,q3⟩:=q1;obtain⟨F,f1,f2⟩:=okM e he;obtain⟨a1,a2⟩:=A.m e he;exact⟨F,e.2.x,e.2.f,by rw[<-q3]; exact f1,q2,a1,f2 a2⟩
 case isB=>
  intro p hp;obtain⟨b1,b2,nm,b3,b4⟩:=zz p hp;exact⟨mg_none_of X Gl (A.z _ (bR _ (List.mem_map_of_mem hp))),b1,b2,nm,b3,A.t (p.2,.type nm) (dP _ b4) _⟩
 ·rcases dk hp with hp | hp <;> obtain⟨e,he,rfl⟩:=du hp
  ·exact⟨e.tl,(A.x e he).2.1.toXO,by have:=dF sX e he; exact List.contains_iff_mem.mp this⟩
  ·exact⟨e.2.2.2,(A.v e he).2.1.toXO,List.contains_iff_mem.mp (Bool.and_eq_true_iff.mp (Bool.and_eq_true_iff.mp (dF sV e he)).2).2⟩
 ·rw[sB] at hx;obtain⟨e,he,q⟩:=du (L2.eh hx);cases q;have s:=dF sV e he;simp only[Bool.and_eq_true,beq_iff_eq] at s;obtain⟨a1,a2,_,_,a5⟩:=A.v e he;exact⟨by simpa using s.1,_,_,mg_of X Gl a1,s.2.1,a2,a5⟩
end
end Hd
end
section
namespace Ip
open PySem (Str)
noncomputable def pW:List Str:=["__init__", "row", "garment", "over", "place", "first", "second", "moment", "name", "place_count", "covered_places", "spots", "many", "covers", "meet", "wardrobe", "prices", "start", "dressers", "beats", "scenes"]
noncomputable def T_k22:Tb:=⟨[("is_whole",0),("is_below",1),("copied",2),("is_rising",15),("are_places",16),("check_garment",17),("worn_in",24),("put_on",25),("right_over",26),("take_off",27),("wearer",41),("check_free",42),("deed_done",43),("deeds_done",44),("_law_cell",98),("_law_mix",71),("_law_covers",99),("_law_wears",115),("_law_moved",117),("_law_any_deed",121),("_law_number",122),("_law_due",82),("_law_told",78),("_law_refused",76),("_law_asked",114),("law",69)],[("WardrobeError",0),("TooMuch",1),("NoGarment",2),("Worn",3),("NotWorn",4),("Covered",5),("NoLook",6),("NoDeed",7),("Crossed",8),("Wardrobe",17)], "WardrobeError",pW,[1,2,3,4,5,6,7,8,9,10,15,16,17,18,19,20],[("DEEPEST",(.int (100))),("MOST_PLACES",(.int (6))),("MOST_GARMENTS",(.int (6))),("WORDS",(.tup [(.str "on"),(.str "off")]))],[("NoDeed",7)]⟩
noncomputable def kd:Fn:=⟨1,[],1,[],[
  .ret (.and (.op (.isi [.int]) [(.var 0)]) (.op .not [(.op (.isi [.bool]) [(.var 0)])]))]⟩
noncomputable def gI:Fn:=⟨2,[],2,[],[
  .ret (.and (.call 0 [(.var 0)]) (.chain .le .lt (.cst (.int (0))) (.var 0) (.var 1)))]⟩
noncomputable def lY:Fn:=⟨2,[],2,[(.int (0))],[
  .iff (.op .eq [(.var 1),(.cst (.int (100)))]) [.ret (.var 0)] [],
  .iff (.op (.isi [.list]) [(.var 0)]) [.ret (.comp [none,none,(some 1)] (.one 1) .seq [(.var 0)] [] (.call 2 [(.var 1),(.op .add [(.var 2),(.cst (.int (1)))])]))] [],
  .iff (.op (.isi [.tuple]) [(.var 0)]) [.ret (.op .tuple [(.comp [none,none,(some 1)] (.one 1) .seq [(.var 0)] [] (.call 2 [(.var 1),(.op .add [(.var 2),(.cst (.int (1)))])]))])] [],
  .iff (.op (.isi [.dict]) [(.var 0)]) [.ret .bad] [],
  .ret (.var 0)]⟩
noncomputable def nE:Fn:=⟨1,[],1,[],[
  .ret (.op .all [(.comp [none,none,none] (.many [1,2]) .zip [(.var 0),(.op .slL [(.var 0),(.cst (.int (1)))])] [] (.op .lt [(.var 1),(.var 2)]))])]⟩
noncomputable def ku:Fn:=⟨2,[],2,[],[
  .iff (.or (.op .not [(.op (.isi [.list]) [(.var 0)])]) (.op .eq [(.op .len [(.var 0)]),(.cst (.int (0)))])) [.ret (.cst (.bl false))] [],
  .ret (.and (.op .all [(.comp [none,none,(some 1)] (.one 1) .seq [(.var 0)] [] (.call 1 [(.var 1),(.var 2)]))]) (.call 15 [(.var 0)]))]⟩
noncomputable def fO:Fn:=⟨2,[],2,[],[
  .iff (.op .not [(.call 1 [(.var 1),(.meth 12 (.var 0) [])])]) [.rais 2 [(.var 1)]] []]⟩
noncomputable def iO:Fn:=⟨1,[],3,[],[
  .set 1 (.op .lst []),
  .fo (.one 2) .seq [(.var 0)] [.mut 1 [] .extend [(.var 2)]],
  .ret (.op .srtSet [(.var 1)])]⟩
noncomputable def oa:Fn:=⟨3,[],5,[],[
  .ex (.call 17 [(.var 0),(.var 2)]),
  .iff (.op .isin [(.var 2),(.call 24 [(.var 1)])]) [.rais 3 [(.var 2)]] [],
  .set 3 (.op .list [(.var 1)]),
  .fo (.one 4) .seq [(.meth 13 (.var 0) [(.var 2)])] [.put 3 [] (.var 4) (.op .add [(.op .ix [(.var 3),(.var 4)]),(.op .tup [(.var 2)])])],
  .ret (.op .tuple [(.var 3)])]⟩
noncomputable def gO:Fn:=⟨3,[],7,[],[
  .ex (.call 17 [(.var 0),(.var 2)]),
  .iff (.op .nin [(.var 2),(.call 24 [(.var 1)])]) [.rais 4 [(.var 2)]] [],
  .set 3 (.op .lst []),
  .fo (.one 4) .seq [(.meth 13 (.var 0) [(.var 2)])] [.set 5 (.op .ix [(.var 1),(.var 4)]),.set 6 (.op .add [(.op .index [(.var 5),(.var 2)]),(.cst (.int (1)))]),.mut 3 [] .extend [(.sl2 (.var 5) (.var 6) (.op .add [(.var 6),(.cst (.int (1)))]))]],
  .ret (.op .srtSet [(.var 3)])]⟩
noncomputable def hV:Fn:=⟨3,[],6,[],[
  .set 3 (.call 26 [(.var 0),(.var 1),(.var 2)]),
  .iff (.op .gt [(.op .len [(.var 3)]),(.cst (.int (0)))]) [.rais 5 [(.var 2),(.op .ix [(.var 3),(.cst (.int (0)))])]] [],
  .set 4 (.op .list [(.var 1)]),
  .fo (.one 5) .seq [(.meth 13 (.var 0) [(.var 2)])] [.put 4 [] (.var 5) (.op .slH [(.op .ix [(.var 4),(.var 5)]),(.op .neg [(.cst (.int (1)))])])],
  .ret (.op .tuple [(.var 4)])]⟩
noncomputable def lN:Fn:=⟨2,[],4,[],[
  .fo (.many [2,3]) .enum [(.var 0)] [.iff (.op .isin [(.var 1),(.call 24 [(.var 3)])]) [.ret (.var 2)] []],
  .ret (.cst .non)]⟩
noncomputable def iV:Fn:=⟨3,[],3,[],[
  .ex (.call 17 [(.var 0),(.var 2)]),
  .iff (.op .notN [(.call 41 [(.var 1),(.var 2)])]) [.rais 3 [(.var 2)]] []]⟩
noncomputable def fW:Fn:=⟨3,[],7,[],[
  .set 3 (.op .ix [(.var 2),(.cst (.int (0)))]),
  .set 4 (.op .ix [(.var 2),(.cst (.int (1)))]),
  .set 5 (.op .ix [(.var 2),(.cst (.int (2)))]),
  .iff (.or (.op .not [(.call 1 [(.var 3),(.op .len [(.var 1)])])]) (.op .nin [(.var 4),(.cst (.tup [(.str "on"),(.str "off")]))])) [.raisV 7] [],
  .set 6 (.op .list [(.var 1)]),
  .iff (.op .eq [(.var 4),(.cst (.str "on"))]) [.ex (.call 42 [(.var 0),(.var 1),(.var 5)]),.put 6 [] (.var 3) (.call 25 [(.var 0),(.op .ix [(.var 1),(.var 3)]),(.var 5)])] [.put 6 [] (.var 3) (.call 27 [(.var 0),(.op .ix [(.var 1),(.var 3)]),(.var 5)])],
  .ret (.op .tuple [(.var 6)])]⟩
noncomputable def kO:Fn:=⟨3,[],4,[],[
  .fo (.one 3) .seq [(.var 2)] [.set 1 (.call 43 [(.var 0),(.var 1),(.var 3)])],
  .ret (.var 1)]⟩
noncomputable def ig:Fn:=⟨2,[],2,[],[
  .iff (.op .lt [(.var 1),(.op .len [(.var 0)])]) [.ret (.op .ix [(.var 0),(.var 1)])] [],
  .ret (.cst (.int (0)))]⟩
noncomputable def dS:Fn:=⟨3,[],6,[],[
  .iff (.op .gt [(.var 0),(.op .pow [(.cst (.int (10))),(.cst (.int (9)))])]) [.set 3 (.op .fdiv [(.var 0),(.cst (.int (1000)))]),.fo (.one 4) .rng1 [(.op .mod [(.var 1),(.cst (.int (9)))])] [.set 3 (.op .fdiv [(.var 3),(.cst (.int (1000)))])],.ret (.op .mod [(.op .mod [(.var 3),(.cst (.int (1000)))]),(.var 2)])] [],
  .set 5 (.op .add [(.op .add [(.op .mod [(.var 0),(.cst (.int (1000003)))]),(.op .mul [(.cst (.int (31))),(.var 1)])]),(.cst (.int (1)))]),
  .ret (.op .mod [(.op .fdiv [(.op .mod [(.op .add [(.op .add [(.op .mul [(.var 5),(.var 5)]),(.op .mul [(.cst (.int (65537))),(.var 5)])]),(.op .mul [(.cst (.int (977))),(.var 1)])]),(.cst (.int (999983)))]),(.cst (.int (3)))]),(.var 2)])]⟩
noncomputable def nY:Fn:=⟨2,[],7,[],[
  .set 2 (.op .lst []),
  .fo (.one 3) .rng1 [(.op .mod [(.call 98 [(.var 0),(.cst (.int (1)))]),(.cst (.int (7)))])] [.set 4 (.call 98 [(.var 0),(.op .add [(.cst (.int (2))),(.var 3)])]),.set 5 (.op .add [(.cst (.int (1))),(.call 71 [(.var 4),(.cst (.int (1))),(.op .ix [(.op .lst [(.cst (.int (1))),(.cst (.int (3))),(.cst (.int (7))),(.cst (.int (15))),(.cst (.int (31))),(.cst (.int (63)))]),(.op .sub [(.var 1),(.cst (.int (1)))])])])]),.set 6 (.comp [none,none,(some 5)] (.one 1) .rng1 [(.var 1)] [(.op .eq [(.op .mod [(.op .fdiv [(.var 2),(.op .ix [(.op .lst [(.cst (.int (1))),(.cst (.int (2))),(.cst (.int (4))),(.cst (.int (8))),(.cst (.int (16))),(.cst (.int (32)))]),(.var 1)])]),(.cst (.int (2)))]),(.cst (.int (1)))])] (.var 1)),.iff (.op .eq [(.call 71 [(.var 4),(.cst (.int (2))),(.cst (.int (2)))]),(.cst (.int (1)))]) [.set 6 (.op .slH [(.op .slL [(.var 6),(.call 71 [(.var 4),(.cst (.int (3))),(.op .len [(.var 6)])])]),(.cst (.int (1)))])] [],.mut 2 [] .append [(.var 6)]],
  .ret (.var 2)]⟩
noncomputable def iB:Fn:=⟨2,[],3,[],[
  .fo (.one 2) .rng1 [(.op .len [(.var 0)])] [.iff (.op .any [(.comp [none,none,(some 1)] (.one 1) .seq [(.op .ix [(.var 0),(.var 2)])] [] (.op .isin [(.var 2),(.var 1)]))]) [.ret (.var 2)] []],
  .ret (.cst .non)]⟩
noncomputable def nW:Fn:=⟨3,[],9,[],[
  .setT [3,4,5] (.var 1),
  .set 6 (.op .lst []),
  .fo (.one 7) .rng1 [(.op .len [(.op .ix [(.var 0),(.var 3)])])] [.set 8 (.op .ix [(.op .ix [(.var 0),(.var 3)]),(.var 7)]),.iff (.op .isin [(.var 7),(.op .ix [(.var 2),(.var 5)])]) [.set 8 (.op .ix [(.op .lst [(.op .slH [(.var 8),(.op .neg [(.cst (.int (1)))])]),(.op .add [(.var 8),(.op .tup [(.var 5)])])]),(.op .toInt [(.op .eq [(.var 4),(.cst (.str "on"))])])])] [],.mut 6 [] .append [(.var 8)]],
  .ret (.op .add [(.op .add [(.op .slH [(.var 0),(.var 3)]),(.op .tup [(.op .tuple [(.var 6)])])]),(.op .slL [(.var 0),(.op .add [(.var 3),(.cst (.int (1)))])])])]⟩
noncomputable def jY:Fn:=⟨3,[],6,[],[
  .set 3 (.call 71 [(.var 0),(.cst (.int (24))),(.var 1)]),
  .iff (.op .eq [(.call 71 [(.var 0),(.cst (.int (25))),(.cst (.int (8)))]),(.cst (.int (3)))]) [.set 3 (.op .ix [(.op .lst [(.op .neg [(.cst (.int (1)))]),(.var 1),(.cst (.bl true)),(.cst .non)]),(.call 71 [(.var 0),(.cst (.int (26))),(.cst (.int (4)))])])] [],
  .set 4 (.op .ix [(.op .lst [(.cst (.str "on")),(.cst (.str "off"))]),(.call 71 [(.var 0),(.cst (.int (27))),(.cst (.int (2)))])]),
  .iff (.op .eq [(.call 71 [(.var 0),(.cst (.int (28))),(.cst (.int (10)))]),(.cst (.int (7)))]) [.set 4 (.op .ix [(.op .lst [(.cst (.str "")),(.cst (.str "On")),(.cst (.str "of")),(.cst (.str "onoff")),(.cst .non)]),(.call 71 [(.var 0),(.cst (.int (29))),(.cst (.int (5)))])])] [],
  .set 5 (.call 71 [(.var 0),(.cst (.int (30))),(.op .max2 [(.cst (.int (1))),(.var 2)])]),
  .iff (.or (.op .eq [(.var 2),(.cst (.int (0)))]) (.op .eq [(.call 71 [(.var 0),(.cst (.int (31))),(.cst (.int (8)))]),(.cst (.int (5)))])) [.set 5 (.op .ix [(.op .lst [(.var 2),(.op .neg [(.cst (.int (1)))]),(.cst (.bl true)),(.cst .non),(.cst (.str "0"))]),(.call 71 [(.var 0),(.cst (.int (32))),(.cst (.int (5)))])])] [],
  .ret (.op .tup [(.var 3),(.var 4),(.var 5)])]⟩
noncomputable def jv:Fn:=⟨2,[],2,[],[
  .ret (.and (.op (.isi [.int]) [(.var 0)]) (.and (.op .not [(.op (.isi [.bool]) [(.var 0)])]) (.chain .le .lt (.cst (.int (0))) (.var 0) (.var 1))))]⟩
noncomputable def gX:Fn:=⟨3,[],9,[],[
  .setT [3,4,5] (.var 1),
  .iff (.or (.op .not [(.call 122 [(.var 3),(.op .len [(.var 0)])])]) (.op .nin [(.var 4),(.op .lst [(.cst (.str "on")),(.cst (.str "off"))])])) [.ret (.op .tup [(.cst (.str "deed"))])] [],
  .iff (.op .not [(.call 122 [(.var 5),(.op .len [(.var 2)])])]) [.ret (.op .tup [(.cst (.str "garment")),(.var 5)])] [],
  .iff (.and (.op .eq [(.var 4),(.cst (.str "on"))]) (.op .notN [(.call 115 [(.var 0),(.var 5)])])) [.ret (.op .tup [(.cst (.str "worn")),(.var 5)])] [],
  .iff (.and (.op .eq [(.var 4),(.cst (.str "off"))]) (.op .ne [(.call 115 [(.var 0),(.var 5)]),(.var 3)])) [.ret (.op .tup [(.cst (.str "not worn")),(.var 5)])] [],
  .iff (.op .eq [(.var 4),(.cst (.str "off"))]) [.set 6 (.op .lst []),.fo (.one 7) .seq [(.op .ix [(.var 2),(.var 5)])] [.set 8 (.op .ix [(.op .ix [(.var 0),(.var 3)]),(.var 7)]),.set 6 (.op .add [(.var 6),(.op .list [(.op .slH [(.op .slL [(.var 8),(.op .add [(.op .index [(.var 8),(.var 5)]),(.cst (.int (1)))])]),(.cst (.int (1)))])])])],.iff (.op .gt [(.op .len [(.var 6)]),(.cst (.int (0)))]) [.ret (.op .tup [(.cst (.str "covered")),(.var 5),(.op .min1 [(.var 6)])])] []] [],
  .ret (.cst .non)]⟩
noncomputable def ph:Fn:=⟨1,[],3,[],[
  .set 1 (.op .lst [(.op (.isi [.cls 7]) [(.var 0)]),(.op (.isi [.cls 2]) [(.var 0)]),(.op (.isi [.cls 3]) [(.var 0)]),(.op (.isi [.cls 4]) [(.var 0)])]),
  .set 1 (.op .add [(.var 1),(.op .lst [(.op (.isi [.cls 5]) [(.var 0)]),(.op (.isi [.cls 8]) [(.var 0)]),(.op (.isi [.cls 6]) [(.var 0)])])]),
  .iff (.or (.op .not [(.op (.isi [.verr]) [(.var 0)])]) (.or (.op .ne [(.op .count [(.var 1),(.cst (.bl true))]),(.cst (.int (1)))]) (.op (.isi [.cls 1]) [(.var 0)]))) [.ret (.cst .non)] [],
  .set 2 (.op .index [(.var 1),(.cst (.bl true))]),
  .iff (.op .eq [(.var 2),(.cst (.int (0)))]) [.ret (.op .tup [(.cst (.str "deed"))])] [],
  .iff (.op .eq [(.var 2),(.cst (.int (4)))]) [.ret (.op .tup [(.cst (.str "covered")),(.op (.fld 2) [(.var 0)]),(.op (.fld 3) [(.var 0)])])] [],
  .iff (.op .gt [(.var 2),(.cst (.int (4)))]) [.ret (.cst .non)] [],
  .ret (.op .tup [(.op .ix [(.op .lst [(.cst (.str "deed")),(.cst (.str "garment")),(.cst (.str "worn")),(.cst (.str "not worn"))]),(.var 2)]),(.op (.fld 2) [(.var 0)])])]⟩
noncomputable def lg:Fn:=⟨2,[],3,[],[
  .set 2 (.call 78 [(.var 0)]),
  .iff (.or (.op .isN [(.var 2)]) (.op .ne [(.var 2),(.var 1)])) [.ret (.cst (.bl false))] [],
  .ret (.op .eq [(.comp [none,none] (.one 1) .seq [(.var 2)] [] (.op (.isi [.bool]) [(.var 1)])),(.comp [none,none] (.one 1) .seq [(.var 1)] [] (.op (.isi [.bool]) [(.var 1)]))])]⟩
noncomputable def iz:Fn:=⟨3,[],6,[],[
  .set 3 (.cst .non),
  .set 4 (.cst .non),
  .tryE [.iff (.op .eq [(.op .len [(.var 2)]),(.cst (.int (1)))]) [.set 4 (.call 43 [(.var 0),(.var 1),(.op .ix [(.var 2),(.cst (.int (0)))])])] [.set 4 (.call 44 [(.var 0),(.var 1),(.var 2)])]] 0 5 3,
  .ret (.op .tup [(.var 4),(.var 3)])]⟩
noncomputable def nB:Fn:=⟨1,[],12,[],[
  .set 1 (.op .add [(.cst (.int (1))),(.op .mod [(.call 98 [(.var 0),(.cst (.int (0)))]),(.cst (.int (6)))])]),
  .set 2 (.call 99 [(.var 0),(.var 1)]),
  .set 3 (.make 17 [(.var 1),(.comp [none,none] (.one 1) .seq [(.var 2)] [] (.op .list [(.var 1)]))]),
  .set 4 (.op .mul [(.op .tup [(.op .mul [(.op .tup [(.op .tup [])]),(.var 1)])]),(.op .add [(.cst (.int (1))),(.op .mod [(.call 98 [(.var 0),(.cst (.int (8)))]),(.cst (.int (3)))])])]),
  .set 5 (.var 4),
  .set 6 (.op .lst []),
  .fo (.one 7) .seq [(.sl2 (.var 0) (.cst (.int (9))) (.cst (.int (63))))] [.set 8 (.call 121 [(.var 7),(.op .len [(.var 4)]),(.op .len [(.var 2)])]),.set 9 (.call 82 [(.var 5),(.var 8),(.var 2)]),.setT [10,11] (.call 114 [(.var 3),(.var 5),(.op .lst [(.var 8)])]),.iff (.op .isN [(.var 9)]) [.set 5 (.call 117 [(.var 5),(.var 8),(.var 2)]),.mut 6 [] .append [(.var 8)],.iff (.or (.op .notN [(.var 11)]) (.op .ne [(.var 10),(.var 5)])) [.ret (.cst (.bl false))] []] [.iff (.op .not [(.call 76 [(.var 11),(.var 9)])]) [.ret (.cst (.bl false))] [.iff (.op .gt [(.op .len [(.var 6)]),(.cst (.int (0)))]) [.setT [10,11] (.call 114 [(.var 3),(.var 4),(.op .add [(.var 6),(.op .lst [(.var 8),(.var 8)])])]),.iff (.op .not [(.call 76 [(.var 11),(.var 9)])]) [.ret (.cst (.bl false))] []] []]]],
  .ret (.op .eq [(.call 44 [(.var 3),(.var 4),(.var 6)]),(.var 5)])]⟩
noncomputable def kS:Fn:=⟨2,[0],3,[],[
  .set 2 (.call 2 [(.var 1)]),
  .xinit [(.var 0),(.var 2)],
  .sfld 0 2 (.var 2)]⟩
noncomputable def kv:Fn:=⟨2,[0],2,[],[
  .xinit [(.var 0),(.var 1)],
  .sfld 0 2 (.var 1)]⟩
noncomputable def ke:Fn:=⟨2,[0],2,[],[
  .xinit [(.var 0),(.var 1)],
  .sfld 0 2 (.var 1)]⟩
noncomputable def kN:Fn:=⟨3,[0],3,[],[
  .xinit [(.var 0),(.var 1),(.var 2)],
  .sfld 0 2 (.var 1),
  .sfld 0 3 (.var 2)]⟩
noncomputable def kI:Fn:=⟨3,[0],5,[],[
  .iff (.or (.op .not [(.call 0 [(.var 1)])]) (.op .not [(.chain .le .le (.cst (.int (1))) (.var 1) (.cst (.int (6))))])) [.rais 1 []] [],
  .iff (.op .gt [(.op .len [(.var 2)]),(.cst (.int (6)))]) [.rais 1 []] [],
  .fo (.many [3,4]) .enum [(.var 2)] [.iff (.op .not [(.call 16 [(.var 4),(.var 1)])]) [.rais 2 [(.var 3)]] []],
  .sfld 0 9 (.var 1),
  .sfld 0 10 (.comp [none,none] (.one 1) .seq [(.var 2)] [] (.op .tuple [(.var 1)]))]⟩
noncomputable def jJ:Fn:=⟨1,[],1,[],[
  .ret (.op .len [(.op (.fld 10) [(.var 0)])])]⟩
noncomputable def ik:Fn:=⟨2,[],2,[],[
  .ex (.call 17 [(.var 0),(.var 1)]),
  .ret (.op .list [(.op .ix [(.op (.fld 10) [(.var 0)]),(.var 1)])])]⟩
noncomputable def fnL_k22:List (Nat×Fn):=[(0,kd),(1,gI),(2,lY),(15,nE),(16,ku),(17,fO),(24,iO),(25,oa),(26,gO),(27,hV),(41,lN),(42,iV),(43,fW),(44,kO),(98,ig),(71,dS),(99,nY),(115,iB),(117,nW),(121,jY),(122,jv),(82,gX),(78,ph),(76,lg),(114,iz),(69,nB),(4,kS),(5,kv),(6,ke),(7,kN),(18,kI),(20,jJ),(21,ik)]
noncomputable def clL_k22:List (Nat×Cl):=[(0,⟨none,[],[],true⟩),(1,⟨none,[],[0],true⟩),(2,⟨(some 4),[],[0],true⟩),(3,⟨(some 5),[],[0],true⟩),(4,⟨(some 6),[],[0],true⟩),(5,⟨(some 7),[],[0],true⟩),(6,⟨none,[],[0],true⟩),(7,⟨none,[],[0],true⟩),(8,⟨none,[],[0],true⟩),(17,⟨(some 18),[(12,20),(13,21)],[],false⟩)]
noncomputable def G_k22:Pg where
 fn:=fun i=>fnL_k22.lookup i
 cl:=fun i=>clL_k22.lookup i
theorem vm:∀{xs:List D},(∀x∈xs,f x=.ok (some (g x)))->aC f xs=.ok (xs.map g)
 | [],_=>rfl
 | x::xs,h=>by
  rw[aC,h x List.mem_cons_self,R.bind,vm fun y hy=>h y (List.mem_cons_of_mem _ hy)];rfl
theorem lj {α:Type}{e:α->D}{f:D->R (Option KD)}{g:α->KD}{xs:List α}(h:∀x∈xs,f (e x)=.ok (some (g x))):aC f (xs.map e)=.ok (xs.map g):=by
 induction xs with
 | nil=>rfl
 | cons x xs ih=>rw[List.map_cons,aC,h x List.mem_cons_self,R.bind,ih fun y hy=>h y (List.mem_cons_of_mem _ hy)]; rfl
theorem v7 {α:Type}{e:α->D}{f:D->R (Option KD)}{p:α->Bool}{g:α->KD}{xs:List α}(h:∀x∈xs,f (e x)=.ok (if p x then some (g x) else none)):aC f (xs.map e)=.ok ((xs.filter p).map g):=by
 induction xs with
 | nil=>rfl
 | cons x xs ih=>
  rw[List.map_cons,aC,h x List.mem_cons_self,R.bind,ih fun y hy=>h y (List.mem_cons_of_mem _ hy)];by_cases q:p x=true
  ·simp[q]
  ·simp[q]
@[simp] theorem D9 (p:α->Bool):∀xs:List α,allB (xs.map fun x=>.bl (p x))=some (xs.all p)
 | []=>rfl
 | x::xs=>by rw[List.map_cons,allB,D9 p xs]; rfl
@[simp] theorem vg (p:α->Bool):∀xs:List α,anyB (xs.map fun x=>.bl (p x))=some (xs.any p)
 | []=>rfl
 | x::xs=>by rw[List.map_cons,anyB,vg p xs]; rfl
@[simp] theorem sk:∀xs:List Int,b7 (xs.map .int)=some xs
 | []=>rfl
 | x::xs=>by rw[List.map_cons,b7,sk xs]; rfl
@[simp] theorem Ao:∀xs:List Int,D.flats (xs.map .int)=true
 | []=>by simp
 | x::xs=>by simp[Ao xs]
@[simp] theorem AF:∀xs ys:List Int,D.eqs (xs.map .int) (ys.map .int)=decide (xs=ys)
 | [],[]=>by simp[D.eqs]
 | [],_::_=>by simp[D.eqs]
 | _::_,[]=>by simp[D.eqs]
 | x::xs,y::ys=>by simp[D.eqs,D.eq,AF xs ys]
theorem p0 (h:∀x∈xs,x.2.flat=true):aE xs=98:=by
 have:xs.find? (fun x=>!x.2.flat)=none:=by
  rw[List.find?_eq_none];intro x hx;simp[h x hx]
 rw[aE,this]
@[simp] theorem flat_int (i:Int):(D.int i).flat=true:=rfl
@[simp] theorem joinK_int (k:Nat)(i:Int)(xs:List KD):aE ((k,.int i)::xs)=aE xs:=lU rfl
@[simp] theorem joinK_bl (k:Nat)(i:Bool)(xs:List KD):aE ((k,.bl i)::xs)=aE xs:=lU rfl
@[simp] theorem joinK_non (k:Nat)(xs:List KD):aE ((k,.non)::xs)=aE xs:=lU rfl
@[simp] theorem joinK_str (k:Nat)(i:Str)(xs:List KD):aE ((k,.str i)::xs)=aE xs:=lU rfl
@[simp] theorem fb_int (k:Nat)(i:Int):D.fb k (.int i)=true:=by cases k <;> rfl
@[simp] theorem fb_bl (k:Nat)(i:Bool):D.fb k (.bl i)=true:=by cases k <;> rfl
@[simp] theorem fb_non (k:Nat):D.fb k .non=true:=by cases k <;> rfl
@[simp] theorem fb_str (k:Nat)(i:Str):D.fb k (.str i)=true:=by cases k <;> rfl
theorem pO (xs:List α)(k:Nat):cutD xs none (some (k:Int))=xs.take k:=by
 simp only[cutD,cQ];simp
theorem nQ (xs:List α)(k:Nat):cutD xs (some (k:Int)) none=xs.drop k:=by
 simp only[cutD,cQ];by_cases h:k<=xs.length
 ·skip
  simp only[if_pos (Int.natCast_nonneg k),Int.toNat_natCast,Nat.min_eq_left h];exact List.take_of_length_le (by simp)
 ·have h':xs.length<=k:=by omega
  simp[Nat.min_eq_right h',List.drop_of_length_le h']
@[simp] theorem wk_seq (k:Nat)(x:D):df .seq [(k,x)]=x.seq:=rfl
@[simp] theorem wk_enum (k:Nat)(xs:List D):df .enum [(k,.lst xs)]=some (xs.mapIdx fun n d=>.tup [.int n,d]):=rfl
@[simp] theorem wk_zip (k k':Nat)(xs ys:List D):df .zip [(k,.lst xs),(k',.lst ys)]=some ((xs.zip ys).map fun p=>.tup [p.1,p.2]):=rfl
theorem wk_rng1 (h:p<=SL):df .rng1 [(k,.int p)]=some ((List.range p).map fun (n:Nat)=>.int n):=by
 have h2:p<=1000000:=h;have:dh (p:Int)=true:=gw.mpr (by omega);show (if dh (p:Int)=true then _ else none)=_;rw[if_pos this];rfl
theorem uQ {body:D->Fr->O}{I:Fr->Prop}:∀{xs:List D} {A:Fr},I A->(∀x∈xs,∀A,I A->∃A',body x A=.nx A'/\I A')->∃A',bb body xs A=.nx A'/\I A'
 | [],A,h,_=>⟨A,rfl,h⟩
 | x::xs,A,h,k=>by
  obtain⟨A1,e1,h1⟩:=k x bD A h;obtain⟨A2,e2,h2⟩:=uQ (xs:=xs) h1 fun y hy=>k y (bw _ hy);exact⟨A2,by rw[bb,e1]; exact e2,h2⟩
noncomputable def RelK:Option KD->Option KD->Prop
 | none,none=>True
 | some x,some y=>x.2=y.2/\y.1<=x.1
 | _,_=>False
inductive RelF:Fr->Fr->Prop
 | nil:RelF [] []
 | cons {x y:Option KD} {A a:Fr} (h:RelK x y) (t:RelF A a):RelF (x::A) (y::a)
theorem RelK.refl:∀x:Option KD,RelK x x
 | none=>trivial
 | some _=>⟨rfl,aX _⟩
theorem RelF.refl:∀A:Fr,RelF A A
 | []=>.nil
 | x::A=>.cons (.refl x) (.refl A)
theorem RelF.sl (h:RelF A a):A.sl=a.sl:=by
 induction h with
 | nil=>rfl
 | @cons x y A a h t ih=>
  have:x.map (·.2)=y.map (·.2):=by
   cases x <;> cases y <;> first | rfl | exact h.elim | (simp only[Option.map]; exact congrArg some h.1)
  simp only[Fr.sl,List.map_cons] at ih ⊢;rw[this,ih]
theorem RelF.len (h:RelF A a):A.length=a.length:=by
 induction h with
 | nil=>rfl
 | cons _ _ ih=>simp[ih]
theorem RelF.set (h:RelF A a)(k:RelK x y):∀i,RelF (A.set i x) (a.set i y):=by
 induction h with
 | nil=>intro i; exact .nil
 | cons q t ih=>
  intro i;cases i with
  | zero=>exact .cons k t
  | succ i=>exact .cons q (ih i)
theorem RelF.get (h:RelF A a):∀i:Nat,(A[i]? = none/\a[i]? = none)\/∃x y,A[i]? = some x/\a[i]? = some y/\RelK x y:=by
 induction h with
 | nil=>intro i; exact .inl ⟨rfl,rfl⟩
 | @cons x y _ _ q t ih=>
  intro i;cases i with
  | zero=>exact .inr ⟨x,y,rfl,rfl,q⟩
  | succ i=>simpa using ih i
theorem RelF.frz1 (h:RelF A a)(i:Nat):RelF (frz1 A i) (frz1 a i):=by
 simp only[Ip.frz1];rcases h.get i with ⟨e1,e2⟩ | ⟨x,y,e1,e2,q⟩
 ·rw[e1,e2]; exact h
 ·rw[e1,e2];cases x <;> cases y
  ·exact h
  ·exact q.elim
  ·exact q.elim
  ·next x y=>exact h.set (x:=some (0,x.2)) (y:=some (0,y.2)) ⟨q.1,aX _⟩ i
theorem RelF.frz:∀{A a:Fr},RelF A a->RelF (frz ns A) (frz ns a):=by
 induction ns with
 | nil=>exact fun h=>h
 | cons n ns ih=>exact fun h=>ih (h.frz1 n)
theorem RelF.trans (h:RelF A a)(k:RelF a b):RelF A b:=by
 induction h generalizing b with
 | nil=>exact k
 | @cons x y _ _ q t ih=>
  cases k with
  | @cons _ z _ _ q' t'=>
   refine .cons ?_ (ih t');cases x <;> cases y <;> cases z <;> first | trivial | exact q.elim | exact q'.elim | exact⟨q.1.trans q'.1,br q'.2 q.2⟩
theorem RelF.low1 (a:Fr)(i:Nat):RelF a (Ip.frz1 a i):=by
 simp only[Ip.frz1];cases e:a[i]? with
 | none=>exact .refl a
 | some x=>
  cases x with
  | none=>exact .refl a
  | some x=>
   have:a=a.set i (some x):=by
    refine (List.ext_getElem? fun j=>?_);rw[List.getElem?_set];by_cases hj:i=j
    ·subst hj;have:=(cr e).1;rw[e]; simp[this]
    ·simp[hj]
   conv=>lhs; rw[this]
   exact (RelF.refl a).set (x:=some x) (y:=some (0,x.2)) ⟨rfl,Nat.zero_le _⟩ i
theorem RelF.low (ns:List Nat):∀a:Fr,RelF a (Ip.frz ns a):=by
 induction ns with
 | nil=>exact .refl
 | cons n ns ih=>exact fun a=>(RelF.low1 a n).trans (ih _)
theorem RelF.lowA (a:Fr):RelF a (bE a):=by
 induction a with
 | nil=>exact .nil
 | cons x a ih=>
  refine .cons ?_ ih;cases x with
  | none=>trivial
  | some x=>exact⟨rfl,Nat.zero_le _⟩
theorem RelF.zero:∀{A a:Fr},A.sl=a.sl->RelF A (bE a)
 | [],[],_=>.nil
 | [],y::a,h=>by simp[Fr.sl] at h
 | x::A,[],h=>by simp[Fr.sl] at h
 | x::A,y::a,h=>by
  simp only[Fr.sl,List.map_cons,List.cons.injEq] at h;refine .cons ?_ (RelF.zero h.2);cases x <;> cases y <;> simp at h
  ·trivial
  ·exact⟨h.1,Nat.zero_le _⟩
theorem RelF.settle (h:RelF A a)(ns:List Nat)(x:KD):RelF (settle ns A x) (Ip.frz ns a):=by
 simp only[Ip.settle];split
 ·exact h.trans (.low ns a)
 ·exact h.frz
theorem RelF.settleK (h:RelF A a)(ns:List Nat)(hx:x.2.fb x.1=true):RelF (Ip.settle ns A x) a:=by
 simp only[Ip.settle,hx,if_true]; exact h
theorem RelF.settleT (h:RelF A a)(ns:List Nat)(x:KD):RelF (Ip.settleT ns A x) (Ip.frz ns a):=by
 unfold Ip.settleT;split
 ·exact h.trans (.low ns a)
 ·exact h.settle ns x
theorem RelF.settleL (h:RelF A a)(hx:eO x=true)(hn:ns.all (cY a)=true):RelF (Ip.settleT ns A x) a:=by
 have e:cY A=cY a:=funext fun i=>by
  unfold cY;rcases h.get i with ⟨e1,e2⟩ | ⟨x,y,e1,e2,q⟩
  ·rw[e1,e2]
  ·rw[e1,e2];cases x <;> cases y <;> first | rfl | exact q.elim | (show D.q2 _=D.q2 _; rw[q.1])
 unfold Ip.settleT;rw[e,hx,hn];exact h
theorem RelF.excA (h:RelF A a)(fs:List (Nat×D)):RelF (Ip.excA A fs) (bE a):=by
 simp only[Ip.excA];split
 ·exact h.trans (.lowA a)
 ·have:RelF (bE A) (bE a):=by
   induction h with
   | nil=>exact .nil
   | @cons x y _ _ q t ih=>
    refine .cons ?_ ih;cases x <;> cases y <;> first | trivial | exact q.elim | exact⟨q.1,aX _⟩
  exact this
section
variable (G:Pg)(cl:Nat->List KD->Run)(io:List Nat)
def Ou (a:Fr)(ss:List S)(N:Fr->Prop)(V:D->Prop)(X:Nat->List (Nat×D)->Fr->Prop):Prop:=∀A,RelF A a->match execs G cl io A ss with
 | .nx A'=>∃a',RelF A' a'/\N a'
 | .ret _ d _=>V d
 | .exc c fs A'=>∃a',RelF A' a'/\X c fs a'
 | _=>False
variable {G cl io}{a:Fr}{ss:List S}{N:Fr->Prop}{V:D->Prop}{X:Nat->List (Nat×D)->Fr->Prop}
theorem Ou.nil (h:N a):Ou G cl io a [] N V X:=fun A r=>by
 simp only[sE]; exact⟨a,r,h⟩
theorem Ou.low (l:RelF a a')(h:Ou G cl io a' ss N V X):Ou G cl io a ss N V X:=fun A r=>h A (r.trans l)
theorem Ou.mono (h:Ou G cl io a ss N V X)(n:∀a,N a->N' a)(r:∀d,V d->V' d)(x:∀c fs a,X c fs a->X' c fs a):Ou G cl io a ss N' V' X':=fun A q=>by
 have:=h A q;revert this
 cases execs G cl io A ss with
 | nx A=>exact fun⟨a,h1,h2⟩=>⟨a,h1,n a h2⟩
 | ret k d A=>exact r d
 | exc c fs A=>exact fun⟨a,h1,h2⟩=>⟨a,h1,x c fs a h2⟩
 | _=>exact id
theorem Ou.step (h:∀A,RelF A a->match exec G cl io A s with
  | .nx A'=>∃a',RelF A' a'/\Ou G cl io a' ss N V X
  | .ret _ d _=>V d
  | .exc c fs A'=>∃a',RelF A' a'/\X c fs a'
  | _=>False):Ou G cl io a (s::ss) N V X:=fun A r=>by
 have:=h A r;simp only[k8];revert this
 cases exec G cl io A s with
 | nx A'=>exact fun⟨a',h1,h2⟩=>h2 A' h1
 | ret k d A=>exact id
 | exc c fs A=>exact id
 | _=>exact id
theorem okI (h:(!io.contains i&&Nat.blt i n)=true):io.contains i=false/\i<n:=by
 rw[Bool.and_eq_true] at h;exact⟨by simpa using h.1,Nat.le_of_ble_eq_true h.2⟩
theorem oG {io is:List Nat}{m n:Nat}(h:(m == is.length&&is.all fun i=>!io.contains i&&Nat.blt i n)=true):m=is.length/\∀i∈is,io.contains i=false/\i<n:=by
 rw[Bool.and_eq_true,List.all_eq_true] at h;exact⟨by simpa using h.1,fun i hi=>okI (h.2 i hi)⟩
theorem Ou.set (h:eval G cl a.sl e=.ok x)(k:Ou G cl io ((frz e.names a).set i (some (0,x.2))) ss N V X)(hi:(!io.contains i&&Nat.blt i a.length)=true:=by rfl):Ou G cl io a (.set i e::ss) N V X:=
 .step fun A r=>by
  obtain⟨hio,hi⟩:=okI hi;have l:(settle e.names A x).length=a.length:=by
   rw[<-r.len];have:=(r.settle e.names x).len;rw[this,<-(RelF.low e.names a).len,r.len]
  simp only[kK,r.sl,h,R.toO,bT,hio,l,hi,and_self,if_true];exact⟨_,(r.settle e.names x).set (x:=some x) (y:=some (0,x.2)) ⟨rfl,Nat.zero_le _⟩ i,k⟩
theorem Ou.setE (h:∃j,eval G cl a.sl e=.ok (j,d))(k:Ou G cl io ((frz e.names a).set i (some (0,d))) ss N V X)(hi:(!io.contains i&&Nat.blt i a.length)=true:=by rfl):Ou G cl io a (.set i e::ss) N V X:=by
 obtain⟨j,h⟩:=h;exact Ou.set h k hi
theorem Ou.setK (h:eval G cl a.sl e=.ok x)(hx:x.2.fb x.1=true)(k:Ou G cl io (a.set i (some x)) ss N V X)(hi:(!io.contains i&&Nat.blt i a.length)=true:=by rfl):Ou G cl io a (.set i e::ss) N V X:=
 .step fun A r=>by
  obtain⟨hio,hi⟩:=okI hi;have l:(settle e.names A x).length=a.length:=(r.settleK e.names hx).len;simp only[kK,r.sl,h,R.toO,bT,hio,l,hi,and_self,if_true];exact⟨_,(r.settleK e.names hx).set (.refl _) i,k⟩
theorem Ou.setX (h:eval G cl a.sl e=.exc c fs)(k:X c fs (bE a)):Ou G cl io a (.set i e::ss) N V X:=
 .step fun A r=>by
  simp only[kK,r.sl,h,R.toO];exact⟨_,r.excA fs,k⟩
theorem Ou.ex (h:eval G cl a.sl e=.ok x)(k:Ou G cl io (frz e.names a) ss N V X):Ou G cl io a (.ex e::ss) N V X:=
 .step fun A r=>by
  simp only[nI,r.sl,h,R.toO];exact⟨_,r.settle e.names x,k⟩
theorem Ou.exX (h:eval G cl a.sl e=.exc c fs)(k:X c fs (bE a)):Ou G cl io a (.ex e::ss) N V X:=
 .step fun A r=>by
  simp only[nI,r.sl,h,R.toO];exact⟨_,r.excA fs,k⟩
theorem Ou.ret (h:eval G cl a.sl e=.ok x)(k:V x.2):Ou G cl io a (.ret e::ss) N V X:=
 .step fun A r=>by
  rw[og,r.sl,h];cases e with
  | var i=>
   rw[gk,<-r.sl] at h;rcases r.get i with ⟨e1,e2⟩ | ⟨x',y',e1,e2,q⟩
   ·simp[Fr.sl,e1] at h
   ·cases x' with
    | none=>simp[Fr.sl,e1] at h
    | some x'=>
     simp[Fr.sl,e1] at h;subst h;rw[vO,e1];exact k
  | _=>exact k
theorem Ou.retE (h:∃j,eval G cl a.sl e=.ok (j,d))(k:V d):Ou G cl io a (.ret e::ss) N V X:=by
 obtain⟨j,h⟩:=h;exact Ou.ret h k
theorem Ou.iff (h:eval G cl a.sl c=.ok (j,.bl b))(k:if b then Ou G cl io a t (fun a'=>Ou G cl io a' ss N V X) V X else Ou G cl io a e (fun a'=>Ou G cl io a' ss N V X) V X):Ou G cl io a (.iff c t e::ss) N V X:=
 .step fun A r=>by
  simp only[ve,r.sl,h,R.bl,R.bind,R.toO];cases b with
  | true=>exact k A r
  | false=>exact k A r
theorem Ou.iffT (h:eval G cl a.sl c=.ok (j,.bl true))(k:Ou G cl io a t (fun a'=>Ou G cl io a' ss N V X) V X):Ou G cl io a (.iff c t e::ss) N V X:=.iff h k
theorem Ou.iffF (h:eval G cl a.sl c=.ok (j,.bl false))(k:Ou G cl io a e (fun a'=>Ou G cl io a' ss N V X) V X):Ou G cl io a (.iff c t e::ss) N V X:=.iff h k
theorem Ou.iffN (h:eval G cl a.sl c=.ok (j,.bl false))(k:Ou G cl io a ss N V X):Ou G cl io a (.iff c t []::ss) N V X:=Ou.iffF h (Ou.nil k)
theorem Ou.rais (h:eval G cl a.sl (.make c es)=.ok (j+1,.exc c' fs))(k:X c' fs (bE a)):Ou G cl io a (.rais c es::ss) N V X:=
 .step fun A r=>by
  simp only[uj,r.sl,h,R.toO,fe];refine⟨_,RelF.zero ?_,k⟩;rw[((r.settle (Ex.make c es).names (j+1,.exc c' fs)).excA fs).sl,<-(RelF.lowA _).sl,<-(RelF.low _ a).sl]
theorem RelF.setFs:∀{is:List Nat} {ds:List D} {k:Nat} {A a:Fr},RelF A a->ds.length=is.length->(∀i∈is,io.contains i=false/\i<a.length)->∃A',setFs io is (ds.map fun d=>(k,d)) A=.nx A'/\RelF A' (bP (fun d=>(0,d)) is ds a)
 | [],[],_,A,a,r,_,_=>⟨A,rfl,r⟩
 | i::is,d::ds,k,A,a,r,hl,h=>by
  have hi:=h i bD;have hl':i<A.length:=by rw[r.len]; exact hi.2
  obtain⟨A',e,r'⟩:=RelF.setFs (is:=is) (ds:=ds) (k:=k) (r.set (x:=some (k,d)) (y:=some (0,d)) ⟨rfl,Nat.zero_le _⟩ i) (by simpa using hl) fun j hj=>⟨(h j (bw _ hj)).1,by simpa using (h j (bw _ hj)).2⟩
  refine⟨A',?_,r'⟩;simp only[List.map_cons,Ip.setFs,bT,hi.1,hl',and_self,if_true,O.seq];exact e
theorem Ou.setT {is:List Nat}{e:Ex}{j:Nat}{ds:List D}(h:eval G cl a.sl e=.ok (j,.tup ds))(k:Ou G cl io (bP (fun d=>(0,d)) is ds (frz e.names a)) ss N V X)(hi:(ds.length == is.length&&is.all fun i=>!io.contains i&&Nat.blt i a.length)=true:=by rfl):Ou G cl io a (.setT is e::ss) N V X:=
 .step fun A r=>by
  obtain⟨hl,hi⟩:=oG hi;obtain⟨A',q1,q2⟩:=RelF.setFs (io:=io) (is:=is) (ds:=ds) (k:=0) (r.settleT e.names (j,.tup ds)) hl fun i hm=>⟨(hi i hm).1,by rw[<-(RelF.low e.names a).len]; exact (hi i hm).2⟩
  simp only[oX,r.sl,h,R.toO,dG,q1];exact⟨_,q2,k⟩
theorem Ou.setTL {is:List Nat}{e:Ex}{j:Nat}{ds:List D}(h:eval G cl a.sl e=.ok (j,.tup ds))(hx:eO (j,.tup ds)=true)(hn:e.names.all (cY a)=true)(k:Ou G cl io (bP (fun d=>(0,d)) is ds a) ss N V X)(hi:(ds.length == is.length&&is.all fun i=>!io.contains i&&Nat.blt i a.length)=true:=by rfl):Ou G cl io a (.setT is e::ss) N V X:=
 .step fun A r=>by
  obtain⟨hl,hi⟩:=oG hi;obtain⟨A',q1,q2⟩:=RelF.setFs (io:=io) (is:=is) (ds:=ds) (k:=0) (r.settleL hx hn) hl hi;simp only[oX,r.sl,h,R.toO,dG,q1];exact⟨_,q2,k⟩
theorem Ou.raisV (k:X c [] (bE a)):Ou G cl io a (.raisV c::ss) N V X:=
 .step fun A r=>by
  simp only[uR];exact⟨_,r.excA [],k⟩
theorem Ou.fo (I:List D->Fr->Prop)(h:evals G cl a.sl it=.ok vs)(hw:df wk vs=some xs)(hx:xs.length<=SL)(h0:I xs (frz (Ex.namess it) a))
  (step:∀x r a',I (x::r) a'->∃a'',(∀A,RelF A a'->∃A',bB io tg x A=.nx A'/\RelF A' a'')/\Ou G cl io a'' b (I r) V X)(k:∀a',I [] a'->Ou G cl io a' ss N V X):Ou G cl io a (.fo tg wk it b::ss) N V X:=
 .step fun A r=>by
  simp only[pb,r.sl,h,R.toO,kB,hw,hx,if_true];have lp:∀(xs:List D) (a':Fr),I xs a'->∀A,RelF A a'->match bb (eJ G cl io tg b) xs A with
    | .nx A'=>∃a',RelF A' a'/\Ou G cl io a' ss N V X
    | .ret _ d _=>V d
    | .exc c fs A'=>∃a',RelF A' a'/\X c fs a'
    | _=>False:=by
   intro xs;induction xs with
   | nil=>exact fun a' hi A r=>⟨a',r,k a' hi⟩
   | cons x xs ih=>
    intro a' hi A r;obtain⟨a'',hb,hO⟩:=step x xs a' hi;obtain⟨A',e,r'⟩:=hb A r;have:=hO A' r';rw[bb,eJ,e];simp only[O.seq];revert this
    cases execs G cl io A' b with
    | nx A2=>exact fun⟨a2,h1,h2⟩=>ih a2 h2 A2 h1
    | ret k d A2=>exact id
    | exc c fs A2=>exact id
    | _=>exact False.elim
  exact lp xs _ h0 _ r.frz
theorem fP (hi:(!io.contains i&&Nat.blt i a'.length)=true):∀A,RelF A a'->∃A',bB io (.one i) x A=.nx A'/\RelF A' (a'.set i (some (0,x))):=fun A r=>by
 obtain⟨hio,hi⟩:=okI hi;have:i<A.length:=by rw[r.len]; exact hi
 simp only[bB,bT,hio,this,and_self,if_true];exact⟨_,rfl,r.set (.refl _) i⟩
theorem EB {is:List Nat}{ds:List D}{a':Fr}(hi:(ds.length == is.length&&is.all fun i=>!io.contains i&&Nat.blt i a'.length)=true):∀A,RelF A a'->∃A',bB io (.many is) (.tup ds) A=.nx A'/\RelF A' (bP (fun d=>(0,d)) is ds a'):=fun A r=>by
 obtain⟨hl,hi⟩:=oG hi;simp only[bB];exact RelF.setFs r hl hi
theorem Ou.tryE (h:Ou G cl io a b (fun a'=>Ou G cl io a' ss N V X) V fun c' fs a'=>ao G (.exc c' fs) (.cls c)=true/\io.contains x=false/\x<a'.length/\io.contains i=false/\i≠x/\i<a'.length/\Ou G cl io ((a'.set x (some (0,.exc c' fs))).set i none) ss N V X):Ou G cl io a (.tryE b c i x::ss) N V X:=
 .step fun A r=>by
  have:=h A r;simp only[tR];revert this
  cases execs G cl io A b with
  | nx A'=>exact id
  | ret k d A'=>exact id
  | exc c' fs A'=>
   rintro⟨a',r',h1,h2,h3,h4,h5,h6,h7⟩;have l:x<A'.length:=by rw[r'.len]; exact h3
   have l2:i<(A'.set x (some (0,.exc c' fs))).length:=by rw[List.length_set,r'.len]; exact h6
   simp only[gC,h1,if_true,bT,h2,l,and_self,O.seq,h4,l2,ne_eq,h5,not_false_eq_true];exact⟨_,(r'.set (.refl _) x).set (x:=none) (y:=none) trivial i,h7⟩
  | _=>exact False.elim
end
theorem mz (hx:xs.length<=1000)(hy:ys.length<=1000):bK (.lst xs) (.lst ys)=some (1,.lst (xs++ys)):=by
 have:xs.length+ys.length<=SL:=by
  have:2000<=SL:=by decide
  omega
 simp only[bK];rw[if_pos this]
theorem Ou.run (hf:G.fn f=some F)(hn:vs.length=F.np)(hio:F.io=[])(h:Ou G (run G n) [] (bi F vs) F.body (fun _=>V .non) V fun _ _ _=>False):∃k d,Ip.run G (n+1) f vs=.ret k d []/\V d:=by
 rw[Ip.run,hf];simp only[hn,if_true,hio];have:=h _ (.refl _);revert this
 cases execs G (Ip.run G n) [] (bi F vs) F.body with
 | nx A=>exact fun⟨_,_,h⟩=>⟨99,.non,rfl,h⟩
 | ret k d A=>exact fun h=>⟨k,d,rfl,h⟩
 | exc c fs A=>exact fun⟨_,_,h⟩=>h.elim
 | _=>exact False.elim
theorem Ou.runX {G:Pg}{n f:Nat}{F:Fn}{vs:List KD}{X:Nat->List (Nat×D)->Prop}(hf:G.fn f=some F)(hn:vs.length=F.np)(hio:F.io=[])(h:Ou G (Ip.run G n) [] (bi F vs) F.body (fun _=>False) (fun _=>False) fun c fs _=>X c fs):∃c fs,Ip.run G (n+1) f vs=.exc c fs []/\X c fs:=by
 rw[Ip.run,hf];simp only[hn,if_true,hio];have:=h _ (.refl _);revert this
 cases execs G (Ip.run G n) [] (bi F vs) F.body with
 | nx A=>exact fun⟨_,_,h⟩=>h.elim
 | ret k d A=>exact False.elim
 | exc c fs A=>exact fun⟨_,_,h⟩=>⟨c,fs,rfl,h⟩
 | _=>exact False.elim
structure Pa (G:Pg):Prop where
 f0:G.fn 0=some kd
 f1:G.fn 1=some gI
 f2:G.fn 2=some lY
 f4:G.fn 4=some kS
 f15:G.fn 15=some nE
 f16:G.fn 16=some ku
 f17:G.fn 17=some fO
 f18:G.fn 18=some kI
 f20:G.fn 20=some jJ
 f21:G.fn 21=some ik
 c2:G.cl 2=some ⟨(some 4),[],[0],true⟩
 c17:G.cl 17=some ⟨(some 18),[(12,20),(13,21)],[],false⟩
variable {G:Pg}(P:Pa G)
include P
noncomputable def l5:D->Bool
 | .int _=>true
 | _=>false
theorem qv (n:Nat)(k:Nat)(d:D):run G (n+1) 0 [(k,d)]=.ret 99 (.bl (l5 d)) []:=by
 rw[run,P.f0];cases d <;> simp[kd,l5]
noncomputable def isB (b:Int):D->Bool
 | .int i=>decide (0<=i)&&decide (i<b)
 | _=>false
theorem nR (n:Nat)(k k':Nat)(d:D)(b:Int):run G (n+2) 1 [(k,d),(k',.int b)]=.ret 99 (.bl (isB b d)) []:=by
 rw[run,P.f1];cases d with
 | int i=>by_cases h:0<=i <;> simp[gI,P.f0,qv P,kd,l5,isB,h]
 | _=>simp[gI,P.f0,qv P,kd,l5,isB]
omit P in
noncomputable def cG (xs:List Int):Bool:=(xs.zip (xs.drop 1)).all fun p=>decide (p.1<p.2)
theorem C0 (n k:Nat)(xs:List Int)(hl:xs.length<=SL):run G (n+1) 15 [(k,.lst (xs.map .int))]=.ret 99 (.bl (cG xs)) []:=by
 rw[run,P.f15];have e:(xs.map D.int).zip (xs.map D.int).tail=(xs.zip xs.tail).map fun p=>(.int p.1,.int p.2):=by
  rw[<-List.map_tail,List.zip_map]; rfl
 have c:cutD (xs.map D.int) (some 1) none=(xs.map D.int).drop 1:=nQ _ 1;have hl2:xs.length<=SL+1:=by omega
 simp[nE,c,e,List.map_map,hl2];rw[lj (g:=fun p:Int×Int=>(99,.bl (decide (p.1<p.2))))]
 ·simp[List.map_map,Function.comp_def,cG]
 ·intro x hx;simp[compF]
noncomputable def cvs (xs:List Int):D:=.lst (xs.map .int)
theorem yq (n k k':Nat)(xs:List Int)(b:Int)(hl:xs.length<=SL) :
  run G (n+3) 16 [(k,.lst (xs.map .int)),(k',.int b)]=.ret 99 (.bl (decide (xs≠[])&&(xs.all fun i=>decide (0<=i)&&decide (i<b))&&cG xs)) []:=by
 rw[run,P.f16];have c:aC (compF G (run G (n+2)) [none,none,some (.int b)] (.one 1) [] (.call 1 [.var 1,.var 2])) (xs.map .int)=.ok (xs.map fun i=>(99,.bl (decide (0<=i)&&decide (i<b)))):=
  lj fun i _=>by simp[compF,P.f1,gI,nR P n,isB]
 have q:=C0 P (n+1) 0 xs hl;by_cases hx:xs=[]
 ·subst hx;simp[ku,D.eq]
 ·by_cases h:(xs.all fun i=>decide (0<=i)&&decide (i<b))=true
  ·simp[ku,D.eq,hx,hl,c,Function.comp_def,h,P.f15,nE,q]
  ·have h':(xs.all fun i=>decide (0<=i)&&decide (i<b))=false:=by simpa using h
   simp[ku,D.eq,hx,hl,c,Function.comp_def,h']
noncomputable def wd (p:Int)(cs:List (List Int)):D:=.ins 17 [(9,.int p),(10,.lst (cs.map fun c=>.tup (c.map .int)))]
noncomputable def al (cs:List (List Int)):D:=.lst (cs.map fun c=>.lst (c.map .int))
noncomputable def good (p:Int)(c:List Int):Bool:=decide (c≠[])&&(c.all fun i=>decide (0<=i)&&decide (i<p))&&cG c
theorem BD (n k k':Nat)(p:Int)(cs:List (List Int))(hp:1<=p/\p<=6)(hn:cs.length<=6)(hc:∀c∈cs,good p c=true)(hl:∀c∈cs,c.length<=SL) :
  run G (n+4) 18 [(1,.ins 17 []),(k,.int p),(k',al cs)]=.ret 99 .non [(100,wd p cs)]:=by
 rw[run,P.f18];have hw:=qv P (n+2) 0 (.int p);have hS:cs.length<=SL:=br hn (by decide);have h6:¬((6:Int)<cs.length):=by omega
 have lp:∃A',bb (eJ G (run G (n+3)) [0] (.many [3,4]) [.iff (.op .not [(.call 16 [(.var 4),(.var 1)])]) [.rais 2 [(.var 3)]] []]) ((cs.map fun c=>D.lst (c.map .int)).mapIdx fun n d=>.tup [.int n,d])
   [some (1,.ins 17 []),some (0,.int p),some (0,al cs),none,none]=.nx A'/\∃a b,A'=[some (1,.ins 17 []),some (0,.int p),some (0,al cs),a,b]:=by
  refine uQ (I:=fun A'=>∃a b,A'=[some (1,.ins 17 []),some (0,.int p),some (0,al cs),a,b]) ⟨_,_,rfl⟩ ?_;rintro x hx A ⟨a,b,hA⟩;obtain⟨i,d,hi,hd⟩:∃(i:Nat) (c:List Int),c∈cs/\x=.tup [.int i,.lst (c.map .int)]:=by
   rw[List.mem_mapIdx] at hx;obtain⟨i,hi,e⟩:=hx;rw[List.getElem_map] at e;exact⟨i,_,List.getElem_mem (by simpa using hi),e.symm⟩
  subst hA hd;have g:=hc d hi;rw[good] at g;have q:=yq P n 0 0 d p (hl d hi);rw[g] at q;refine⟨_,?_,some (0,.int i),some (0,.lst (d.map .int)),rfl⟩;simp[eJ,P.f16,ku,q]
 obtain⟨A',e,a,b,rfl⟩:=lp;simp only[al] at e;have c:aC (compF G (run G (n+3)) [none,none] (.one 1) [] (.op .tuple [.var 1])) (cs.map fun c=>D.lst (c.map .int))=.ok (cs.map fun c=>(0,.tup (c.map .int))):=
  lj fun c _=>by simp[compF]
 have j:aE (cs.map fun c=>((0:Nat),D.tup (c.map .int)))=98:=p0 fun x hx=>by
  obtain⟨c,_,rfl⟩:=du hx;simp
 simp[kI,P.f0,kd,hw,l5,hp.1,hp.2,al,hS,h6,e,c,j,wd,bV,aJ,Function.comp_def]
end Ip
end
section
namespace Ip
open PySem (Str)
theorem ip {d:D}(h:d.scal=true):d.flat=true:=by cases d <;> simp at h ⊢
theorem C1 {d:D}(k:Nat)(h:d.scal=true):d.fb k=true:=by cases d <;> simp at h ⊢ <;> cases k <;> rfl
theorem tF (k:Nat)(h:ds.all D.scal=true):D.fb k (.tup ds)=true:=by
 have h':=dF h;cases k with
 | zero=>simp only[D.fb,D.flat,jN,List.all_eq_true]; exact fun d hd=>ip (h' d hd)
 | succ k=>simp only[D.fb,List.all_eq_true]; exact fun d hd=>C1 k (h' d hd)
theorem RelF.own {A a:Fr}(r:RelF A a){x k:Nat}{d:D}(h:a[x]? = some (some (k+1,d))):∃j,A[x]? = some (some (j+1,d)):=by
 rcases r.get x with ⟨_,e2⟩ | ⟨y,z,e1,e2,q⟩
 ·rw[e2] at h; cases h
 ·rw[e2] at h;cases h;cases y with
  | none=>exact q.elim
  | some y=>
   obtain⟨j,d'⟩:=y;obtain⟨q1,q2⟩:=q;have q1':d'=d:=q1;have q2':k+1<=j:=q2;subst q1';exact⟨j - 1,by rw[e1]; congr 3; omega⟩
section
variable {G:Pg}{cl:Nat->List KD->Run}{io:List Nat}{a:Fr}{ss:List S}{N:Fr->Prop}{V:D->Prop}{X:Nat->List (Nat×D)->Fr->Prop}
theorem Ou.extend {x k j:Nat}{e:Ex}{xs ys:List D}(hx:a[x]? = some (some (k+1,.lst xs)))(he:eval G cl a.sl e=.ok (j,.tup ys))(hs:ys.all D.scal=true)(hl:xs.length+ys.length<=SL)(h:Ou G cl io (a.set x (some (1,.lst (xs++ys)))) ss N V X) :
  Ou G cl io a (.mut x [] .extend [e]::ss) N V X:=
 .step fun A r=>by
  obtain⟨k',hA⟩:=r.own hx;have e1:cO A[x]? = true:=by rw[hA]; rfl
  have e2:([(j,D.tup ys)]:List KD).all (fun v=>v.2.fb v.1)=true:=by simp only[List.all_cons,List.all_nil,Bool.and_true]; exact tF j hs
  simp only[nk,if_true,cM,bh,r.sl,he,R.bind,R.toO,eM,e2,hA,fE,ue,hs,hl,and_self];exact⟨_,r.set (.refl _) x,h⟩
theorem Ou.put {x k j:Nat}{e i:Ex}{xs:List D}{v:KD}{n:Int}(hx:a[x]? = some (some (k+1,.lst xs)))(he:eval G cl a.sl e=.ok v)(hv:v.2.fb v.1=true)(hi:eval G cl a.sl i=.ok (j,.int n))(hn:0<=n/\n<xs.length)(h:Ou G cl io (a.set x (some (1,.lst (xs.set n.toNat v.2)))) ss N V X) :
  Ou G cl io a (.put x [] i e::ss) N V X:=
 .step fun A r=>by
  obtain⟨k',hA⟩:=r.own hx;simp only[qp,List.isEmpty_nil,if_true,r.sl,he,hi,R.toO,settle,hv,hA,gP,hn,and_self];exact⟨_,r.set (.refl _) x,h⟩
end
section
variable {G:Pg}{cl:Nat->List KD->Run}{io:List Nat}{a:Fr}{ss:List S}{N:Fr->Prop}{V:D->Prop}{X:Nat->List (Nat×D)->Fr->Prop}
theorem Ou.append (hx:(frz e.names a)[x]? = some (some (k+1,.lst xs)))(he:eval G cl a.sl e=.ok v)(hl:xs.length<SL)(h:Ou G cl io ((frz e.names a).set x (some (1,.lst (xs++[v.2])))) ss N V X) :
  Ou G cl io a (.mut x [] .append [e]::ss) N V X:=
 .step fun A r=>by
  obtain⟨k0,h0⟩:=(r.trans (.low e.names a)).own hx;have e1:cO A[x]? = true:=by rw[h0]; rfl
  have nm:Ex.namess [e]=e.names:=by simp
  have r1:RelF (if ([v]:List KD).all (fun v=>v.2.fb v.1)=true then A else frz (Ex.namess [e]) A) (frz e.names a):=by
   rw[nm];split
   ·exact r.trans (.low e.names a)
   ·exact r.frz
  obtain⟨k1,h1⟩:=r1.own hx;simp only[nk,e1,if_true,cM,bh,r.sl,he,R.bind,R.toO,eM];generalize (if ([v]:List KD).all (fun v=>v.2.fb v.1)=true then A else frz (Ex.namess [e]) A)=A1 at r1 h1;rw[h1];simp only[fE,uE,hl,if_true];exact⟨_,r1.set (x:=some (bV k1 xs v+1,.lst (xs++[v.2]))) (y:=some (1,.lst (xs++[v.2]))) ⟨rfl,by omega⟩ x,h⟩
end
end Ip
end
section
namespace Ip
theorem RelF.of_eq (h:a=b):RelF a b:=h ▸ .refl a
section
variable {G:Pg}{cl:Nat->List KD->Run}{io:List Nat}{a:Fr}{ss:List S}{N:Fr->Prop}{V:D->Prop}{X:Nat->List (Nat×D)->Fr->Prop}
theorem rX:∀(ss ts:List S) (A:Fr),execs G cl io A (ss++ts)=(execs G cl io A ss).seq fun A=>execs G cl io A ts
 | [],ts,A=>by simp[O.seq]
 | s::ss,ts,A=>by
  rw[List.cons_append,k8,k8];cases exec G cl io A s with
  | nx A'=>simp only[O.seq]; exact rX ss ts A'
  | _=>rfl
end
theorem Ou.runE {G:Pg}{n f:Nat}{F:Fn}{vs:List KD}{init:List S}{e:Ex}{P:KD->Prop}(hf:G.fn f=some F)(hn:vs.length=F.np)(hio:F.io=[])(hb:F.body=init++[.ret e])(hv:∀i,e≠.var i)
  (h:Ou G (Ip.run G n) [] (bi F vs) init (fun a=>∃x,eval G (Ip.run G n) a.sl e=.ok x/\P x) (fun _=>False) fun _ _ _=>False):∃x:KD,Ip.run G (n+1) f vs=.ret x.1 x.2 []/\P x:=by
 rw[Ip.run,hf];simp only[hn,if_true,hio];rw[hb,rX];have:=h _ (.refl _);revert this
 cases execs G (Ip.run G n) [] (bi F vs) init with
 | nx A=>
  rintro⟨a,r,x,h1,h2⟩;refine⟨x,?_,h2⟩;have e2:eval G (Ip.run G n) A.sl e=.ok x:=by rw[r.sl]; exact h1
  simp only[O.seq,k8,og,e2];cases e with
  | var i=>exact absurd rfl (hv i)
  | _=>simp[fin]
 | ret k d A=>exact False.elim
 | exc c fs A=>exact fun⟨_,_,h⟩=>h.elim
 | _=>exact False.elim
end Ip
end
section
namespace Ip
open PySem (Str)
noncomputable def am (r:List Nat):D:=.tup (ah r)
noncomputable def aw (rows:List (List Nat)):D:=.tup (rows.map am)
theorem gv (r:List Nat):(ah r).all D.scal=true:=by simp[ah]
theorem o3:∀{ns:List Nat},(∀n∈ns,n<6)->bW (ah ns)=some ns
 | [],_=>rfl
 | n::ns,h=>by
  have h1:=h n bD;have ih:=o3 (ns:=ns) fun m hm=>h m (bw _ hm);have h2:(0:Int)<=Int.ofNat n/\Int.ofNat n<6:=⟨Int.natCast_nonneg n,by simpa using (show (n:Int)<6 by omega)⟩
  show bW (.int (Int.ofNat n)::ah ns)=_;simp only[bW,h2,and_self,if_true,ih,Option.map];rfl
theorem ko (g:Nat):∀ns:List Nat,D.memb (.int g) (ah ns)=decide (g∈ns)
 | []=>rfl
 | n::ns=>by
  have ih:=ko g ns;have e:D.memb (.int g) (ah (n::ns))=((D.int (Int.ofNat n)).eq (.int g)||D.memb (.int g) (ah ns)):=rfl;rw[e,ih];simp only[D.eq];by_cases h:g=n
  ·subst h; simp
  ·have:¬(n:Int)=(g:Int):=by omega
   simp[this,h]
theorem n0 (h:g<6):g∈aO ns↔g∈ns:=by
 simp[aO,h]
noncomputable def eI (c:List Int)(g:Nat)(rows:List (List Nat)):List (List Nat):=c.foldl (fun rs i=>rs.set i.toNat (rs.getD i.toNat []++[g])) rows
theorem pS (k:Nat)(r:List Nat):D.fb k (am r)=true:=tF k (gv r)
theorem jQ (r:List Nat):(am r).flat=true:=pS 0 r
theorem uT {rs:List (List Nat)}{i:Int}(h:0<=i/\i<rs.length):aF (.lst (rs.map am)) (.int i)=some (0,am (rs.getD i.toNat [])):=by
 have h2:i.toNat<rs.length:=by omega
 simp[aF,ef,h.1,h.2,h2]
theorem ub {r:List Nat}{g:Nat}(h:r.length<=1000):bK (am r) (.tup [.int g])=some (0,am (r++[g])):=by
 have:(ah r).length+[D.int g].length<=SL:=by
  have:1001<=SL:=by decide
  simp[ah];omega
 simp only[am,bK];rw[if_pos this];simp[ah]
structure Pv (G:Pg):Prop where
 a:Pa G
 f24:G.fn 24=some iO
 f25:G.fn 25=some oa
 f26:G.fn 26=some gO
 f27:G.fn 27=some hV
section
variable {G:Pg}(P:Pa G)
include P
omit P in
theorem iP (p:Int)(cs:List (List Int)):gD 10 (wd p cs)=some (0,.lst (cs.map fun c=>.tup (c.map .int))):=rfl
theorem vP (p:Int)(cs:List (List Int)):bL G 12 0 (wd p cs)=some (20,jJ):=by
 simp[bL,wd,P.c17,P.f20,jJ,List.lookup]
theorem pT (p:Int)(cs:List (List Int)):bL G 13 1 (wd p cs)=some (21,ik):=by
 simp[bL,wd,P.c17,P.f21,ik,List.lookup]
theorem vQ (n k:Nat)(p:Int)(cs:List (List Int)):run G (n+1) 20 [(k,wd p cs)]=.ret 99 (.int cs.length) []:=by
 rw[run,P.f20];simp[jJ,iP]
theorem lu (n k k':Nat)(p:Int)(cs:List (List Int))(d:D)(h:isB cs.length d=true):run G (n+4) 17 [(k,wd p cs),(k',d)]=.ret 99 .non []:=by
 rw[run,P.f17];have q:=nR P (n+1) 0 99 d cs.length;have q2:=vQ P (n+2) 0 p cs;rw[h] at q;simp[fO,P.f1,gI,vP P,jJ,q2,q]
theorem q0 (n k k':Nat)(p:Int)(cs:List (List Int))(j:Nat)(c:List Int)(h:cs[j]? = some c):run G (n+5) 21 [(k,wd p cs),(k',.int j)]=.ret 1 (.lst (c.map .int)) []:=by
 rw[run,P.f21];have hj:j<cs.length:=(cr h).1;have hb:isB cs.length (.int j)=true:=by simp[isB,hj]
 have q:=lu P n 0 0 p cs (.int j) hb;have e:cs[j]=c:=(cr h).2;simp[ik,P.f17,fO,q,iP,ef,hj,e]
end
section
variable {G:Pg}(P:Pv G)
include P
theorem r8 (n k:Nat)(rows:List (List Nat))(h1:rows.length<=6)(h2:rows.flatten.length<=1000)(h3:∀g∈rows.flatten,g<6):run G (n+1) 24 [(k,aw rows)]=.ret 1 (.lst (ah (aO rows.flatten))) []:=by
 have hs:rows.length<=SL:=br h1 (by decide);obtain⟨x,e,rfl⟩:=Ou.runE (G:=G) (n:=n) (f:=24) (F:=iO) (vs:=[(k,aw rows)]) (init:=iO.body.dropLast) (e:=.op .srtSet [(.var 1)]) (P:=fun x=>x=(1,.lst (ah (aO rows.flatten)))) P.f24 rfl rfl rfl (fun _ h=>nomatch h) (by
  show Ou G (run G n) [] [some (0,aw rows),none,none] _ _ _ _;refine Ou.setK (x:=(99,.lst [])) rfl rfl ?_;refine Ou.low (a':=[some (0,aw rows),some (1,.lst []),none]) (.cons (.refl _) (.cons ⟨rfl,by decide⟩ (.cons trivial .nil))) ?_;refine Ou.fo (fun r a=>∃(x:Option KD) (fl:List Nat) (suf:List (List Nat)),a=[some (0,aw rows),some (1,.lst (ah fl)),x]/\r=suf.map am/\fl++suf.flatten=rows.flatten) (vs:=[(0,aw rows)]) (xs:=rows.map am) rfl (by simp[aw]) (by simpa using hs) ?_ ?_ ?_
  ·exact⟨none,[],rows,by simp[ah],rfl,rfl⟩
  ·rintro x r a ⟨y,fl,suf,ha,hr,he⟩;cases suf with
   | nil=>simp at hr
   | cons s suf=>
    simp only[List.map_cons,List.cons.injEq] at hr;obtain⟨rfl,rfl⟩:=hr;subst ha;refine⟨_,fP rfl,?_⟩;refine Ou.extend (k:=0) (j:=0) (xs:=ah fl) (ys:=ah s) rfl (by simp[am]) (gv s) ?_ ?_
    ·have e2:rows.flatten.length=fl.length+(s.length+suf.flatten.length):=by rw[<-he]; simp
     have:1000<=SL:=by decide
     simp only[ah,List.length_map];omega
    ·exact Ou.nil ⟨some (0,am s),fl++s,suf,by simp[ah],rfl,by simpa using he⟩
  ·rintro a ⟨y,fl,suf,ha,hr,he⟩;have:suf=[]:=by simpa using hr.symm
   subst this ha;simp only[List.flatten_nil,List.append_nil] at he;rw[<-he] at h3 ⊢;exact Ou.nil ⟨(1,.lst (ah (aO fl))),by simp[o3 h3],rfl⟩)
 exact e
theorem yr (n k k' k'':Nat)(p:Nat)(cs:List (List Int))(rows:List (List Nat))(g:Nat)(c:List Int)(hc:cs[g]? = some c)(hpl:∀i∈c,0<=i/\i<rows.length)(h6:rows.length<=6)(hl:c.length<=6)(hf:rows.flatten.length<=900)(hg6:∀g∈rows.flatten,g<6)(hg:g<6)(hn:g∉rows.flatten) :
  ∃j,run G (n+6) 25 [(k,wd p cs),(k',aw rows),(k'',.int g)]=.ret j (aw (eI c g rows)) []:=by
 have hgl:g<cs.length:=(cr hc).1;have hb:isB cs.length (.int g)=true:=by simp[isB,hgl]
 have q1:=lu P.a (n+1) 0 0 p cs (.int g) hb;have q2:=r8 P (n+4) 0 rows h6 (by omega) hg6;have q3:=q0 P.a n 0 0 p cs g c hc;have hm:D.memb (.int g) (ah (aO rows.flatten))=false:=by rw[ko]; simp[n0 hg,hn]
 have hsc:=gv (aO rows.flatten);have hS:c.length<=SL:=br hl (by decide);have hrow:∀r∈rows,r.length<=900:=fun r hr=>by
  have:=(List.sublist_flatten_of_mem hr).length_le;omega
 have key:Ou G (run G (n+5)) [] [some (0,wd p cs),some (0,aw rows),some (0,.int g),none,none] oa.body (fun _=>False) (fun d=>d=aw (eI c g rows)) fun _ _ _=>False:=by
  refine Ou.ex (x:=(99,.non)) (by simp[P.a.f17,fO,q1]) ?_;refine Ou.iffN (j:=99) (by
   simp only[Fr.sl,bQ,bh,cM,gk,iu];simp[-List.all_eq_true,P.f24,iO,q2,hm,hsc]) ?_
  refine Ou.setK (x:=(1,.lst (rows.map am))) (by simp[aw]) (by simp[jQ]) ?_;refine Ou.fo (fun r a=>∃(x:Option KD) (rs:List (List Nat)) (suf:List Int),a=[some (0,wd p cs),some (0,aw rows),some (0,.int g),some (1,.lst (rs.map am)),x]/\r=suf.map .int/\suf.foldl (fun rs i=>rs.set i.toNat (rs.getD i.toNat []++[g])) rs=eI c g rows/\rs.length=rows.length/\(∀i∈suf,0<=i/\i<rows.length)/\(∀r∈rs,r.length+suf.length<=906)) (vs:=[(1,.lst (c.map .int))]) (xs:=c.map .int) (by simp[pT P.a,ik,q3]) rfl (by simpa using hS) ?_ ?_ ?_
  ·exact⟨none,rows,c,by simp,rfl,rfl,rfl,hpl,fun r hr=>by have:=hrow r hr; omega⟩
  ·rintro x r a ⟨y,rs,suf,ha,hr,he,hlen,hi,hB⟩;cases suf with
   | nil=>simp at hr
   | cons s suf=>
    simp only[List.map_cons,List.cons.injEq] at hr;obtain⟨rfl,rfl⟩:=hr;subst ha;have hs:0<=s/\s<rs.length:=by rw[hlen]; exact hi s bD
    have hs':s.toNat<rs.length:=by omega
    have hmem:rs.getD s.toNat []∈rs:=by
     rw[List.getD_eq_getElem?_getD,List.getElem?_eq_getElem hs']; exact List.getElem_mem hs'
    have hBs:=hB _ hmem;simp only[List.length_cons] at hBs;refine⟨_,fP rfl,?_⟩;have ad:=ub (r:=rs.getD s.toNat []) (g:=g) (by omega);have ix:=uT hs;simp only[List.foldl_cons] at he;generalize rs.getD s.toNat []=row at ad ix hBs he;refine Ou.put (k:=0) (j:=0) (xs:=rs.map am) (v:=(0,am (row++[g]))) (n:=s) rfl ?_ (jQ _) rfl (by simpa using hs) ?_
    ·simp[-bK,-aF,ix,ad]
    ·refine Ou.nil ⟨some (0,.int s),rs.set s.toNat (row++[g]),suf,by simp[List.map_set],rfl,?_,by simpa using hlen,fun i h=>hi i (bw _ h),?_⟩
     ·exact he
     ·intro r hr;rcases List.mem_or_eq_of_mem_set hr with h | h
      ·have:=hB r h;simp only[List.length_cons] at this;omega
      ·subst h;simp;omega
  ·rintro a ⟨y,rs,suf,ha,hr,he,_⟩;have:suf=[]:=by simpa using hr.symm
   subst this ha;simp only[List.foldl_nil] at he;subst he;exact Ou.ret (x:=(0,aw (eI c g rows))) (by simp[aw]) rfl
 obtain⟨j,d,e,rfl⟩:=Ou.run (n:=n+5) (vs:=[(k,wd p cs),(k',aw rows),(k'',.int g)]) (V:=fun d=>d=aw (eI c g rows)) P.f25 rfl rfl (key.mono (fun _ h=>h.elim) (fun _ h=>h) fun _ _ _ h=>h);exact⟨j,e⟩
end
noncomputable def bU (f:List Nat->List Nat)(c:List Int)(rows:List (List Nat)):List (List Nat):=c.foldl (fun rs i=>rs.set i.toNat (f (rs.getD i.toNat []))) rows
theorem vx (c:List Int)(g:Nat)(rows:List (List Nat)):eI c g rows=bU (fun r=>r++[g]) c rows:=rfl
theorem qO (f:List Nat->List Nat):∀(c:List Int) (rows:List (List Nat)),c.Nodup->(∀i∈c,0<=i/\i<rows.length)->∀j:Nat,(bU f c rows)[j]? = rows[j]?.map fun r=>if (j:Int)∈c then f r else r
 | [],rows,_,_,j=>by simp[bU]
 | i::c,rows,hn,hi,j=>by
  obtain⟨h1,h2⟩:=List.nodup_cons.mp hn;have hi0:=hi i bD;have ih:=qO f c (rows.set i.toNat (f (rows.getD i.toNat []))) h2 (fun x hx=>by simpa using hi x (bw _ hx)) j;show (bU f c (rows.set i.toNat (f (rows.getD i.toNat []))))[j]? = _;rw[ih,List.getElem?_set];by_cases e:i.toNat=j
  ·have e':i=(j:Int):=by omega
   have hj:j<rows.length:=by omega
   subst e';simp[hj,h1]
  ·have e':¬(j:Int)=i:=by omega
   simp[e,e']
theorem zy (hn:c.Nodup)(hi:∀i∈c,0<=i/\i<rows.length):bU f c rows=rows.mapIdx fun j r=>if (j:Int)∈c then f r else r:=by
 refine List.ext_getElem? fun j=>?_;rw[qO f c rows hn hi j,List.getElem?_mapIdx]
theorem rS (xs:List α):cutD xs none (some (-1))=xs.dropLast:=by
 rw[List.dropLast_eq_take];simp only[cutD,cQ];simp;congr 1
 omega
theorem jK (r:List Nat):(ah r).length=r.length:=by simp[ah]
theorem t3 (r:List Nat):(ah r).dropLast=ah r.dropLast:=by simp[ah]
structure Pd (G:Pg):Prop where
 f98:G.fn 98=some ig
 f71:G.fn 71=some dS
 f99:G.fn 99=some nY
theorem vM:∀{xs:List Int},xs.Pairwise (· < ·)->cG xs=true
 | [],_=>rfl
 | [x],_=>rfl
 | x::y::r,h=>by
  have ih:=vM (List.Pairwise.tail h);have hxy:x<y:=by cases h with | cons h _=>exact h y bD
  unfold cG at ih ⊢;simp at ih ⊢;exact⟨hxy,ih⟩
structure OkC (p:Nat)(c:List Int):Prop where
 gd:good p c=true
 ne:c≠[]
 rg:∀i∈c,0<=i/\i<p
 nd:c.Nodup
 ln:c.length<=6
theorem tZ (hp:p<=6)(h1:ns.Pairwise (· < ·))(h2:∀n∈ns,n<p)(h3:ns≠[]):OkC p (ns.map fun (n:Nat)=>(n:Int)):=by
 have pw:(ns.map fun (n:Nat)=>(n:Int)).Pairwise (· < ·):=List.Pairwise.map _ (fun a b h=>by simpa using h) h1;have rg:∀i∈ns.map fun (n:Nat)=>(n:Int),0<=i/\i<p:=fun i hi=>by
  obtain⟨n,hn,rfl⟩:=du hi;have:=h2 n hn;omega
 have ne:ns.map (fun (n:Nat)=>(n:Int))≠[]:=by simpa using h3
 have ln:∀(ns:List Nat) (lo:Nat),ns.Pairwise (· < ·)->(∀n∈ns,lo<=n/\n<p)->lo+ns.length<=p\/ns=[]:=by
  intro ns;induction ns with
  | nil=>intro _ _ _; exact .inr rfl
  | cons x r ih=>
   intro lo hp' hr;obtain⟨q1,q2⟩:=List.pairwise_cons.mp hp';have hx:=hr x bD;rcases ih (x+1) q2 (fun n hn=>⟨q1 n hn,(hr n (bw _ hn)).2⟩) with h | h
   ·simp only[List.length_cons]; omega
   ·subst h; simp; omega
 refine⟨?_,ne,rg,pw.imp fun h=>by omega,?_⟩
 ·simp only[good,Bool.and_eq_true,decide_eq_true_eq,List.all_eq_true];exact⟨⟨ne,rg⟩,vM pw⟩
 ·rcases ln ns 0 h1 (fun n hn=>⟨Nat.zero_le _,h2 n hn⟩) with h | h
  ·simp; omega
  ·exact absurd h h3
variable {G:Pg}(P:Pd G)
include P
theorem nL (n k k':Nat)(ns:List Int)(j:Nat):∃d,run G (n+1) 98 [(k,.lst (ns.map .int)),(k',.int j)]=.ret d (.int (ns.getD j 0)) []:=by
 rw[run,P.f98];by_cases h:j<ns.length
 ·have h':(j:Int)<ns.length:=by omega
  exact⟨0,by simp[ig,h',ef,h]⟩
 ·have h':¬(j:Int)<ns.length:=by omega
  have e:ns[j]? = none:=List.getElem?_eq_none (by omega);exact⟨99,by simp[ig,h',e]⟩
theorem m8 (n k k' k'':Nat)(c s m:Int)(hm:0<m)(hs:0<=s/\s<=1000):∃v j,run G (n+1) 71 [(k,.int c),(k',.int s),(k'',.int m)]=.ret j (.int v) []/\0<=v/\v<m:=by
 have b10:dh 10=true:=gw.mpr (by decide);have b31:dh 31=true:=gw.mpr (by decide);have b977:dh 977=true:=gw.mpr (by decide);have b65:dh 65537=true:=gw.mpr (by decide);have fin:∀x:Int,0<=x % m/\x % m<m:=fun x=>⟨Int.emod_nonneg _ (by omega),Int.emod_lt_of_pos _ hm⟩
 have key:Ou G (run G n) [] [some (0,.int c),some (0,.int s),some (0,.int m),none,none,none] dS.body (fun _=>False) (fun d=>∃v,d=.int v/\0<=v/\v<m) fun _ _ _=>False:=by
  by_cases h:c > 1000000000
  ·refine Ou.iffT (j:=99) (by simp[b10]; omega) ?_;refine Ou.set (x:=(99,.int (c / 1000))) rfl ?_;have hk:0<=s % 9/\s % 9<9:=⟨Int.emod_nonneg _ (by decide),Int.emod_lt_of_pos _ (by decide)⟩
   obtain⟨q,eq⟩:∃q:Nat,s % 9=(q:Int):=⟨(s % 9).toNat,by omega⟩
   have hq:q<=SL:=by
    have:9<=SL:=by decide
    omega
   refine Ou.fo (fun r a=>∃(x4:Option KD) (y:Int),a=[some (0,.int c),some (0,.int s),some (0,.int m),some (0,.int y),x4,none]) (vs:=[(99,.int (q:Int))]) (xs:=(List.range q).map fun (n:Nat)=>D.int n) (by simp[eq]) (wk_rng1 hq) (by simpa using hq) ⟨none,c / 1000,by simp⟩ ?_ ?_
   ·rintro x r a ⟨x4,y,ha⟩;subst ha;refine⟨_,fP rfl,?_⟩;refine Ou.set (x:=(99,.int (y / 1000))) rfl ?_;exact Ou.nil ⟨some (0,x),y / 1000,by simp⟩
   ·rintro a ⟨x4,y,ha⟩;subst ha;exact Ou.ret (x:=(99,.int (y % 1000 % m))) (by simp[hm]) ⟨_,rfl,fin _⟩
  ·refine Ou.iffN (j:=99) (by simp[b10]; omega) ?_;refine Ou.set (x:=(99,.int (c % 1000003+31 * s+1))) (by simp[b31]) ?_;have hx:dh (c % 1000003+31 * s+1)=true:=gw.mpr (by omega);generalize c % 1000003+31 * s+1=x at hx;exact Ou.ret (x:=(99,.int ((x * x+65537 * x+977 * s) % 999983 / 3 % m))) (by simp[hx,b65,b977,hm]) ⟨_,rfl,fin _⟩
 obtain⟨j,d,e,v,rfl,h1,h2⟩:=Ou.run (n:=n) (vs:=[(k,.int c),(k',.int s),(k'',.int m)]) (V:=fun d=>∃v,d=.int v/\0<=v/\v<m) P.f71 rfl rfl (key.mono (fun _ h=>h.elim) (fun _ h=>h) fun _ _ _ h=>h);exact⟨v,j,e,h1,h2⟩
end Ip
end
section
namespace Ip
open PySem (Str)
noncomputable def cm (p:Nat):Int:=([1,3,7,15,31,63]:List Int).getD (p - 1) 1
noncomputable def dY (v:Int)(p:Nat):List Nat:=(List.range p).filter fun n=>decide (v / (([1,2,4,8,16,32]:List Int).getD n 1) % 2=1)
theorem y0:∀p:Fin 7,∀v:Fin 64,1<=p.1->1<=v.1->(v.1:Int)<=cm p.1->dY (v.1:Int) p.1≠[]:=by decide +kernel
theorem xh:∀p:Fin 7,cm p.1<=63:=by decide +kernel
theorem BU (hp:1<=p/\p<=6)(hv:1<=v/\v<=cm p):dY v p≠[]:=by
 have hf:=xh ⟨p,by omega⟩;obtain⟨u,rfl⟩:∃u:Nat,v=(u:Int):=⟨v.toNat,by omega⟩
 exact y0 ⟨p,by omega⟩ ⟨u,by dsimp only at hf; omega⟩ hp.1 (by dsimp only; omega) hv.2
theorem w8 (h:i<6):∃y:Int,([1,2,4,8,16,32]:List Int).getD i 1=y/\0<y/\y<1073741824/\aF (.lst [.int 1,.int 2,.int 4,.int 8,.int 16,.int 32]) (.int (i:Nat))=some (0,.int y):=by
 have hq:i=0\/i=1\/i=2\/i=3\/i=4\/i=5:=by omega
 rcases hq with rfl | rfl | rfl | rfl | rfl | rfl <;> exact⟨_,rfl,by decide,by decide,rfl⟩
theorem Dy (hp:1<=p/\p<=6)(hv:1<=v/\v<=cm p):OkC p ((dY v p).map fun (n:Nat)=>(n:Int)):=by
 refine tZ hp.2 (List.pairwise_lt_range.filter _) (fun n hn=>?_) (BU hp hv);exact List.mem_range.mp (List.mem_filter.mp hn).1
theorem D1 {p:Nat}(hp:1<=p/\p<=6):aF (.lst [.int 1,.int 3,.int 7,.int 15,.int 31,.int 63]) (.int ((p:Int) - 1))=some (0,.int (cm p)):=by
 have hq:p=1\/p=2\/p=3\/p=4\/p=5\/p=6:=by omega
 rcases hq with rfl | rfl | rfl | rfl | rfl | rfl <;> simp[aF,ef,cm]
theorem zv (p:Nat):0<cm p:=by
 unfold cm;by_cases h:p - 1<6
 ·have hq:p - 1=0\/p - 1=1\/p - 1=2\/p - 1=3\/p - 1=4\/p - 1=5:=by omega
  rcases hq with e | e | e | e | e | e <;> rw[e] <;> decide
 ·have:([1,3,7,15,31,63]:List Int)[p - 1]? = none:=List.getElem?_eq_none (by simpa using by omega);simp[this]
theorem DN {α:Type}{xs:List α}{v:Nat}(h:v<xs.length):cutD (cutD xs (some (v:Int)) none) none (some 1)=[xs[v]]:=by
 have e:=pO (xs.drop v) 1;rw[nQ];simp only[Int.natCast_one] at e;rw[e,List.drop_eq_getElem_cons h,List.take_succ_cons,List.take_zero]
theorem A9 (hp:p<=6)(h:OkC p c)(hi:i∈c):OkC p [i]:=by
 have h1:=h.rg i hi;have:=tZ (p:=p) (ns:=[i.toNat]) hp (by simp) (fun n hn=>by simp at hn; omega) (by simp);simp only[List.map_cons,List.map_nil] at this
 rwa [Int.toNat_of_nonneg h1.1] at this
variable {G:Pg}(P:Pd G)
include P
set_option maxHeartbeats 600000 in
theorem yY (n k k':Nat)(ns:List Int)(p:Nat)(hp:1<=p/\p<=6):∃j cs,run G (n+2) 99 [(k,.lst (ns.map .int)),(k',.int p)]=.ret j (al cs) []/\cs.length<=6/\∀c∈cs,OkC p c:=by
 obtain⟨d1,q1⟩:=nL P n 0 99 ns 1;have hq0:0<=ns.getD 1 0 % 7/\ns.getD 1 0 % 7<7:=⟨Int.emod_nonneg _ (by decide),Int.emod_lt_of_pos _ (by decide)⟩
 obtain⟨q,eq⟩:∃q:Nat,ns.getD 1 0 % 7=(q:Int):=⟨(ns.getD 1 0 % 7).toNat,by omega⟩
 have hq:q<=6:=by omega
 have hS:q<=SL:=br hq (by decide);have hpS:p<=SL:=br hp.2 (by decide);have i2:dh 2=true:=gw.mpr (by decide);have key:Ou G (run G (n+1)) [] [some (0,.lst (ns.map .int)),some (0,.int p),none,none,none,none,none] nY.body (fun _=>False) (fun d=>∃cs,d=al cs/\cs.length<=6/\∀c∈cs,OkC p c) fun _ _ _=>False:=by
  refine Ou.setK (x:=(99,.lst [])) (by simp) (by simp) ?_;refine Ou.low (a':=[some (0,.lst (ns.map .int)),some (0,.int p),some (1,.lst []),none,none,none,none]) (.cons (.refl _) (.cons (.refl _) (.cons ⟨rfl,by decide⟩ (.refl _)))) ?_;refine Ou.fo (fun r a=>∃(x3 x4 x5 x6:Option KD) (cs:List (List Int)) (suf:List Nat),a=[some (0,.lst (ns.map .int)),some (0,.int p),some (1,al cs),x3,x4,x5,x6]/\r=suf.map (fun (n:Nat)=>D.int n)/\cs.length+suf.length<=6/\∀c∈cs,OkC p c) (vs:=[(99,.int (q:Int))]) (xs:=(List.range q).map fun (n:Nat)=>D.int n) ?_ (wk_rng1 hS) (by simpa using hS) ?_ ?_ ?_
  ·simp at q1 eq;simp[P.f98,ig,q1,eq]
  ·exact⟨none,none,none,none,[],List.range q,by simp[al],rfl,by simpa using hq,by simp⟩
  ·rintro x r a ⟨x3,x4,x5,x6,cs,suf,ha,hr,hl,hok⟩;cases suf with
   | nil=>simp at hr
   | cons s suf=>
    simp only[List.map_cons,List.cons.injEq] at hr;obtain⟨rfl,rfl⟩:=hr;subst ha;simp only[List.length_cons] at hl;refine⟨_,fP rfl,?_⟩;obtain⟨d2,q2⟩:=nL P n 0 99 ns (2+s);have e2:((2+s:Nat):Int)=2+(s:Int):=by omega
    rw[e2] at q2;generalize ns.getD (2+s) 0=c at q2;refine Ou.set (x:=(d2,.int c)) (by simp[P.f98,ig,q2]) ?_;obtain⟨v,j3,q3,hv0,hv1⟩:=m8 P n 0 99 0 c 1 (cm p) (zv p) (by decide);have im:=D1 hp;refine Ou.set (x:=(99,.int (1+v))) (by simp[-aF,im,P.f71,dS,q3]) ?_;have ok:=Dy (v:=1+v) hp (by omega);have eF:dY (1+v) p=(List.range p).filter fun n=>decide ((1+v) / (([1,2,4,8,16,32]:List Int).getD n 1) % 2=1):=rfl;generalize dY (1+v) p=F at ok eF;have cc:aC (compF G (run G (n+1)) [none,none,some (.int (1+v))] (.one 1) [(.op .eq [(.op .mod [(.op .fdiv [(.var 2),(.op .ix [(.op .lst [(.cst (.int (1))),(.cst (.int (2))),(.cst (.int (4))),(.cst (.int (8))),(.cst (.int (16))),(.cst (.int (32)))]),(.var 1)])]),(.cst (.int (2)))]),(.cst (.int (1)))])] (.var 1)) ((List.range p).map fun (n:Nat)=>D.int n)=.ok (F.map fun (n:Nat)=>((0:Nat),D.int n)):=by
     rw[eF];refine v7 fun i hi=>?_;obtain⟨y,ey,hy,h3,ix⟩:=w8 (i:=i) (by have:=List.mem_range.mp hi; omega);rw[ey];have hy':¬y=0:=by omega
     simp[-aF,compF,ix,D.eq,hy,hy',h3]; split <;> rfl
    have hj:aE (F.map fun (n:Nat)=>((0:Nat),D.int n))=98:=p0 fun x hx=>by
     obtain⟨c,_,rfl⟩:=du hx;simp
    clear eF;refine Ou.set (x:=(99,.lst (F.map fun (n:Nat)=>D.int n))) (by simp[wk_rng1 hpS,hpS,cc,hj,Function.comp_def]) ?_;obtain⟨c1,ec,oc⟩:∃c1:List Int,F.map (fun (n:Nat)=>D.int n)=c1.map .int/\OkC p c1:=⟨F.map fun (n:Nat)=>(n:Int),by simp,ok⟩
    rw[ec];clear ec cc hj ok;have fin:∀(c2:List Int) (a:Fr),a=[some (0,.lst (ns.map .int)),some (0,.int p),some (1,al cs),some (0,.int s),some (0,.int c),some (0,.int (1+v)),some (0,.lst (c2.map .int))]->OkC p c2->Ou G (run G (n+1)) [] a [.mut 2 [] .append [(.var 6)]] (fun a=>∃(x3 x4 x5 x6:Option KD) (cs:List (List Int)) (suf':List Nat),a=[some (0,.lst (ns.map .int)),some (0,.int p),some (1,al cs),x3,x4,x5,x6]/\suf.map (fun (n:Nat)=>D.int n)=suf'.map (fun (n:Nat)=>D.int n)/\cs.length+suf'.length<=6/\∀c∈cs,OkC p c) (fun d=>∃cs,d=al cs/\cs.length<=6/\∀c∈cs,OkC p c) fun _ _ _=>False:=by
     intro c2 a ea o2;subst ea;have hl6:cs.length<SL:=by
      have:7<=SL:=by decide
      omega
     refine Ou.append (k:=0) (xs:=cs.map fun c=>.lst (c.map .int)) (v:=(0,.lst (c2.map .int))) (by simp[al,frz,frz1]) (by simp) (by simpa using hl6) ?_;refine Ou.nil ⟨some (0,.int s),some (0,.int c),some (0,.int (1+v)),some (0,.lst (c2.map .int)),cs++[c2],suf,by simp[al,frz,frz1],rfl,by simp; omega,?_⟩;intro c hc;rcases dk hc with h | h
     ·exact hok c h
     ·rw[List.mem_singleton.mp h]; exact o2
    obtain⟨v4,j4,q4,h40,h41⟩:=m8 P n 0 99 99 c 2 2 (by decide) (by decide);by_cases h:v4=1
    ·subst h;have hlen:(0:Int)<c1.length:=by
      have:=oc.ne;have:=List.length_pos_iff.mpr this;omega
     obtain⟨v5,j5,q5,h50,h51⟩:=m8 P n 0 99 99 c 3 c1.length hlen (by decide);obtain⟨u,rfl⟩:∃u:Nat,v5=(u:Int):=⟨v5.toNat,by omega⟩
     have hu:u<c1.length:=by omega
     have ct:=DN (xs:=c1.map D.int) (v:=u) (by simpa using hu);refine Ou.iffT (j:=99) (by simp[P.f71,dS,q4,D.eq]) ?_;refine Ou.set (x:=(1,.lst ([c1[u]].map .int))) (by simp[P.f71,dS,q5,ct]) ?_;refine Ou.nil ?_;exact fin _ _ (by simp) (A9 hp.2 oc (List.getElem_mem hu))
    ·refine Ou.iffN (j:=99) (by simp[P.f71,dS,q4,D.eq,h]) ?_;exact fin _ _ (by simp) oc
  ·rintro a ⟨x3,x4,x5,x6,cs,suf,ha,hr,hl,hok⟩;subst ha;exact Ou.ret (x:=(0,al cs)) (by simp) ⟨cs,rfl,by omega,hok⟩
 obtain⟨j,d,e,cs,rfl,h1,h2⟩:=Ou.run (n:=n+1) (vs:=[(k,.lst (ns.map .int)),(k',.int p)]) (V:=fun d=>∃cs,d=al cs/\cs.length<=6/\∀c∈cs,OkC p c) P.f99 rfl rfl (key.mono (fun _ h=>h.elim) (fun _ h=>h) fun _ _ _ h=>h);exact⟨j,cs,e,h1,h2⟩
end Ip
end
section
namespace Ip
noncomputable def aK (cs:List (List Int))(g:Nat):List Int:=cs.getD g []
noncomputable def aS (cs:List (List Int))(j:Nat)(gs:List Nat):List Nat:=gs.filter fun g=>decide ((j:Int)∈aK cs g)
theorem vJ (cs:List (List Int))(j:Nat)(A B:List Nat):aS cs j (A++B)=aS cs j A++aS cs j B:=by simp[aS]
theorem vS (cs:List (List Int))(j g:Nat)(B:List Nat):aS cs j (g::B)=if (j:Int)∈aK cs g then g::aS cs j B else aS cs j B:=by
 unfold aS;rw[List.filter_cons];by_cases h:(j:Int)∈aK cs g <;> simp[h]
noncomputable def ac (cs:List (List Int))(p:Nat)(gs:List Nat):List (List Nat):=(List.range p).map fun j=>aS cs j gs
theorem gp (cs:List (List Int))(p:Nat)(gs:List Nat):(ac cs p gs).length=p:=by simp[ac]
structure Cv (p:Nat)(cs:List (List Int)):Prop where
 p1:1<=p
 p6:p<=6
 m6:cs.length<=6
 ne:∀g,g<cs.length->aK cs g≠[]
 rg:∀g,∀i∈aK cs g,0<=i/\i<p
 nd:∀g,(aK cs g).Nodup
 ln:∀g,(aK cs g).length<=6
structure Wn (cs:List (List Int))(gs:List Nat):Prop where
 nd:gs.Nodup
 lt:∀g∈gs,g<cs.length
theorem pK {gs:List Nat}{m:Nat}(h1:gs.Nodup)(h2:∀g∈gs,g<m):gs.length<=m:=by
 induction m generalizing gs with
 | zero=>
  cases gs with
  | nil=>exact aX _
  | cons x r=>exact absurd (h2 x bD) (by omega)
 | succ m ih=>
  have:=ih (h1.erase m) fun x hx=>by
   have:=(h1.mem_erase_iff).mp hx;have:=h2 x this.2;omega
  rw[List.length_erase] at this;split at this <;> omega
theorem Wn.len {p:Nat}{cs:List (List Int)}{gs:List Nat}(C:Cv p cs)(w:Wn cs gs):gs.length<=6:=br (pK w.nd w.lt) C.m6
theorem n8 (h:g∈(ac cs p gs).flatten):g∈gs:=by
 obtain⟨r,hr,hg⟩:=List.mem_flatten.mp h;obtain⟨j,_,rfl⟩:=du hr;exact (List.mem_filter.mp hg).1
theorem t6 (C:Cv p cs)(w:Wn cs gs)(h:g∈gs):g∈(ac cs p gs).flatten:=by
 cases e:aK cs g with
 | nil=>exact absurd e (C.ne g (w.lt g h))
 | cons i c=>
  have hi:i∈aK cs g:=by rw[e]; exact bD
  have rg:=C.rg g i hi;refine List.mem_flatten.mpr ⟨aS cs i.toNat gs,List.mem_map.mpr ⟨i.toNat,List.mem_range.mpr (by omega),rfl⟩,List.mem_filter.mpr ⟨h,decide_eq_true ?_⟩⟩;rw[Int.toNat_of_nonneg rg.1]; exact hi
theorem yW:∀p:Nat,(ac cs p gs).flatten.length<=p * gs.length:=fun p=>by
 have:∀l:List Nat,(l.map fun j=>aS cs j gs).flatten.length<=l.length * gs.length:=by
  intro l;induction l with
  | nil=>simp
  | cons x l ih=>
   have h1:(aS cs x gs).length<=gs.length:=List.length_filter_le _ _;rw[List.map_cons,List.flatten_cons,List.length_append,List.length_cons,Nat.add_mul,Nat.one_mul];omega
 simpa[ac] using this (List.range p)
theorem Wn.fl (C:Cv p cs)(w:Wn cs gs):(ac cs p gs).flatten.length<=36:=
 br (yW p) (Nat.mul_le_mul C.p6 (w.len C))
theorem Wn.f6 (C:Cv p cs)(w:Wn cs gs):∀g∈(ac cs p gs).flatten,g<6:=fun g h=>by
 have:=w.lt g (n8 h);have:=C.m6;omega
theorem Wn.srt (C:Cv p cs)(w:Wn cs gs):aO (ac cs p gs).flatten=aO gs:=by
 unfold aO;refine List.filter_congr fun g _=>?_;rw[Bool.eq_iff_iff];simp only[List.contains_iff_mem];exact⟨n8,t6 C w⟩
theorem Wn.mS (C:Cv p cs)(w:Wn cs gs)(g:Nat):g∈aO gs↔g∈gs:=by
 constructor
 ·intro h; simpa using (List.mem_filter.mp h).2
 ·intro h;have:=w.lt g h;have:=C.m6;exact (n0 (by omega)).mpr h
theorem u7 (C:Cv p cs)(h1:∀j:Nat,(j:Int)∈aK cs g->f (aS cs j gs)=aS cs j gs')(h2:∀j:Nat,(j:Int)∉aK cs g->aS cs j gs=aS cs j gs'):bU f (aK cs g) (ac cs p gs)=ac cs p gs':=by
 rw[zy (C.nd g) fun i hi=>by rw[gp]; exact C.rg g i hi];refine List.ext_getElem? fun j=>?_;rw[List.getElem?_mapIdx];unfold ac;rw[List.getElem?_map,List.getElem?_map];by_cases hj:j<p
 ·rw[List.getElem?_range hj];simp only[Option.map_some];by_cases h:(j:Int)∈aK cs g
  ·rw[if_pos h,h1 j h]
  ·rw[if_neg h,h2 j h]
 ·rw[List.getElem?_eq_none (by simp; omega)];rfl
theorem tj (C:Cv p cs):eI (aK cs g) g (ac cs p gs)=ac cs p (gs++[g]):=by
 rw[vx];refine u7 C (fun j hj=>?_) fun j hj=>?_
 ·rw[vJ,vS,if_pos hj]; rfl
 ·rw[vJ,vS,if_neg hj]; exact (List.append_nil _).symm
noncomputable def fm (l:List Nat)(g:Nat):List Nat:=(l.drop (l.idxOf g+1)).take 1
noncomputable def cz (cs:List (List Int))(gs:List Nat)(g:Nat)(i:Int):List Nat:=fm (aS cs i.toNat gs) g
noncomputable def dC (cs:List (List Int))(gs:List Nat)(g:Nat):List Nat:=((aK cs g).map (cz cs gs g)).flatten
theorem CB (h:x∈cz cs gs g i):x∈gs:=(List.mem_filter.mp (List.mem_of_mem_drop (List.mem_of_mem_take h))).1
theorem qQ (h:x∈dC cs gs g):x∈gs:=by
 obtain⟨l,hl,hx⟩:=List.mem_flatten.mp h;obtain⟨i,_,rfl⟩:=du hl;exact CB hx
theorem nh (cs:List (List Int))(gs:List Nat)(g:Nat)(i:Int):(cz cs gs g i).length<=1:=by unfold cz fm; simp; omega
theorem BX {g:Nat}{A B:List Nat}(h:g∉A):(A++g::B).idxOf g=A.length:=by
 rw[List.idxOf_append,if_neg h,List.idxOf_cons_self,Nat.zero_add]
theorem xw {g:Nat}{A B:List Nat}(h:g∉A):fm (A++g::B) g=B.take 1:=by
 unfold fm;rw[BX h];have:A++g::B=(A++[g])++B:=by simp
 rw[this,show A.length+1=(A++[g]).length by simp,List.drop_left]
theorem za {cs:List (List Int)}{gs:List Nat}{g j:Nat}(w:gs.Nodup)(hg:g∈gs)(ho:dC cs gs g=[])(hj:(j:Int)∈aK cs g):∃r,aS cs j gs=r++[g]/\g∉r:=by
 have hgf:g∈aS cs j gs:=List.mem_filter.mpr ⟨hg,decide_eq_true hj⟩;obtain⟨A,B,e⟩:=List.append_of_mem hgf;have nd:(aS cs j gs).Nodup:=w.filter _;rw[e] at nd;have hA:g∉A:=fun z=>(List.nodup_append.mp nd).2.2 g z g (by simp) rfl;have hn:cz cs gs g (j:Int)=[]:=by
  have:=List.flatten_eq_nil_iff.mp ho (cz cs gs g (j:Int)) (List.mem_map.mpr ⟨_,hj,rfl⟩);exact this
 unfold cz at hn;rw[Int.toNat_natCast,e,xw hA] at hn;cases B with
 | nil=>exact⟨A,e,hA⟩
 | cons b B=>cases hn
noncomputable def gA (g:Nat)(gs:List Nat):List Nat:=gs.filter fun x=>decide (x≠g)
theorem sg (C:Cv p cs)(w:gs.Nodup)(hg:g∈gs)(ho:dC cs gs g=[]):bU List.dropLast (aK cs g) (ac cs p gs)=ac cs p (gA g gs):=by
 have sw:∀j,aS cs j (gA g gs)=(aS cs j gs).filter fun x=>decide (x≠g):=fun j=>by unfold aS gA; rw[List.filter_filter,List.filter_filter]; congr 1; funext x; rw[Bool.and_comm]
 refine u7 C (fun j hj=>?_) fun j hj=>?_
 ·obtain⟨r,e,hr⟩:=za w hg ho hj;rw[sw,e,List.dropLast_concat,List.filter_append];have f1:r.filter (fun x=>decide (x≠g))=r:=List.filter_eq_self.mpr fun x hx=>decide_eq_true fun e=>hr (e ▸ hx);rw[f1]; simp
 ·rw[sw];refine (List.filter_eq_self.mpr fun x hx=>?_).symm;have hxc:(j:Int)∈aK cs x:=of_decide_eq_true (List.mem_filter.mp hx).2;have:x≠g:=fun e=>hj (e ▸ hxc);simpa using this
theorem cut1 (xs:List α)(a:Nat)(h:a<=xs.length):cutD xs (some (a:Int)) (some ((a:Int)+1))=(xs.drop a).take 1:=by
 have s1:cQ xs.length 0 (some (a:Int))=a:=by
  simp only[cQ]; rw[if_pos (by omega)]; omega
 have s2:cQ xs.length xs.length (some ((a:Int)+1))=min (a+1) xs.length:=by
  simp only[cQ]; rw[if_pos (by omega)]; omega
 unfold cutD;rw[s1,s2];by_cases e:a=xs.length
 ·subst e; simp
 ·rw[show min (a+1) xs.length - a=1 by omega]
theorem rc:∀{os:List Nat},g∈os->D.find (.int g) (ah os)=some (os.idxOf g)
 | [],h=>by cases h
 | x::os,h=>by
  have e0:D.find (.int g) (ah (x::os))=if (D.int (Int.ofNat x)).eq (.int g) then some 0 else (D.find (.int g) (ah os)).map (·+1):=by
   unfold D.find ah;rw[List.map_cons,List.findIdx?_cons]
  rw[e0];by_cases hx:x=g
  ·subst hx;simp[D.eq]
  ·have h1:¬(x:Int)=(g:Int):=by omega
   have h2:=rc (os:=os) ((bN h).resolve_left fun e=>hx e.symm);have h3:(x == g)=false:=beq_eq_false_iff_ne.mpr hx;rw[h2,List.idxOf_cons,h3];simp[D.eq,h1]
theorem pi {cs:List (List Int)}{p j:Nat}{O:List Nat}(h:j<p):aF (aw (ac cs p O)) (.int (j:Nat))=some (0,am (aS cs j O)):=by
 have h':(j:Int)<p:=by omega
 simp[aw,aF,ef,ac,h',h]
theorem Cv.at (h:g<cs.length):cs[g]? = some (aK cs g):=by simp[aK,h]
theorem we (C:Cv p cs)(w:Wn cs gs):aO (dC cs gs g)=[]↔dC cs gs g=[]:=by
 constructor
 ·intro h;cases e:dC cs gs g with
  | nil=>rfl
  | cons x l=>
   have hx:x∈dC cs gs g:=by rw[e]; exact bD
   have:=w.lt x (qQ hx);have:=(n0 (show x<6 by have:=C.m6; omega)).mpr hx;rw[h] at this; cases this
 ·intro h; rw[h]; rfl
structure P5 (G:Pg):Prop where
 v:Pv G
 f7:G.fn 7=some kN
 c0:G.cl 0=some ⟨none,[],[],true⟩
 c5:G.cl 5=some ⟨(some 7),[],[0],true⟩
variable {G:Pg}(P:P5 G)
include P
theorem qS (n k:Nat)(p:Nat)(cs:List (List Int))(gs:List Nat)(C:Cv p cs)(w:Wn cs gs):run G (n+1) 24 [(k,aw (ac cs p gs))]=.ret 1 (.lst (ah (aO gs))) []:=by
 have:=r8 P.v n k (ac cs p gs) (by rw[gp]; exact C.p6) (by have:=w.fl C; omega) (w.f6 C);rw[w.srt C] at this;exact this
theorem BY (n k k' k'':Nat)(p:Nat)(cs:List (List Int))(gs:List Nat)(g:Nat)(C:Cv p cs)(w:Wn cs gs)(hg:g<cs.length)(hn:g∉gs):∃j,run G (n+6) 25 [(k,wd p cs),(k',aw (ac cs p gs)),(k'',.int g)]=.ret j (aw (ac cs p (gs++[g]))) []:=by
 have hfl:=w.fl C;have:=yr P.v n k k' k'' p cs (ac cs p gs) g (aK cs g) (Cv.at hg) (fun i hi=>by rw[gp]; exact C.rg g i hi) (by rw[gp]; exact C.p6) (C.ln g) (by omega) (w.f6 C) (by have:=C.m6; omega) fun z=>hn (n8 z);rw[tj C] at this;exact this
theorem uk (n k k' k'':Nat)(p:Nat)(cs:List (List Int))(gs:List Nat)(g:Nat)(C:Cv p cs)(w:Wn cs gs)(hg:g∈gs):run G (n+6) 26 [(k,wd p cs),(k',aw (ac cs p gs)),(k'',.int g)]=.ret 1 (.lst (ah (aO (dC cs gs g)))) []:=by
 have hgl:=w.lt g hg;have hb:isB cs.length (.int g)=true:=by simp[isB,hgl]
 have q1:=lu P.v.a (n+1) 0 0 p cs (.int g) hb;have q2:=qS P (n+4) 0 p cs gs C w;have q3:=q0 P.v.a n 0 0 p cs g _ (Cv.at hgl);have hm:D.memb (.int g) (ah (aO gs))=true:=by rw[ko]; simp[w.mS C g,hg]
 have hsc:=gv (aO gs);have hS:(aK cs g).length<=SL:=br (C.ln g) (by decide);have h100:100<=SL:=by decide
 have hrg:=C.rg g;have hln:=C.ln g;have h6:∀x∈dC cs gs g,x<6:=fun x hx=>by
  have:=w.lt x (qQ hx);have:=C.m6;omega
 unfold dC at h6 ⊢;have hcv:∀i∈aK cs g,i∈aK cs g:=fun i h=>h;generalize hC:aK cs g=c at q3 hS h6 hrg hln;obtain⟨x,e,rfl⟩:=Ou.runE (G:=G) (n:=n+5) (f:=26) (F:=gO) (vs:=[(k,wd p cs),(k',aw (ac cs p gs)),(k'',.int g)]) (init:=gO.body.dropLast) (e:=.op .srtSet [(.var 3)]) (P:=fun x=>x=(1,.lst (ah (aO (c.map (cz cs gs g)).flatten)))) P.v.f26 rfl rfl rfl (fun _ h=>nomatch h) (by
  show Ou G (run G (n+5)) [] [some (0,wd p cs),some (0,aw (ac cs p gs)),some (0,.int g),none,none,none,none] _ _ _ _;refine Ou.ex (x:=(99,.non)) (by simp[P.v.a.f17,fO,q1]) ?_;refine Ou.iffN (j:=99) (by
   simp only[Fr.sl,bQ,bh,cM,gk,iu];simp[-List.all_eq_true,P.v.f24,iO,q2,hm,hsc]) ?_
  refine Ou.setK (x:=(99,.lst [])) rfl rfl ?_;refine Ou.low (a':=[some (0,wd p cs),some (0,aw (ac cs p gs)),some (0,.int g),some (1,.lst (ah [])),none,none,none]) (.cons (.refl _) (.cons (.refl _) (.cons (.refl _) (.cons ⟨rfl,by decide⟩ (.cons trivial (.cons trivial (.cons trivial .nil))))))) ?_;refine Ou.fo (fun r a=>∃(x4 x5 x6:Option KD) (pre suf:List Int),a=[some (0,wd p cs),some (0,aw (ac cs p gs)),some (0,.int g),some (1,.lst (ah (pre.map (cz cs gs g)).flatten)),x4,x5,x6]/\r=suf.map .int/\pre++suf=c) (vs:=[(1,.lst (c.map .int))]) (xs:=c.map .int) (by simp[pT P.v.a,ik,q3]) rfl (by simpa using hS) ⟨none,none,none,[],c,by simp,rfl,rfl⟩ ?_ ?_
  ·rintro x r a ⟨x4,x5,x6,pre,suf,ha,hr,he⟩;cases suf with
   | nil=>simp at hr
   | cons s suf=>
    simp only[List.map_cons,List.cons.injEq] at hr;obtain⟨rfl,rfl⟩:=hr;subst ha;have hs:s∈c:=by rw[<-he]; simp
    have rg:=hrg s hs;obtain⟨j,rfl⟩:∃j:Nat,s=(j:Int):=⟨s.toNat,by omega⟩
    have ix:=pi (cs:=cs) (O:=gs) (show j<p by omega);have hgf:g∈aS cs j gs:=List.mem_filter.mpr ⟨hg,decide_eq_true (by rw[hC]; exact hs)⟩;have sc:=gv (aS cs j gs);have id':b8 (am (aS cs j gs)) (.int g)=some (99,.int ((aS cs j gs).idxOf g:Nat)):=by
     rw[am,qP,rc hgf];simp[-List.all_eq_true,sc]
    have hlt:=List.idxOf_lt_length_of_mem hgf;have eo:cz cs gs g (j:Int)=((aS cs j gs).drop ((aS cs j gs).idxOf g+1)).take 1:=by unfold cz fm; rw[Int.toNat_natCast]
    have ct:aA (some (((aS cs j gs).idxOf g:Int)+1)) (some (((aS cs j gs).idxOf g:Int)+1+1)) (am (aS cs j gs))=some (0,.tup (ah (cz cs gs g (j:Int)))):=by
     have:=cut1 (ah (aS cs j gs)) ((aS cs j gs).idxOf g+1) (by rw[jK]; omega);simp only[Int.natCast_add,Int.natCast_one] at this;simp only[am,aA,this,eo];simp[ah,List.map_take,List.map_drop]
    have hol:=nh cs gs g (j:Int);have hpl:(pre.map (cz cs gs g)).flatten.length<=6:=by
     have h1:∀l:List Int,(l.map (cz cs gs g)).flatten.length<=l.length:=by
      intro l;induction l with
      | nil=>simp
      | cons x l ih=>
       have:=nh cs gs g x;rw[List.map_cons,List.flatten_cons,List.length_append,List.length_cons];omega
     have:=h1 pre;have:=congrArg List.length he;simp at this;omega
    generalize am (aS cs j gs)=row at ix id' ct;generalize (aS cs j gs).idxOf g=dd at id' ct;generalize hO:cz cs gs g (j:Int)=oo at ct hol;have sco:=gv oo;refine⟨_,fP rfl,?_⟩;refine Ou.set (x:=(0,row)) (by simp[-aF,ix]) ?_;refine Ou.set (x:=(99,.int ((dd:Int)+1))) (by simp[id']) ?_;refine Ou.extend (k:=0) (j:=0) (xs:=ah (pre.map (cz cs gs g)).flatten) (ys:=ah oo) rfl (by simp[-aA,ct]) sco (by rw[jK,jK]; omega) ?_;exact Ou.nil ⟨some (0,.int (j:Nat)),some (0,row),some (0,.int ((dd:Int)+1)),pre++[(j:Int)],suf,by simp[ah,hO],rfl,by simpa using he⟩
  ·rintro a ⟨x4,x5,x6,pre,suf,ha,hr,he⟩;have:suf=[]:=by simpa using hr.symm
   subst this ha;rw[List.append_nil] at he;subst he;exact Ou.nil ⟨(1,.lst (ah (aO (pre.map (cz cs gs g)).flatten))),by simp[o3 h6],rfl⟩)
 exact e
theorem AR (n k k' k'':Nat)(p:Nat)(cs:List (List Int))(gs:List Nat)(g:Nat)(C:Cv p cs)(w:Wn cs gs)(hg:g∈gs)(ho:dC cs gs g=[]):∃j,run G (n+7) 27 [(k,wd p cs),(k',aw (ac cs p gs)),(k'',.int g)]=.ret j (aw (ac cs p (gA g gs))) []:=by
 have q1:=uk P n 0 0 0 p cs gs g C w hg;rw[ho] at q1;have e0:ah (aO [])=[]:=rfl;rw[e0] at q1;have q3:=q0 P.v.a (n+1) 0 0 p cs g _ (Cv.at (w.lt g hg));have hS:(aK cs g).length<=SL:=br (C.ln g) (by decide);rw[<-sg C w.nd hg ho];have hpl:∀i∈aK cs g,0<=i/\i<(ac cs p gs).length:=fun i hi=>by rw[gp]; exact C.rg g i hi
 generalize ac cs p gs=rows at q1 hpl;generalize aK cs g=c at q3 hS hpl;have key:Ou G (run G (n+6)) [] [some (0,wd p cs),some (0,aw rows),some (0,.int g),none,none,none] hV.body (fun _=>False) (fun d=>d=aw (bU List.dropLast c rows)) fun _ _ _=>False:=by
  refine Ou.set (x:=(1,.lst [])) (by simp[P.v.f26,gO,q1]) ?_;refine Ou.iffN (j:=99) rfl ?_;refine Ou.setK (x:=(1,.lst (rows.map am))) (by simp[aw]) (by simp[jQ]) ?_;refine Ou.fo (fun r a=>∃(x:Option KD) (rs:List (List Nat)) (suf:List Int),a=[some (0,wd p cs),some (0,aw rows),some (0,.int g),some (0,.lst []),some (1,.lst (rs.map am)),x]/\r=suf.map .int/\bU List.dropLast suf rs=bU List.dropLast c rows/\rs.length=rows.length/\(∀i∈suf,0<=i/\i<rows.length)) (vs:=[(1,.lst (c.map .int))]) (xs:=c.map .int) (by simp[pT P.v.a,ik,q3]) rfl (by simpa using hS) ?_ ?_ ?_
  ·exact⟨none,rows,c,by simp,rfl,rfl,rfl,hpl⟩
  ·rintro x r a ⟨y,rs,suf,ha,hr,he,hlen,hi⟩;cases suf with
   | nil=>simp at hr
   | cons s suf=>
    simp only[List.map_cons,List.cons.injEq] at hr;obtain⟨rfl,rfl⟩:=hr;subst ha;have hs:0<=s/\s<rs.length:=by rw[hlen]; exact hi s bD
    refine⟨_,fP rfl,?_⟩;have ix:=uT hs;have he':bU List.dropLast suf (rs.set s.toNat (rs.getD s.toNat []).dropLast)=bU List.dropLast c rows:=he;generalize rs.getD s.toNat []=row at ix he';have ct:aA none (some (-1)) (am row)=some (0,am row.dropLast):=by
     simp only[am,aA,rS,t3]
    refine Ou.put (k:=0) (j:=0) (xs:=rs.map am) (v:=(0,am row.dropLast)) (n:=s) rfl ?_ (jQ _) rfl (by simpa using hs) ?_
    ·simp[-aA,-aF,ix,ct]
    ·exact Ou.nil ⟨some (0,.int s),rs.set s.toNat row.dropLast,suf,by simp[List.map_set],rfl,he',by simpa using hlen,fun i h=>hi i (bw _ h)⟩
  ·rintro a ⟨y,rs,suf,ha,hr,he,_⟩;have:suf=[]:=by simpa using hr.symm
   subst this ha;have he':rs=bU List.dropLast c rows:=he;subst he';exact Ou.ret (x:=(0,aw (bU List.dropLast c rows))) (by simp[aw]) rfl
 obtain⟨j,d,e,rfl⟩:=Ou.run (n:=n+6) (vs:=[(k,wd p cs),(k',aw rows),(k'',.int g)]) (V:=fun d=>d=aw (bU List.dropLast c rows)) P.v.f27 rfl rfl (key.mono (fun _ h=>h.elim) (fun _ h=>h) fun _ _ _ h=>h);exact⟨j,e⟩
theorem AD:aW G 5 2=some (7,kN,.exc 5 []):=by
 simp[aW,P.c5,P.f7,kN]
theorem wY (n k k':Nat)(a b:Int):run G (n+1) 7 [(1,.exc 5 []),(k,.int a),(k',.int b)]=.ret 99 .non [(1,.exc 5 [(2,.int a),(3,.int b)])]:=by
 rw[run,P.f7];simp[kN,bV,aJ]
theorem zo (n k k' k'':Nat)(p:Nat)(cs:List (List Int))(gs:List Nat)(g:Nat)(C:Cv p cs)(w:Wn cs gs)(hg:g∈gs)(y:Nat)(t:List Nat)(et:aO (dC cs gs g)=y::t):run G (n+7) 27 [(k,wd p cs),(k',aw (ac cs p gs)),(k'',.int g)]=.exc 5 [(2,.int g),(3,.int y)] []:=by
 have q1:=uk P n 0 0 0 p cs gs g C w hg;rw[et] at q1;have hl:(ah (y::t)).length=t.length+1:=by rw[jK]; rfl
 have i0:aF (.lst (ah (y::t))) (.int 0)=some (0,.int (y:Nat)):=by simp[ah,ef]
 have q2:=wY P (n+5) 0 0 (g:Nat) (y:Nat);obtain⟨c,fs,e,h1,h2⟩:=Ou.runX (n:=n+6) (vs:=[(k,wd p cs),(k',aw (ac cs p gs)),(k'',.int g)]) (X:=fun c fs=>c=5/\fs=[(2,.int g),(3,.int (y:Nat))]) P.v.f27 rfl rfl (by
  show Ou G (run G (n+6)) [] [some (0,wd p cs),some (0,aw (ac cs p gs)),some (0,.int g),none,none,none] _ _ _ _;refine Ou.set (x:=(1,.lst (ah (y::t)))) (by simp[P.v.f26,gO,q1]) ?_;refine Ou.iffT (j:=99) (by simp[hl]) ?_;generalize D.lst (ah (y::t))=YY at i0;exact Ou.rais (j:=0) (fs:=[(2,.int g),(3,.int (y:Nat))]) (by simp[-aF,AD P,i0,kN,q2]) ⟨rfl,rfl⟩)
 rw[e,h1,h2]
end Ip
end
section
namespace Ip
open PySem (Str)
noncomputable def ai (p:Nat)(cs:List (List Int))(Z:List (List Nat)):D:=.tup (Z.map fun O=>aw (ac cs p O))
structure Sg (cs:List (List Int))(Z:List (List Nat)):Prop where
 nd:Z.flatten.Nodup
 lt:∀g∈Z.flatten,g<cs.length
section
variable {p:Nat}{cs:List (List Int)}{Z:List (List Nat)}{g q:Nat}{O:List Nat}
theorem Sg.wn (h:Sg cs Z)(hO:O∈Z):Wn cs O:=⟨h.nd.sublist (List.sublist_flatten_of_mem hO),fun g hg=>h.lt g (List.mem_flatten.mpr ⟨O,hO,hg⟩)⟩
noncomputable def dE (Z:List (List Nat))(g:Nat):Option Nat:=Z.findIdx? fun O=>decide (g∈O)
noncomputable def bH (Z:List (List Nat))(g:Nat):D:=match dE Z g with
 | some i=>.int i
 | none=>.non
theorem p7:dE Z g=none↔g∉Z.flatten:=by
 unfold dE;rw[List.findIdx?_eq_none_iff,List.mem_flatten];simp
theorem EE {i:Nat}(h:dE Z g=some i):∃O,Z[i]? = some O/\g∈O:=by
 unfold dE at h;obtain⟨hi,h1,_⟩:=List.findIdx?_eq_some_iff_getElem.mp h;exact⟨Z[i],List.getElem?_eq_getElem hi,of_decide_eq_true h1⟩
theorem rY (h:Z[q]? = some O)(hg:g∈O):g∈Z.flatten:=List.mem_flatten.mpr ⟨O,List.mem_of_getElem? h,hg⟩
theorem pF (nd:Z.flatten.Nodup)(h:Z[q]? = some O)(hg:g∈O):dE Z g=some q:=by
 induction Z generalizing q with
 | nil=>cases h
 | cons P Z ih=>
  rw[List.flatten_cons] at nd;obtain⟨n1,n2,n3⟩:=List.nodup_append.mp nd;unfold dE;rw[List.findIdx?_cons];cases q with
  | zero=>
   cases h;rw[if_pos (decide_eq_true hg)]
  | succ q=>
   have h':Z[q]? = some O:=h;have:g∉P:=fun z=>n3 g z g (rY h' hg) rfl;rw[if_neg (by simpa using this)];have:=ih n2 h';unfold dE at this;rw[this];rfl
theorem zM (nd:Z.flatten.Nodup)(h:Z[q]? = some O):dE Z g=some q↔g∈O:=by
 refine⟨fun e=>?_,pF nd h⟩;obtain⟨P,h1,h2⟩:=EE e;rw[h] at h1;cases h1;exact h2
theorem rl {O':List Nat}(h:Z[q]? = some O):∃A B:List (List Nat),Z=A++O::B/\Z.set q O'=A++O'::B:=by
 obtain⟨hq,e⟩:=cr h;refine⟨Z.take q,Z.drop (q+1),?_,?_⟩
 ·rw[<-e,<-List.drop_eq_getElem_cons hq,List.take_append_drop]
 ·rw[List.set_eq_take_append_cons_drop,if_pos hq]
theorem Sg.on (s:Sg cs Z)(h:Z[q]? = some O)(hg:g<cs.length)(hn:dE Z g=none):Sg cs (Z.set q (O++[g])):=by
 obtain⟨A,B,e1,e2⟩:=rl (O':=O++[g]) h;have pm:(Z.set q (O++[g])).flatten.Perm (g::Z.flatten):=by
  rw[e2,e1];simp only[List.flatten_append,List.flatten_cons];have:(A.flatten++(O++[g]++B.flatten))=(A.flatten++O)++g::B.flatten:=by simp
  rw[this];refine List.perm_middle.trans ?_;simp
 refine⟨pm.nodup_iff.mpr (List.nodup_cons.mpr ⟨p7.mp hn,s.nd⟩),fun x hx=>?_⟩;rcases bN (pm.mem_iff.mp hx) with rfl | hx
 ·exact hg
 ·exact s.lt x hx
theorem Sg.off (s:Sg cs Z)(h:Z[q]? = some O):Sg cs (Z.set q (gA g O)):=by
 obtain⟨A,B,e1,e2⟩:=rl (O':=gA g O) h;have sb:(Z.set q (gA g O)).flatten.Sublist Z.flatten:=by
  rw[e2,e1];simp only[List.flatten_append,List.flatten_cons];exact .append (.refl _) (.append List.filter_sublist (.refl _))
 exact⟨s.nd.sublist sb,fun x hx=>s.lt x (sb.subset hx)⟩
noncomputable def isWd (w:D):Bool:=D.memb w [.str "on",.str "off"]
theorem k9 {w:D}(h:isWd w=true):w=.str "on" \/ w=.str "off":=by
 cases w <;> simp[isWd,D.memb,D.eq] at h
 rename_i s;rcases h with h | h
 ·left; rw[<-h]
 ·right; rw[<-h]
inductive Rf (cs:List (List Int)) (Z:List (List Nat)):D->D->Nat->List (Nat×D)->Prop
 | deed {a w b:D} (ha:a.scal=true) (hw:w.scal=true) (hb:b.scal=true) (h:isB Z.length a=false\/isWd w=false):Rf cs Z (.tup [a,w,b]) (.tup [.str "deed"]) 7 []
 | no {q:Nat} {w b:D} (hq:q<Z.length) (hw:isWd w=true) (hb:b.scal=true) (hp:b.pur 59=true) (h:isB cs.length b=false):Rf cs Z (.tup [.int q,w,b]) (.tup [.str "garment",b]) 2 [(2,b)]
 | worn {q g i:Nat} (hq:q<Z.length) (hg:g<cs.length) (h:dE Z g=some i):Rf cs Z (.tup [.int q,.str "on",.int g]) (.tup [.str "worn",.int g]) 3 [(2,.int g)]
 | not {q g:Nat} {O:List Nat} (hO:Z[q]? = some O) (hg:g<cs.length) (h:g∉O):Rf cs Z (.tup [.int q,.str "off",.int g]) (.tup [.str "not worn",.int g]) 4 [(2,.int g)]
 | cov {q g y:Nat} {t O:List Nat} (hO:Z[q]? = some O) (h:g∈O) (e:aO (dC cs O g)=y::t):Rf cs Z (.tup [.int q,.str "off",.int g]) (.tup [.str "covered",.int g,.int y]) 5 [(2,.int g),(3,.int y)]
inductive Dd (cs:List (List Int)) (Z:List (List Nat)):D->List (List Nat)->Prop
 | on {q g:Nat} {O:List Nat} (hO:Z[q]? = some O) (hg:g<cs.length) (h:dE Z g=none):Dd cs Z (.tup [.int q,.str "on",.int g]) (Z.set q (O++[g]))
 | off {q g:Nat} {O:List Nat} (hO:Z[q]? = some O) (h:g∈O) (e:dC cs O g=[]):Dd cs Z (.tup [.int q,.str "off",.int g]) (Z.set q (gA g O))
theorem rz {b:Nat}{d:D}(h:isB b d=true):∃g:Nat,d=.int g/\g<b:=by
 cases d <;> simp[isB] at h
 rename_i i;exact⟨i.toNat,by congr 1; omega,by omega⟩
theorem BW (C:Cv p cs)(s:Sg cs Z){a w b:D}(ha:a.scal=true)(hw:w.scal=true)(hb:b.scal=true)(hp:b.pur 59=true):(∃due c fs,Rf cs Z (.tup [a,w,b]) due c fs)\/∃Z',Dd cs Z (.tup [a,w,b]) Z':=by
 cases h1:isB Z.length a with
 | false=>exact .inl ⟨_,_,_,.deed ha hw hb (.inl h1)⟩
 | true=>
  cases h2:isWd w with
  | false=>exact .inl ⟨_,_,_,.deed ha hw hb (.inr h2)⟩
  | true=>
   obtain⟨q,rfl,hq⟩:=rz h1;have hO:=List.getElem?_eq_getElem hq;cases h3:isB cs.length b with
   | false=>exact .inl ⟨_,_,_,.no hq h2 hb hp h3⟩
   | true=>
    obtain⟨g,rfl,hg⟩:=rz h3;rcases k9 h2 with rfl | rfl
    ·cases e:dE Z g with
     | none=>exact .inr ⟨_,.on hO hg e⟩
     | some i=>exact .inl ⟨_,_,_,.worn hq hg e⟩
    ·by_cases hm:g∈Z[q]
     ·cases e:aO (dC cs Z[q] g) with
      | nil=>exact .inr ⟨_,.off hO hm ((we C (s.wn (List.mem_of_getElem? hO))).mp e)⟩
      | cons y t=>exact .inl ⟨_,_,_,.cov hO hm e⟩
     ·exact .inl ⟨_,_,_,.not hO hg hm⟩
theorem Dd.good {d:D}{Z':List (List Nat)}(s:Sg cs Z)(h:Dd cs Z d Z'):Sg cs Z'/\Z'.length=Z.length:=by
 cases h with
 | on hO hg h=>exact⟨s.on hO hg h,by simp⟩
 | off hO h e=>exact⟨s.off hO,by simp⟩
noncomputable def Walk (cs:List (List Int)):List D->List (List Nat)->List (List Nat)->Prop
 | [],S,T=>S=T
 | d::ds,S,T=>∃U,Dd cs S d U/\Walk cs ds U T
theorem Walk.snoc {d:D}{U:List (List Nat)}:∀{ds:List D} {S T:List (List Nat)},Walk cs ds S T->Dd cs T d U->Walk cs (ds++[d]) S U
 | [],S,T,h,k=>by
  have h':S=T:=h;subst h';exact⟨U,k,rfl⟩
 | _::ds,S,T,⟨V,h1,h2⟩,k=>⟨V,h1,Walk.snoc h2 k⟩
end
structure P2 (G:Pg):Prop where
 p:P5 G
 d:Pd G
 f5:G.fn 5=some kv
 f6:G.fn 6=some ke
 f41:G.fn 41=some lN
 f42:G.fn 42=some iV
 f43:G.fn 43=some fW
 f44:G.fn 44=some kO
 f115:G.fn 115=some iB
 f117:G.fn 117=some nW
 f121:G.fn 121=some jY
 f122:G.fn 122=some jv
 f82:G.fn 82=some gX
 f78:G.fn 78=some ph
 f76:G.fn 76=some lg
 f114:G.fn 114=some iz
 f69:G.fn 69=some nB
 c3:G.cl 3=some ⟨(some 5),[],[0],true⟩
 c4:G.cl 4=some ⟨(some 6),[],[0],true⟩
 c7:G.cl 7=some ⟨none,[],[0],true⟩
 told:∀{n k cs Z d due c fs},Rf cs Z d due c fs->∃j,run G (n+1) 78 [(k,.exc c fs)]=.ret j due []
theorem BG (k p:Nat)(cs:List (List Int))(Z:List (List Nat)):D.fb k (ai p cs Z)=true:=by
 cases k with
 | zero=>simp only[ai,D.fb,D.flat,jN,List.all_eq_true]; intro d hd; obtain⟨r,_,rfl⟩:=du hd; simp[aw,jN,jQ]
 | succ k=>
  simp only[ai,D.fb,List.all_eq_true];intro d hd;obtain⟨r,_,rfl⟩:=du hd;cases k with
  | zero=>simp[aw,jN,jQ,D.fb]
  | succ k=>simp only[aw,D.fb,List.all_eq_true]; intro d hd; obtain⟨r,_,rfl⟩:=du hd; exact pS k r
theorem o7 (k:Nat)(W:List (List Nat)):D.fb k (aw W)=true:=by
 cases k with
 | zero=>simp[aw,jN,jQ,D.fb]
 | succ k=>simp only[aw,D.fb,List.all_eq_true]; intro d hd; obtain⟨r,_,rfl⟩:=du hd; exact pS k r
theorem g9 {p:Nat}{cs:List (List Int)}{Z:List (List Nat)}{i:Nat}{O:List Nat}(h:Z[i]? = some O):aF (ai p cs Z) (.int i)=some (0,aw (ac cs p O)):=by
 obtain⟨hi,e⟩:=cr h;have h':(i:Int)<Z.length:=by omega
 simp[ai,aF,ef,h',hi,e]
theorem ql (p:Nat)(cs:List (List Int))(Z:List (List Nat))(q:Nat)(O:List Nat):ai p cs (Z.set q O)=.tup ((Z.map fun O=>aw (ac cs p O)).set q (aw (ac cs p O))):=by rw[ai,List.map_set]
theorem E3 (p:Nat)(cs:List (List Int))(Z:List (List Nat)):df .enum [(0,ai p cs Z)]=some ((List.range' 0 Z.length).map fun (n:Nat)=>D.tup [.int n,aw (ac cs p (Z.getD n []))]):=by
 show some ((Z.map fun O=>aw (ac cs p O)).mapIdx fun n d=>D.tup [.int n,d])=_;congr 1
 refine List.ext_getElem? fun j=>?_;rw[List.getElem?_mapIdx,List.getElem?_map,List.getElem?_map];by_cases hj:j<Z.length
 ·rw[List.getElem?_eq_getElem hj,List.getElem?_range' hj];simp[hj]
 ·rw[List.getElem?_eq_none (by omega),List.getElem?_eq_none (by simp; omega)];rfl
theorem rP {Z:List (List Nat)}{g i:Nat}(hi:i<Z.length)(h:g∈Z[i])(hn:∀j (hj:j<Z.length),j<i->g∉Z[j]):bH Z g=.int i:=by
 have:dE Z g=some i:=by
  unfold dE;rw[List.findIdx?_eq_some_iff_getElem];exact⟨hi,decide_eq_true h,fun j hj=>by simpa using hn j (by omega) hj⟩
 simp[bH,this]
theorem sr (hn:∀j (hj:j<Z.length),g∉Z[j]):bH Z g=.non:=by
 have:dE Z g=none:=by
  rw[p7,List.mem_flatten];rintro⟨O,hO,hg⟩;obtain⟨j,hj,rfl⟩:=List.mem_iff_getElem.mp hO;exact hn j hj hg
 simp[bH,this]
variable {G:Pg}(P:P2 G)
include P
theorem wT (n k k':Nat)(p:Nat)(cs:List (List Int))(Z:List (List Nat))(g:Nat)(C:Cv p cs)(s:Sg cs Z)(hl:Z.length<=3):∃j,run G (n+2) 41 [(k,ai p cs Z),(k',.int g)]=.ret j (bH Z g) []:=by
 have hl':Z.length<=SL:=br hl (by decide);have key:Ou G (run G (n+1)) [] [some (0,ai p cs Z),some (0,.int g),none,none] lN.body (fun _=>False) (fun d=>d=bH Z g) fun _ _ _=>False:=by
  refine Ou.fo (fun r a=>∃(x2 x3:Option KD) (i l:Nat),a=[some (0,ai p cs Z),some (0,.int g),x2,x3]/\r=(List.range' i l).map (fun (n:Nat)=>D.tup [.int n,aw (ac cs p (Z.getD n []))])/\i+l=Z.length/\∀j (hj:j<Z.length),j<i->g∉Z[j]) (vs:=[(0,ai p cs Z)]) rfl (E3 p cs Z) (by simpa using hl') ⟨none,none,0,Z.length,by simp,rfl,by omega,fun j hj h=>by omega⟩ ?_ ?_
  ·rintro x r a ⟨x2,x3,i,l,ha,hr,hil,hn⟩;cases l with
   | zero=>simp at hr
   | succ l=>
    rw[List.range'_succ,List.map_cons,List.cons.injEq] at hr;obtain⟨rfl,rfl⟩:=hr;subst ha;have hi:i<Z.length:=by omega
    have e1:Z.getD i []=Z[i]:=by rw[List.getD_eq_getElem?_getD,List.getElem?_eq_getElem hi]; rfl
    rw[e1];have w:=s.wn (List.getElem_mem hi);have q2:=qS P.p n 0 p cs Z[i] C w;have hm:D.memb (.int g) (ah (aO Z[i]))=decide (g∈Z[i]):=by rw[ko]; simp only[w.mS C g]
    have hsc:=gv (aO Z[i]);generalize aw (ac cs p Z[i])=WW at q2;generalize ah (aO Z[i])=NS at q2 hm hsc;refine⟨_,EB rfl,?_⟩;have hev:∀a:Fr,a=[some (0,ai p cs Z),some (0,.int g),some (0,.int i),some (0,WW)]->eval G (run G (n+1)) a.sl (.op .isin [(.var 1),(.call 24 [(.var 3)])])=.ok (99,.bl (decide (g∈Z[i]))):=by
     intro a ea;subst ea;simp only[Fr.sl,bQ,bh,cM,gk,iu];simp[-List.all_eq_true,P.p.v.f24,iO,q2,hm,hsc]
    by_cases hb:g∈Z[i]
    ·rw[decide_eq_true hb] at hev;refine Ou.iffT (j:=99) (hev _ rfl) ?_;exact Ou.ret (x:=(0,.int i)) rfl (rP hi hb hn).symm
    ·rw[decide_eq_false hb] at hev;refine Ou.iffN (j:=99) (hev _ rfl) ?_;refine Ou.nil ⟨some (0,.int i),some (0,WW),i+1,l,by simp[bP],rfl,by omega,fun j hj h=>?_⟩;by_cases e:j=i
     ·subst e; exact hb
     ·exact hn j hj (by omega)
  ·rintro a ⟨x2,x3,i,l,ha,hr,hil,hn⟩;subst ha;have hl0:l=0:=by
    cases l with
    | zero=>rfl
    | succ l=>rw[List.range'_succ] at hr; simp at hr
   subst hl0;exact Ou.ret (x:=(99,.non)) rfl (sr fun j hj=>hn j hj (by omega)).symm
 obtain⟨j,d,e,rfl⟩:=Ou.run (n:=n+1) (vs:=[(k,ai p cs Z),(k',.int g)]) (V:=fun d=>d=bH Z g) P.f41 rfl rfl (key.mono (fun _ h=>h.elim) (fun _ h=>h) fun _ _ _ h=>h);exact⟨j,e⟩
theorem Bb (n k k':Nat)(d:D)(h:d.scal=true):run G (n+1) 2 [(k,d),(k',.int 0)]=.ret 0 d []:=by
 rw[run,P.p.v.a.f2];cases d <;> simp[lY,D.eq] at h ⊢
theorem BF (n k:Nat)(d:D)(h:d.scal=true):run G (n+2) 4 [(1,.exc 2 []),(k,d)]=.ret 99 .non [(1,.exc 2 [(2,d)])]:=by
 rw[run,P.p.v.a.f4];have q:=Bb P n 0 99 d h;have hf:=ip h;simp[kS,P.p.v.a.f2,lY,q,bV,aJ,hf]
theorem Dl (n k:Nat)(g:Int):run G (n+1) 5 [(1,.exc 3 []),(k,.int g)]=.ret 99 .non [(1,.exc 3 [(2,.int g)])]:=by
 rw[run,P.f5];simp[kv,bV,aJ]
theorem zT (n k:Nat)(g:Int):run G (n+1) 6 [(1,.exc 4 []),(k,.int g)]=.ret 99 .non [(1,.exc 4 [(2,.int g)])]:=by
 rw[run,P.f6];simp[ke,bV,aJ]
theorem Bl:aW G 2 1=some (4,kS,.exc 2 []):=by
 simp[aW,P.p.v.a.c2,P.p.v.a.f4,kS]
theorem EO:aW G 3 1=some (5,kv,.exc 3 []):=by
 simp[aW,P.c3,P.f5,kv]
theorem E4:aW G 4 1=some (6,ke,.exc 4 []):=by
 simp[aW,P.c4,P.f6,ke]
theorem sG (n k k':Nat)(p:Int)(cs:List (List Int))(d:D)(h:isB cs.length d=false)(o:d.scal=true):run G (n+4) 17 [(k,wd p cs),(k',d)]=.exc 2 [(2,d)] []:=by
 rw[run,P.p.v.a.f17];have q:=nR P.p.v.a (n+1) 0 99 d cs.length;have q2:=vQ P.p.v.a (n+2) 0 p cs;have q3:=BF P (n+1) 0 d o;rw[h] at q;simp[fO,P.p.v.a.f1,gI,vP P.p.v.a,jJ,q2,q,Bl P,q3,kS]
theorem zH (n k k' k'':Nat)(p:Nat)(cs:List (List Int))(w:D)(d:D)(h:isB cs.length d=false)(o:d.scal=true):run G (n+6) 26 [(k,wd p cs),(k',w),(k'',d)]=.exc 2 [(2,d)] []:=by
 have q1:=sG P (n+1) 0 0 p cs d h o;rw[run,P.p.v.f26];simp[gO,P.p.v.a.f17,fO,q1]
theorem xt (n k k' k'':Nat)(p:Nat)(cs:List (List Int))(gs:List Nat)(g:Nat)(C:Cv p cs)(w:Wn cs gs)(hgl:g<cs.length)(hg:g∉gs):run G (n+6) 26 [(k,wd p cs),(k',aw (ac cs p gs)),(k'',.int g)]=.exc 4 [(2,.int g)] []:=by
 have q1:=lu P.p.v.a (n+1) 0 0 p cs (.int g) (by simp[isB,hgl]);have q2:=qS P.p (n+4) 0 p cs gs C w;have hm:D.memb (.int g) (ah (aO gs))=false:=by rw[ko]; simp[w.mS C g,hg]
 have hsc:=gv (aO gs);have q4:=zT P (n+4) 0 g;generalize aw (ac cs p gs)=WW at q2;generalize ah (aO gs)=NS at q2 hm hsc;rw[run,P.p.v.f26];simp[-List.all_eq_true,gO,P.p.v.a.f17,fO,q1,P.p.v.f24,iO,q2,hm,hsc,E4 P,ke,q4]
theorem tH (n k k' k'' c:Nat)(p:Nat)(cs:List (List Int))(w d:D)(fs:List (Nat×D))(q:∀k k' k'',run G (n+6) 26 [(k,wd p cs),(k',w),(k'',d)]=.exc c fs []):run G (n+7) 27 [(k,wd p cs),(k',w),(k'',d)]=.exc c fs []:=by
 rw[run,P.p.v.f27];simp[hV,P.p.v.f26,gO,q 0 0 0]
theorem Cs (n k k' k'':Nat)(p:Nat)(cs:List (List Int))(w:D)(d:D)(h:isB cs.length d=false)(o:d.scal=true):run G (n+5) 42 [(k,wd p cs),(k',w),(k'',d)]=.exc 2 [(2,d)] []:=by
 have q1:=sG P n 0 0 p cs d h o;rw[run,P.f42];simp[iV,P.p.v.a.f17,fO,q1]
theorem tq (n k k' k'':Nat)(p:Nat)(cs:List (List Int))(Z:List (List Nat))(g:Nat)(C:Cv p cs)(s:Sg cs Z)(hl:Z.length<=3)(hg:g<cs.length):run G (n+5) 42 [(k,wd p cs),(k',ai p cs Z),(k'',.int g)]=if (dE Z g).isNone then .ret 99 .non [] else .exc 3 [(2,.int g)] []:=by
 have q1:=lu P.p.v.a n 0 0 p cs (.int g) (by simp[isB,hg]);obtain⟨j,q2⟩:=wT P (n+2) 0 0 p cs Z g C s hl;have q4:=Dl P (n+3) 0 g;unfold bH at q2;rw[run,P.f42];cases e:dE Z g with
 | none=>
  rw[e] at q2;simp only[] at q2;simp[iV,P.p.v.a.f17,fO,q1,P.f41,lN,q2]
 | some i=>
  rw[e] at q2;simp only[] at q2;simp[iV,P.p.v.a.f17,fO,q1,P.f41,lN,q2,EO P,kv,q4]
end Ip
end
section
namespace Ip
open PySem (Str)
theorem Ou.putX (he:eval G cl a.sl e=.exc c fs)(k:X c fs (bE a)):Ou G cl io a (.put x [] i e::ss) N V X:=
 .step fun A r=>by
  simp only[qp,List.isEmpty_nil,if_true,r.sl,he,R.toO];exact⟨_,r.excA fs,k⟩
theorem k6:(D.str "on").pur 60=true:=by decide +kernel
theorem kY:(D.str "off").pur 60=true:=by decide +kernel
theorem l7:(D.str "on").eq (.str "on")=true:=by decide +kernel
theorem lS:(D.str "off").eq (.str "on")=false:=by decide +kernel
theorem gS:isWd (.str "on")=true:=by decide +kernel
theorem kg:isWd (.str "off")=true:=by decide +kernel
variable {G:Pg}(P:P2 G)
include P
theorem vv (n p:Nat)(cs:List (List Int))(Z:List (List Nat))(a w b:D)(hw:w.scal=true):∀fr:Fr,fr=[some (0,wd p cs),some (0,ai p cs Z),some (0,.tup [a,w,b]),some (0,a),some (0,w),some (0,b),none] ->
  eval G (run G (n+7)) fr.sl (.or (.op .not [(.call 1 [(.var 3),(.op .len [(.var 1)])])]) (.op .nin [(.var 4),(.cst (.tup [(.str "on"),(.str "off")]))]))=.ok (99,.bl (!isB Z.length a||!isWd w)):=by
 intro fr e;subst e;have qb:=nR P.p.v.a (n+5) 0 99 a Z.length;have hsq:(ai p cs Z).seq=some (Z.map fun O=>aw (ac cs p O)):=rfl;have hi:isWd w=D.memb w [.str "on",.str "off"]:=rfl;generalize isWd w=W at hi;generalize ai p cs Z=T at hsq;cases hb:isB Z.length a with
 | false=>
  rw[hb] at qb;simp[-D.seq,P.p.v.a.f1,gI,hsq,qb]
 | true=>
  rw[hb] at qb;simp[-D.seq,P.p.v.a.f1,gI,hsq,qb];cases w <;> simp at hw ⊢ <;> simp[hi]
theorem kM (n p:Nat)(cs:List (List Int))(Z:List (List Nat))(q:Nat)(w b:D)(hq:q<Z.length)(hw:w.scal=true)(hi:isWd w=true)
  (k:Ou G (run G (n+7)) [] [some (0,wd p cs),some (0,ai p cs Z),some (0,.tup [.int q,w,b]),some (0,.int q),some (0,w),some (0,b),some (1,.lst (Z.map fun O=>aw (ac cs p O)))] (fW.body.drop 5) (fun _=>False) V X) :
  Ou G (run G (n+7)) [] [some (0,wd p cs),some (0,ai p cs Z),some (0,.tup [.int q,w,b]),none,none,none,none] fW.body (fun _=>False) V X:=by
 have cd:=vv P n p cs Z (.int q) w b hw;have hb:isB Z.length (.int q)=true:=by simp[isB,hq]
 rw[hb,hi] at cd;have hsq:(ai p cs Z).seq=some (Z.map fun O=>aw (ac cs p O)):=rfl;have fl:(Z.map fun O=>aw (ac cs p O)).all D.flat=true:=by rw[List.all_eq_true]; intro d hd; obtain⟨O,_,rfl⟩:=du hd; exact o7 0 _
 generalize ai p cs Z=T at hsq cd k;generalize (Z.map fun O=>aw (ac cs p O))=L at hsq fl k;refine Ou.set (x:=(0,.int q)) rfl ?_;refine Ou.set (x:=(0,w)) rfl ?_;refine Ou.set (x:=(0,b)) rfl ?_;refine Ou.iffN (j:=99) (cd _ rfl) ?_;refine Ou.setK (x:=(1,.lst L)) (by simp[-D.seq,hsq]) (by simpa[-List.all_eq_true] using fl) ?_;exact Ou.low (.of_eq rfl) k
theorem vL (n k k' k'':Nat)(p:Nat)(cs:List (List Int))(Z:List (List Nat))(d due:D)(c:Nat)(fs:List (Nat×D))(C:Cv p cs)(s:Sg cs Z)(hl:Z.length<=3)(h:Rf cs Z d due c fs):run G (n+8) 43 [(k,wd p cs),(k',ai p cs Z),(k'',d)]=.exc c fs []:=by
 have fin:∀{d:D},Ou G (run G (n+7)) [] [some (0,wd p cs),some (0,ai p cs Z),some (0,d),none,none,none,none] fW.body (fun _=>False) (fun _=>False) (fun c' fs' _=>c'=c/\fs'=fs)->run G (n+8) 43 [(k,wd p cs),(k',ai p cs Z),(k'',d)]=.exc c fs []:=fun key=>by
  obtain⟨c',fs',e,rfl,rfl⟩:=Ou.runX (n:=n+7) (vs:=[(k,wd p cs),(k',ai p cs Z),(k'',_)]) (X:=fun c' fs'=>c'=c/\fs'=fs) P.f43 rfl rfl key;exact e
 have op:=k6;have fp:=kY;have oo:=l7;have fo:=lS;cases h with
 | @deed a w b ha hw hb h=>
  refine fin ?_;have cd:=vv P n p cs Z a w b hw;have hc:(!isB Z.length a||!isWd w)=true:=by rcases h with h | h <;> simp[h]
  rw[hc] at cd;refine Ou.set (x:=(0,a)) rfl ?_;refine Ou.set (x:=(0,w)) rfl ?_;refine Ou.set (x:=(0,b)) rfl ?_;refine Ou.iffT (j:=99) (cd _ rfl) ?_;exact Ou.raisV ⟨rfl,rfl⟩
 | @no q w b hq hw hb hp h=>
  have hO:=List.getElem?_eq_getElem hq;have ix:=g9 (p:=p) (cs:=cs) hO;have q1:=Cs P (n+2) 0 0 0 p cs (ai p cs Z) b h hb;have q2:=tH P n 0 0 0 2 p cs (aw (ac cs p Z[q])) b _ fun k k' k''=>zH P n k k' k'' p cs _ b h hb;refine fin (kM P n p cs Z q w b hq (by rcases k9 hw with rfl | rfl <;> rfl) hw ?_);generalize ai p cs Z=T at ix q1;generalize aw (ac cs p Z[q])=WW at ix q2;rcases k9 hw with rfl | rfl
  ·refine Ou.iffT (j:=99) (by simp[oo,op]) ?_;exact Ou.exX (c:=2) (fs:=[(2,b)]) (by simp[P.f42,iV,q1]) ⟨rfl,rfl⟩
  ·refine Ou.iffF (j:=99) (by simp[fo,op,fp]) ?_;exact Ou.putX (c:=2) (fs:=[(2,b)]) (by simp[-aF,ix,P.p.v.f27,hV,q2]) ⟨rfl,rfl⟩
 | @worn q g i hq hg h=>
  have q1:=tq P (n+2) 0 0 0 p cs Z g C s hl hg;rw[h] at q1;have q1':run G (n+7) 42 [(0,wd p cs),(0,ai p cs Z),(0,.int g)]=.exc 3 [(2,.int g)] []:=q1;refine fin (kM P n p cs Z q _ _ hq rfl gS ?_);generalize ai p cs Z=T at q1';refine Ou.iffT (j:=99) (by simp[oo,op]) ?_;exact Ou.exX (c:=3) (fs:=[(2,.int g)]) (by simp[P.f42,iV,q1']) ⟨rfl,rfl⟩
 | @not q g O hO hg h=>
  have ix:=g9 (p:=p) (cs:=cs) hO;have q2:=tH P n 0 0 0 4 p cs (aw (ac cs p O)) (.int g) _ fun k k' k''=>xt P n k k' k'' p cs O g C (s.wn (List.mem_of_getElem? hO)) hg h;refine fin (kM P n p cs Z q _ _ (cr hO).1 rfl kg ?_);generalize ai p cs Z=T at ix;generalize aw (ac cs p O)=WW at ix q2;refine Ou.iffF (j:=99) (by simp[fo,op,fp]) ?_;exact Ou.putX (c:=4) (fs:=[(2,.int g)]) (by simp[-aF,ix,P.p.v.f27,hV,q2]) ⟨rfl,rfl⟩
 | @cov q g y t O hO h e=>
  have ix:=g9 (p:=p) (cs:=cs) hO;have q2:=zo P.p n 0 0 0 p cs O g C (s.wn (List.mem_of_getElem? hO)) h y t e;refine fin (kM P n p cs Z q _ _ (cr hO).1 rfl kg ?_);generalize ai p cs Z=T at ix;generalize aw (ac cs p O)=WW at ix q2;refine Ou.iffF (j:=99) (by simp[fo,op,fp]) ?_;exact Ou.putX (c:=5) (fs:=[(2,.int g),(3,.int y)]) (by simp[-aF,ix,P.p.v.f27,hV,q2]) ⟨rfl,rfl⟩
theorem ji (n k k' k'':Nat)(p:Nat)(cs:List (List Int))(Z Z':List (List Nat))(d:D)(C:Cv p cs)(s:Sg cs Z)(hl:Z.length<=3)(h:Dd cs Z d Z'):∃j,run G (n+8) 43 [(k,wd p cs),(k',ai p cs Z),(k'',d)]=.ret j (ai p cs Z') []:=by
 have fin:∀{d:D},Ou G (run G (n+7)) [] [some (0,wd p cs),some (0,ai p cs Z),some (0,d),none,none,none,none] fW.body (fun _=>False) (fun d=>d=ai p cs Z') (fun _ _ _=>False)->∃j,run G (n+8) 43 [(k,wd p cs),(k',ai p cs Z),(k'',d)]=.ret j (ai p cs Z') []:=fun key=>by
  obtain⟨j,d,e,rfl⟩:=Ou.run (n:=n+7) (vs:=[(k,wd p cs),(k',ai p cs Z),(k'',_)]) (V:=fun d=>d=ai p cs Z') P.f43 rfl rfl (key.mono (fun _ h=>h.elim) (fun _ h=>h) fun _ _ _ h=>h);exact⟨j,e⟩
 have op:=k6;have fp:=kY;have oo:=l7;have fo:=lS;cases h with
 | @on q g O hO hg h=>
  have ix:=g9 (p:=p) (cs:=cs) hO;have hq:=(cr hO).1;have q1:=tq P (n+2) 0 0 0 p cs Z g C s hl hg;rw[h] at q1;have q1':run G (n+7) 42 [(0,wd p cs),(0,ai p cs Z),(0,.int g)]=.ret 99 .non []:=q1;obtain⟨j1,q2⟩:=BY P.p (n+1) 0 0 0 p cs O g C (s.wn (List.mem_of_getElem? hO)) hg fun z=>p7.mp h (rY hO z);refine fin (kM P n p cs Z q _ _ hq rfl gS ?_);have fb1:=o7 j1 (ac cs p (O++[g]));rw[ql];generalize ai p cs Z=T at ix q1';generalize aw (ac cs p O)=WW at ix q2;generalize aw (ac cs p (O++[g]))=W' at q2 fb1;refine Ou.iffT (j:=99) (by simp[oo,op]) ?_;refine Ou.ex (x:=(99,.non)) (by simp[P.f42,iV,q1']) ?_;refine Ou.put (k:=0) (j:=0) (xs:=Z.map fun O=>aw (ac cs p O)) (v:=(j1,W')) (n:=q) rfl (by simp[-aF,ix,P.p.v.f25,oa,q2]) fb1 rfl (by simp; omega) (Ou.nil ?_);exact Ou.ret (x:=(0,.tup ((Z.map fun O=>aw (ac cs p O)).set q W'))) rfl rfl
 | @off q g O hO h e=>
  have ix:=g9 (p:=p) (cs:=cs) hO;have hq:=(cr hO).1;obtain⟨j1,q2⟩:=AR P.p n 0 0 0 p cs O g C (s.wn (List.mem_of_getElem? hO)) h e;refine fin (kM P n p cs Z q _ _ hq rfl kg ?_);have fb1:=o7 j1 (ac cs p (gA g O));rw[ql];generalize ai p cs Z=T at ix;generalize aw (ac cs p O)=WW at ix q2;generalize aw (ac cs p (gA g O))=W' at q2 fb1;refine Ou.iffF (j:=99) (by simp[fo,op,fp]) ?_;refine Ou.put (k:=0) (j:=0) (xs:=Z.map fun O=>aw (ac cs p O)) (v:=(j1,W')) (n:=q) rfl (by simp[-aF,ix,P.p.v.f27,hV,q2]) fb1 rfl (by simp; omega) (Ou.nil ?_);exact Ou.ret (x:=(0,.tup ((Z.map fun O=>aw (ac cs p O)).set q W'))) rfl rfl
theorem Ey (n k k' k'':Nat)(p:Nat)(cs:List (List Int))(Z Z':List (List Nat))(ds:List D)(C:Cv p cs)(s:Sg cs Z)(hl:Z.length<=3)(hd:ds.length<=1000)(h:Walk cs ds Z Z'):∃j,run G (n+9) 44 [(k,wd p cs),(k',ai p cs Z),(k'',.lst ds)]=.ret j (ai p cs Z') []:=by
 have hS:ds.length<=SL:=br hd (by decide);have key:Ou G (run G (n+8)) [] [some (0,wd p cs),some (0,ai p cs Z),some (0,.lst ds),none] kO.body (fun _=>False) (fun d=>d=ai p cs Z') fun _ _ _=>False:=by
  refine Ou.fo (fun r a=>∃(x3:Option KD) (Y:List (List Nat)),a=[some (0,wd p cs),some (0,ai p cs Y),some (0,.lst ds),x3]/\Sg cs Y/\Y.length<=3/\Walk cs r Y Z') (vs:=[(0,.lst ds)]) rfl rfl hS ⟨none,Z,by simp,s,hl,h⟩ ?_ ?_
  ·rintro x r a ⟨x3,Y,ha,sY,hY,U,h1,h2⟩;subst ha;obtain⟨j,q⟩:=ji P n 0 0 0 p cs Y U x C sY hY h1;obtain⟨g1,g2⟩:=h1.good sY;refine⟨_,fP rfl,?_⟩;refine Ou.set (x:=(j,ai p cs U)) (by simp[P.f43,fW,q]) ?_;exact Ou.nil ⟨some (0,x),U,by simp,g1,by omega,h2⟩
  ·rintro a ⟨x3,Y,ha,_,_,h⟩;have h':Y=Z':=h;subst h' ha;exact Ou.ret (x:=(0,ai p cs Y)) rfl rfl
 obtain⟨j,d,e,rfl⟩:=Ou.run (n:=n+8) (vs:=[(k,wd p cs),(k',ai p cs Z),(k'',.lst ds)]) (V:=fun d=>d=ai p cs Z') P.f44 rfl rfl (key.mono (fun _ h=>h.elim) (fun _ h=>h) fun _ _ _ h=>h);exact⟨j,e⟩
theorem AJ (n k k' k'':Nat)(p:Nat)(cs:List (List Int))(Z Z':List (List Nat))(ds:List D)(d due:D)(c:Nat)(fs:List (Nat×D))(C:Cv p cs)(s:Sg cs Z)(hl:Z.length<=3)(hd:ds.length<=1000)(h:Walk cs ds Z Z')(hr:Rf cs Z' d due c fs):run G (n+9) 44 [(k,wd p cs),(k',ai p cs Z),(k'',.lst (ds++[d,d]))]=.exc c fs []:=by
 have hS:(ds++[d,d]).length<=SL:=by
  have:1002<=SL:=by decide
  simp; omega
 obtain⟨c',fs',e,rfl,rfl⟩:=Ou.runX (n:=n+8) (vs:=[(k,wd p cs),(k',ai p cs Z),(k'',.lst (ds++[d,d]))]) (X:=fun c' fs'=>c'=c/\fs'=fs) P.f44 rfl rfl (by
  show Ou G (run G (n+8)) [] [some (0,wd p cs),some (0,ai p cs Z),some (0,.lst (ds++[d,d])),none] _ _ _ _;refine Ou.fo (fun r a=>∃(x3:Option KD) (Y:List (List Nat)) (es:List D),a=[some (0,wd p cs),some (0,ai p cs Y),some (0,.lst (ds++[d,d])),x3]/\r=es++[d,d]/\Sg cs Y/\Y.length<=3/\Walk cs es Y Z') (vs:=[(0,.lst (ds++[d,d]))]) rfl rfl hS ⟨none,Z,ds,by simp,rfl,s,hl,h⟩ ?_ ?_
  ·rintro x r a ⟨x3,Y,es,ha,hr',sY,hY,hw⟩;subst ha;refine⟨_,fP rfl,?_⟩;cases es with
   | nil=>
    have h':Y=Z':=hw;subst h';cases hr';have q:=vL P n 0 0 0 p cs Y d due c fs C sY hY hr;exact Ou.setX (c:=c) (fs:=fs) (by simp[P.f43,fW,q]) ⟨rfl,rfl⟩
   | cons x' es=>
    obtain⟨U,h1,h2⟩:=hw;cases hr';obtain⟨j,q⟩:=ji P n 0 0 0 p cs Y U x C sY hY h1;obtain⟨g1,g2⟩:=h1.good sY;refine Ou.set (x:=(j,ai p cs U)) (by simp[P.f43,fW,q]) ?_;exact Ou.nil ⟨some (0,x),U,es,by simp,rfl,g1,by omega,h2⟩
  ·rintro a ⟨x3,Y,es,ha,hr',_⟩;cases es <;> simp at hr')
 exact e
end Ip
end
section
namespace Ip
open PySem (Str)
theorem va {cs:List (List Int)}{g:Nat}(h:g<cs.length):aF (al cs) (.int g)=some (0,.lst ((aK cs g).map .int)):=by
 have h':(g:Int)<cs.length:=by omega
 simp[al,aF,ef,h',h,aK]
theorem vo (i:Int):∀c:List Int,D.memb (.int i) (c.map .int)=decide (i∈c)
 | []=>rfl
 | j::c=>by
  have ih:=vo i c;have e:D.memb (.int i) ((j::c).map .int)=((D.int j).eq (.int i)||D.memb (.int i) (c.map .int)):=rfl;rw[e,ih];simp only[D.eq];by_cases h:i=j
  ·subst h; simp
  ·have:¬j=i:=fun e=>h e.symm;simp[this,h]
theorem CN (c:List Int):(c.map D.int).all D.scal=true:=by simp
theorem DA (r:List Nat):aA none (some (-1)) (am r)=some (0,am r.dropLast):=by simp only[am,aA,rS,t3]
theorem B9 (G:Pg)(cl:Nat->List KD->Run)(W:List (List Nat))(g:Nat):aC (compF G cl [none,none,some (.int g)] (.one 1) [] (.op .isin [(.var 2),(.var 1)])) (W.map am)=.ok (W.map fun r=>(99,.bl (decide (g∈r)))):=
 lj fun r _=>by
  have:=gv r;simp[-List.all_eq_true,compF,am,ko,this]
theorem C7 {p:Nat}{cs:List (List Int)}{O:List Nat}(C:Cv p cs)(w:Wn cs O)(g:Nat):((ac cs p O).any fun r=>decide (g∈r))=decide (g∈O):=by
 rw[Bool.eq_iff_iff];simp only[List.any_eq_true,decide_eq_true_eq];constructor
 ·rintro⟨r,hr,hg⟩;exact n8 (List.mem_flatten.mpr ⟨r,hr,hg⟩)
 ·intro h;exact List.mem_flatten.mp (t6 C w h)
theorem AZ {p:Nat}{cs:List (List Int)}{Z:List (List Nat)}{q:Nat}{O:List Nat}(hq:q<Z.length)(hl:Z.length<=3):bK (.tup ((Z.map fun O=>aw (ac cs p O)).take q)) (.tup [aw (ac cs p O)])=some (0,.tup ((Z.map fun O=>aw (ac cs p O)).take q++[aw (ac cs p O)]))/\bK (.tup ((Z.map fun O=>aw (ac cs p O)).take q++[aw (ac cs p O)])) (.tup ((Z.map fun O=>aw (ac cs p O)).drop (q+1)))=some (0,ai p cs (Z.set q O)):=by
 have h9:9<=SL:=by decide
 rw[ql];have hl':(Z.map fun O=>aw (ac cs p O)).length<=3:=by simpa using hl
 have hq':q<(Z.map fun O=>aw (ac cs p O)).length:=by simpa using hq
 generalize (Z.map fun O=>aw (ac cs p O))=L at hl' hq';generalize aw (ac cs p O)=W;constructor
 ·have:(L.take q).length+[W].length<=SL:=by simp; omega
  simp only[bK];rw[if_pos this]
 ·have:(L.take q++[W]).length+(L.drop (q+1)).length<=SL:=by simp; omega
  simp only[bK];rw[if_pos this,List.set_eq_take_append_cons_drop,if_pos hq'];simp
variable {G:Pg}(P:P2 G)
include P
theorem lr (n k k':Nat)(p:Nat)(cs:List (List Int))(Z:List (List Nat))(g:Nat)(C:Cv p cs)(s:Sg cs Z)(hl:Z.length<=3):∃j,run G (n+1) 115 [(k,ai p cs Z),(k',.int g)]=.ret j (bH Z g) []:=by
 have hl':Z.length<=SL:=br hl (by decide);have key:Ou G (run G n) [] [some (0,ai p cs Z),some (0,.int g),none] iB.body (fun _=>False) (fun d=>d=bH Z g) fun _ _ _=>False:=by
  refine Ou.fo (fun r a=>∃(x2:Option KD) (i l:Nat),a=[some (0,ai p cs Z),some (0,.int g),x2]/\r=(List.range' i l).map (fun (n:Nat)=>D.int n)/\i+l=Z.length/\∀j (hj:j<Z.length),j<i->g∉Z[j]) (vs:=[(99,.int Z.length)]) (by simp[ai]) (wk_rng1 hl') (by simpa using hl') ⟨none,0,Z.length,by simp,by rw[List.range_eq_range'],by omega,fun j hj h=>by omega⟩ ?_ ?_
  ·rintro x r a ⟨x2,i,l,ha,hr,hil,hn⟩;cases l with
   | zero=>simp at hr
   | succ l=>
    rw[List.range'_succ,List.map_cons,List.cons.injEq] at hr;obtain⟨rfl,rfl⟩:=hr;subst ha;have hi:i<Z.length:=by omega
    have ix:=g9 (p:=p) (cs:=cs) (List.getElem?_eq_getElem hi);have cc:=B9 G (run G n) (ac cs p Z[i]) g;have hws:(ac cs p Z[i]).length<=SL:=by rw[gp]; exact br C.p6 (by decide)
    have hsq:(aw (ac cs p Z[i])).seq=some ((ac cs p Z[i]).map am):=rfl;have an:=vg (fun r=>decide (g∈r)) (ac cs p Z[i]);rw[C7 C (s.wn (List.getElem_mem hi)) g] at an;refine⟨_,fP rfl,?_⟩;have hev:∀a:Fr,a=[some (0,ai p cs Z),some (0,.int g),some (0,.int i)]->eval G (run G n) a.sl (.op .any [(.comp [none,none,(some 1)] (.one 1) .seq [(.op .ix [(.var 0),(.var 2)])] [] (.op .isin [(.var 2),(.var 1)]))])=.ok (99,.bl (decide (g∈Z[i]))):=by
     intro a ea;subst ea;generalize ai p cs Z=T at ix;generalize aw (ac cs p Z[i])=Y at ix hsq;simp[-aF,-D.seq,ix,hsq,cc,hws,Function.comp_def,an]
    by_cases hb:g∈Z[i]
    ·rw[decide_eq_true hb] at hev;refine Ou.iffT (j:=99) (hev _ rfl) ?_;exact Ou.ret (x:=(0,.int i)) rfl (rP hi hb hn).symm
    ·rw[decide_eq_false hb] at hev;refine Ou.iffN (j:=99) (hev _ rfl) ?_;refine Ou.nil ⟨some (0,.int i),i+1,l,by simp,rfl,by omega,fun j hj h=>?_⟩;by_cases e:j=i
     ·subst e; exact hb
     ·exact hn j hj (by omega)
  ·rintro a ⟨x2,i,l,ha,hr,hil,hn⟩;subst ha;have hl0:l=0:=by
    cases l with
    | zero=>rfl
    | succ l=>rw[List.range'_succ] at hr; simp at hr
   subst hl0;exact Ou.ret (x:=(99,.non)) rfl (sr fun j hj=>hn j hj (by omega)).symm
 obtain⟨j,d,e,rfl⟩:=Ou.run (n:=n) (vs:=[(k,ai p cs Z),(k',.int g)]) (V:=fun d=>d=bH Z g) P.f115 rfl rfl (key.mono (fun _ h=>h.elim) (fun _ h=>h) fun _ _ _ h=>h);exact⟨j,e⟩
theorem vh (n k k' k'':Nat)(p:Nat)(cs:List (List Int))(Z:List (List Nat))(C:Cv p cs)(s:Sg cs Z)(hl3:Z.length<=3)(q g:Nat)(O O':List Nat)(hO:Z[q]? = some O)(hg:g<cs.length)(w:Str)(f:List Nat->List Nat)
  (hw:w = "on" /\ f=(fun r=>r++[g])\/w = "off" /\ f=List.dropLast)(hmod:bU f (aK cs g) (ac cs p O)=ac cs p O'):∃j,run G (n+1) 117 [(k,ai p cs Z),(k',.tup [.int q,.str w,.int g]),(k'',al cs)]=.ret j (ai p cs (Z.set q O')) []:=by
 have hq:q<Z.length:=(cr hO).1;have wn:=s.wn (List.mem_of_getElem? hO);have hl:p<=SL:=br C.p6 (by decide);have ix1:=g9 (p:=p) (cs:=cs) hO;have ix2:=va hg;have hsq:(aw (ac cs p O)).seq=some ((ac cs p O).map am):=rfl;have hsl:((ac cs p O).map am).length=p:=by rw[List.length_map,gp]
 have hsS:ai p cs Z=.tup (Z.map fun O=>aw (ac cs p O)):=rfl;have c1:=pO (Z.map fun O=>aw (ac cs p O)) q;have c2:=nQ (Z.map fun O=>aw (ac cs p O)) (q+1);have e2:((q+1:Nat):Int)=(q:Int)+1:=by omega
 rw[e2] at c2;have ct1:aA none (some (q:Int)) (ai p cs Z)=some (0,.tup ((Z.map fun O=>aw (ac cs p O)).take q)):=by simp only[hsS,aA,c1]
 have ct2:aA (some ((q:Int)+1)) none (ai p cs Z)=some (0,.tup ((Z.map fun O=>aw (ac cs p O)).drop (q+1))):=by simp only[hsS,aA,c2]
 obtain⟨a1,a2⟩:=AZ (p:=p) (cs:=cs) (O:=O') hq hl3;have hrow:∀i,i<p->aF (aw (ac cs p O)) (.int i)=some (0,am (aS cs i O)):=fun i hi=>pi hi;have hlen:(ac cs p O').length=p:=gp _ _ _;have hget:∀i,i<p->(ac cs p O')[i]? = some (if (i:Int)∈aK cs g then f (aS cs i O) else aS cs i O):=fun i hi=>by
  rw[<-hmod,qO f _ _ (C.nd g) (fun i hi=>by rw[gp]; exact C.rg g i hi)];simp[ac,hi]
 have hrl:∀i,(aS cs i O).length<=6:=fun i=>br (List.length_filter_le _ _) (wn.len C);have ewr:aw (ac cs p O')=.tup ((ac cs p O').map am):=rfl;rw[ewr] at a1 a2;generalize hR:ai p cs (Z.set q O')=R at a2;generalize ai p cs Z=T at ix1 ct1 ct2;generalize aw (ac cs p O)=Y at ix1 hsq hrow;generalize al cs=K at ix2;generalize ac cs p O'=W' at *;generalize (Z.map fun O=>aw (ac cs p O)).take q=S1 at *;generalize (Z.map fun O=>aw (ac cs p O)).drop (q+1)=S2 at *;generalize aK cs g=c at *;have key:Ou G (run G n) [] [some (0,T),some (0,.tup [.int q,.str w,.int g]),some (0,K),none,none,none,none,none,none] nW.body (fun _=>False) (fun d=>d=R) fun _ _ _=>False:=by
  refine Ou.setT (j:=0) (ds:=[.int q,.str w,.int g]) (by simp) ?_;refine Ou.setK (x:=(99,.lst [])) (by simp) (by simp) ?_;refine Ou.low (a':=[some (0,T),some (0,.tup [.int q,.str w,.int g]),some (0,K),some (0,.int q),some (0,.str w),some (0,.int g),some (1,.lst []),none,none]) (.cons (.refl _) (.cons (.refl _) (.cons (.refl _) (.cons (.refl _) (.cons (.refl _) (.cons (.refl _) (.cons ⟨rfl,by decide⟩ (.refl _)))))))) ?_;refine Ou.fo (fun r a=>∃(x7 x8:Option KD) (i l:Nat),a=[some (0,T),some (0,.tup [.int q,.str w,.int g]),some (0,K),some (0,.int q),some (0,.str w),some (0,.int g),some (1,.lst ((W'.take i).map am)),x7,x8]/\r=(List.range' i l).map (fun (n:Nat)=>D.int n)/\i+l=p) (vs:=[(99,.int p)]) (by simp only[List.length_map] at hsl; simp[-aF,-D.seq,ix1,hsq,hsl]) (wk_rng1 hl) (by simpa using hl) ⟨none,none,0,p,by simp,by rw[List.range_eq_range'],by omega⟩ ?_ ?_
  ·rintro x r a ⟨x7,x8,i,l,ha,hr,hil⟩;cases l with
   | zero=>simp at hr
   | succ l=>
    rw[List.range'_succ,List.map_cons,List.cons.injEq] at hr;obtain⟨rfl,rfl⟩:=hr;subst ha;have hi:i<p:=by omega
    have ix3:=hrow i hi;have hg:=hget i hi;have hln:=hrl i;generalize aS cs i O=row at ix3 hg hln;have mb:=vo i c;have sc:=CN c;refine⟨_,fP rfl,?_⟩;refine Ou.set (x:=(0,am row)) (by simp[-aF,ix1,ix3]) ?_;have fin:∀(row':List Nat) (a:Fr),W'[i]? = some row'->a=[some (0,T),some (0,.tup [.int q,.str w,.int g]),some (0,K),some (0,.int q),some (0,.str w),some (0,.int g),some (1,.lst ((W'.take i).map am)),some (0,.int i),some (0,am row')]->Ou G (run G n) [] a [.mut 6 [] .append [(.var 8)]] (fun a=>∃(x7 x8:Option KD) (i' l':Nat),a=[some (0,T),some (0,.tup [.int q,.str w,.int g]),some (0,K),some (0,.int q),some (0,.str w),some (0,.int g),some (1,.lst ((W'.take i').map am)),x7,x8]/\(List.range' (i+1) l).map (fun (n:Nat)=>D.int n)=(List.range' i' l').map (fun (n:Nat)=>D.int n)/\i'+l'=p) (fun d=>d=R) fun _ _ _=>False:=by
     intro row' a eg ea;subst ea;refine Ou.append (k:=0) (xs:=(W'.take i).map am) (v:=(0,am row')) (by simp[frz,frz1]) (by simp) ?_ ?_
     ·rw[List.length_map,List.length_take,hlen];omega
     ·refine Ou.nil ⟨some (0,.int i),some (0,am row'),i+1,l,?_,rfl,by omega⟩;have:W'.take (i+1)=W'.take i++[row']:=by rw[List.take_succ,eg]; rfl
      rw[this];simp[frz,frz1]
    by_cases hb:(i:Int)∈c
    ·rw[if_pos hb] at hg;refine Ou.iffT (j:=99) (by simp[-aF,-List.all_eq_true,ix2,mb,sc,hb]) ?_;have ct:=DA row;have ad:=ub (r:=row) (g:=g) (by omega);have op:=k6;have fp:=kY;have oo:=l7;have fo:=lS;rcases hw with ⟨rfl,rfl⟩ | ⟨rfl,rfl⟩
     ·refine Ou.set (x:=(0,am (row++[g]))) ?_ (Ou.nil ?_)
      ·generalize am row=Y at ct ad;generalize am (row++[g])=Y2 at ad;generalize D.str "on" = E at op oo;simp[-bK,-aA,-aF,ct,ad,op,oo];simp[ef]
      ·exact fin _ _ hg (by simp)
     ·refine Ou.set (x:=(0,am row.dropLast)) ?_ (Ou.nil ?_)
      ·generalize am row=Y at ct ad;generalize am (row++[g])=Y2 at ad;generalize am row.dropLast=Y3 at ct;generalize D.str "on" = E at op fo;generalize D.str "off" = F at fp fo;simp[-bK,-aA,-aF,ct,ad,op,fo,fp];simp[ef]
      ·exact fin _ _ hg (by simp)
    ·rw[if_neg hb] at hg;refine Ou.iffN (j:=99) (by simp[-aF,-List.all_eq_true,ix2,mb,sc,hb]) ?_;exact fin _ _ hg (by simp)
  ·rintro a ⟨x7,x8,i,l,ha,hr,hil⟩;have hl0:l=0:=by
    cases l with
    | zero=>rfl
    | succ l=>rw[List.range'_succ] at hr; simp at hr
   subst hl0 ha;have:W'.take i=W':=List.take_of_length_le (by omega);rw[this];have a0:bK (.int q) (.int 1)=some (99,.int ((q:Int)+1)):=rfl;exact Ou.ret (x:=(0,R)) (by simp[-bK,-aA,ct1,ct2,a0,a1,a2]) rfl
 obtain⟨j,d,e,rfl⟩:=Ou.run (n:=n) (vs:=[(k,T),(k',.tup [.int q,.str w,.int g]),(k'',K)]) (V:=fun d=>d=R) P.f117 rfl rfl (key.mono (fun _ h=>h.elim) (fun _ h=>h) fun _ _ _ h=>h);exact⟨j,e⟩
theorem Dc (n k k' k'':Nat)(p:Nat)(cs:List (List Int))(Z Z':List (List Nat))(d:D)(C:Cv p cs)(s:Sg cs Z)(hl:Z.length<=3)(h:Dd cs Z d Z'):∃j,run G (n+1) 117 [(k,ai p cs Z),(k',d),(k'',al cs)]=.ret j (ai p cs Z') []:=by
 cases h with
 | on hO hg h=>exact vh P n k k' k'' p cs Z C s hl _ _ _ _ hO hg _ _ (.inl ⟨rfl,rfl⟩) (by rw[<-vx]; exact tj C)
 | off hO h e=>
  have w:=s.wn (List.mem_of_getElem? hO);exact vh P n k k' k'' p cs Z C s hl _ _ _ _ hO (w.lt _ h) _ _ (.inr ⟨rfl,rfl⟩) (sg C w.nd h e)
theorem ud (n k k':Nat)(d:D)(b:Int):run G (n+1) 122 [(k,d),(k',.int b)]=.ret 99 (.bl (isB b d)) []:=by
 rw[run,P.f122];cases d with
 | int i=>by_cases h:0<=i <;> simp[jv,isB,h]
 | _=>simp[jv,isB]
end Ip
end
section
namespace Ip
open PySem (Str)
theorem uv:(D.str "on").eq (.str "off")=false:=by decide +kernel
theorem o5:(D.str "off").eq (.str "off")=true:=by decide +kernel
theorem Dw (Z:List (List Nat))(g:Nat):(bH Z g).pur 60=true:=by
 unfold bH;cases dE Z g <;> rfl
theorem pV:∀(r:List Nat) (x:Nat),∃m:Nat,(r.map Int.ofNat).foldl (fun a b=>if b<a then b else a) (Int.ofNat x)=Int.ofNat m/\m∈x::r/\∀z∈x::r,m<=z
 | [],x=>⟨x,rfl,bD,fun z hz=>by simp at hz; omega⟩
 | y::r,x=>by
  rw[List.map_cons,List.foldl_cons];by_cases h:y<x
  ·have h':(Int.ofNat y)<Int.ofNat x:=by simpa using h
   rw[if_pos h'];obtain⟨m,e,h1,h2⟩:=pV r y;refine⟨m,e,bw _ h1,fun z hz=>?_⟩;rcases bN hz with rfl | hz
   ·have:=h2 y bD; omega
   ·exact h2 z hz
  ·have h':¬(Int.ofNat y)<Int.ofNat x:=by simpa using h
   rw[if_neg h'];obtain⟨m,e,h1,h2⟩:=pV r x;have hx:=h2 x bD;refine⟨m,e,?_,fun z hz=>?_⟩
   ·rcases bN h1 with h | h
    ·rw[h]; exact bD
    ·exact bw _ (bw _ h)
   ·rcases bN hz with rfl | hz
    ·exact hx
    ·rcases bN hz with rfl | hz
     ·omega
     ·exact h2 z (bw _ hz)
theorem Em (h6:∀x∈l,x<6)(e:aO l=y::t):d7 (ah l)=some (99,.int (y:Nat)):=by
 have hy:y∈l:=by
  have:y∈aO l:=by rw[e]; exact bD
  simpa using (List.mem_filter.mp this).2
 have pw:(y::t).Pairwise (· < ·):=by rw[<-e]; exact List.pairwise_lt_range.filter _
 have le:∀z∈l,y<=z:=fun z hz=>by
  have:z∈y::t:=by rw[<-e]; exact (n0 (h6 z hz)).mpr hz
  rcases bN this with rfl | h
  ·exact aX _
  ·exact Nat.le_of_lt ((List.pairwise_cons.mp pw).1 z h)
 cases l with
 | nil=>cases hy
 | cons x r=>
  obtain⟨m,em,h1,h2⟩:=pV r x;have:m=y:=Nat.le_antisymm (h2 y hy) (le m h1);subst this;have ei:b7 (ah r)=some (r.map Int.ofNat):=by
   rw[<-sk,List.map_map]; rfl
  show (match b7 (ah r) with | some is=>fI (is.foldl (fun a b=>if b<a then b else a) (Int.ofNat x)) | none=>none)=_;rw[ei];simp only[em];rfl
variable {G:Pg}(P:P2 G)
include P
theorem vq (n p:Nat)(cs:List (List Int))(Z:List (List Nat))(a w b:D)(hw:w.scal=true):∀fr:Fr,fr=[some (0,ai p cs Z),some (0,.tup [a,w,b]),some (0,al cs),some (0,a),some (0,w),some (0,b),none,none,none] ->
  eval G (run G (n+1)) fr.sl (.or (.op .not [(.call 122 [(.var 3),(.op .len [(.var 0)])])]) (.op .nin [(.var 4),(.op .lst [(.cst (.str "on")),(.cst (.str "off"))])]))=.ok (99,.bl (!isB Z.length a||!isWd w)):=by
 intro fr e;subst e;have qb:=ud P n 0 99 a Z.length;have hsq:(ai p cs Z).seq=some (Z.map fun O=>aw (ac cs p O)):=rfl;have hi:isWd w=D.memb w [.str "on",.str "off"]:=rfl;generalize isWd w=W at hi;generalize ai p cs Z=T at hsq;cases hb:isB Z.length a with
 | false=>
  rw[hb] at qb;simp[-D.seq,P.f122,jv,hsq,qb]
 | true=>
  rw[hb] at qb;simp[-D.seq,P.f122,jv,hsq,qb];cases w <;> simp at hw ⊢ <;> simp[hi]
theorem kG (n p:Nat)(cs:List (List Int))(Z:List (List Nat))(q:Nat)(w b:D)(hq:q<Z.length)(hw:w.scal=true)(hi:isWd w=true)
  (k:Ou G (run G (n+1)) [] [some (0,ai p cs Z),some (0,.tup [.int q,w,b]),some (0,al cs),some (0,.int q),some (0,w),some (0,b),none,none,none] (gX.body.drop 2) (fun _=>False) V fun _ _ _=>False) :
  Ou G (run G (n+1)) [] [some (0,ai p cs Z),some (0,.tup [.int q,w,b]),some (0,al cs),none,none,none,none,none,none] gX.body (fun _=>False) V fun _ _ _=>False:=by
 have cd:=vq P n p cs Z (.int q) w b hw;have hb:isB Z.length (.int q)=true:=by simp[isB,hq]
 rw[hb,hi] at cd;refine Ou.setT (j:=0) (ds:=[.int q,w,b]) rfl ?_;refine Ou.iffN (j:=99) (cd _ rfl) ?_;exact Ou.low (.of_eq rfl) k
theorem kL (n p:Nat)(cs:List (List Int))(T:D)(q:Nat)(w b:D)(x:Bool)(hb:isB cs.length b=x):∀fr:Fr,fr=[some (0,T),some (0,.tup [.int q,w,b]),some (0,al cs),some (0,.int q),some (0,w),some (0,b),none,none,none]->eval G (run G (n+1)) fr.sl (.op .not [(.call 122 [(.var 5),(.op .len [(.var 2)])])])=.ok (99,.bl (!x)):=by
 intro fr e;subst e;have qb:=ud P n 0 99 b cs.length;rw[hb] at qb;simp[P.f122,jv,qb,al]
theorem uH (n p:Nat)(cs:List (List Int))(Z:List (List Nat))(q g:Nat)(O:List Nat)(C:Cv p cs)(w:Wn cs O)(hO:Z[q]? = some O)(hg:g∈O)
  (k:∀x7 x8,Ou G (run G (n+1)) [] [some (0,ai p cs Z),some (0,.tup [.int q,.str "off",.int g]),some (0,al cs),some (0,.int q),some (0,.str "off"),some (0,.int g),some (0,.lst (ah (dC cs O g))),x7,x8] [.iff (.op .gt [(.op .len [(.var 6)]),(.cst (.int (0)))]) [.ret (.op .tup [(.cst (.str "covered")),(.var 5),(.op .min1 [(.var 6)])])] []] (fun a=>Ou G (run G (n+1)) [] a [.ret (.cst .non)] (fun _=>False) V fun _ _ _=>False) V fun _ _ _=>False) :
  Ou G (run G (n+1)) [] [some (0,ai p cs Z),some (0,.tup [.int q,.str "off",.int g]),some (0,al cs),some (0,.int q),some (0,.str "off"),some (0,.int g),none,none,none] (gX.body.drop 5) (fun _=>False) V fun _ _ _=>False:=by
 have fp:=kY;have ff:=o5;have hgl:=w.lt g hg;have ix1:=g9 (p:=p) (cs:=cs) hO;have ix2:=va hgl;have hS:(aK cs g).length<=SL:=br (C.ln g) (by decide);have hln:=C.ln g;have hrg:=C.rg g;have hrow:∀i,i<p->aF (aw (ac cs p O)) (.int i)=some (0,am (aS cs i O)):=fun i hi=>pi hi;unfold dC at k;generalize hC:aK cs g=c at ix2 hS hln hrg k;generalize ai p cs Z=T at ix1 k;generalize aw (ac cs p O)=Y at ix1 hrow;generalize al cs=K at ix2 k;refine Ou.iffT (j:=99) (by simp[ff,fp]) ?_;refine Ou.set (x:=(99,.lst [])) rfl ?_;refine Ou.fo (fun r a=>∃(x7 x8:Option KD) (pre suf:List Int),a=[some (0,T),some (0,.tup [.int q,.str "off",.int g]),some (0,K),some (0,.int q),some (0,.str "off"),some (0,.int g),some (0,.lst (ah (pre.map (cz cs O g)).flatten)),x7,x8]/\r=suf.map .int/\pre++suf=c) (vs:=[(0,.lst (c.map .int))]) (xs:=c.map .int) (by simp[-aF,ix2]) rfl (by simpa using hS) ⟨none,none,[],c,by simp[ah],rfl,rfl⟩ ?_ ?_
 ·rintro x r a ⟨x7,x8,pre,suf,ha,hr,he⟩;cases suf with
  | nil=>simp at hr
  | cons s suf=>
   simp only[List.map_cons,List.cons.injEq] at hr;obtain⟨rfl,rfl⟩:=hr;subst ha;have hs:s∈c:=by rw[<-he]; simp
   have rg:=hrg s hs;obtain⟨j,rfl⟩:∃j:Nat,s=(j:Int):=⟨s.toNat,by omega⟩
   have ix:=hrow j (by omega);have hgf:g∈aS cs j O:=List.mem_filter.mpr ⟨hg,decide_eq_true (by rw[hC]; exact hs)⟩;have sc:=gv (aS cs j O);have id':b8 (am (aS cs j O)) (.int g)=some (99,.int ((aS cs j O).idxOf g:Nat)):=by
    rw[am,qP,rc hgf];simp[-List.all_eq_true,sc]
   have hlt:=List.idxOf_lt_length_of_mem hgf;have eo:cz cs O g (j:Int)=((aS cs j O).drop ((aS cs j O).idxOf g+1)).take 1:=by unfold cz fm; rw[Int.toNat_natCast]
   have ct1:aA (some (((aS cs j O).idxOf g:Int)+1)) none (am (aS cs j O))=some (0,.tup (ah ((aS cs j O).drop ((aS cs j O).idxOf g+1)))):=by
    have:=nQ (ah (aS cs j O)) ((aS cs j O).idxOf g+1);simp only[Int.natCast_add,Int.natCast_one] at this;simp only[am,aA,this];simp[ah,List.map_drop]
   have ct2:aA none (some 1) (.tup (ah ((aS cs j O).drop ((aS cs j O).idxOf g+1))))=some (0,.tup (ah (cz cs O g (j:Int)))):=by
    have:=pO (ah ((aS cs j O).drop ((aS cs j O).idxOf g+1))) 1;simp only[Int.natCast_one] at this;simp only[aA,this,eo];simp[ah,List.map_take]
   have hol:=nh cs O g (j:Int);have hpl:(pre.map (cz cs O g)).flatten.length<=6:=by
    have h1:∀l:List Int,(l.map (cz cs O g)).flatten.length<=l.length:=by
     intro l;induction l with
     | nil=>simp
     | cons x l ih=>
      have:=nh cs O g x;rw[List.map_cons,List.flatten_cons,List.length_append,List.length_cons];omega
    have:=h1 pre;have:=congrArg List.length he;simp at this;omega
   have ad:=mz (xs:=ah (pre.map (cz cs O g)).flatten) (ys:=ah (cz cs O g (j:Int))) (by rw[jK]; omega) (by rw[jK]; omega);have a0:∀i:Int,bK (.int i) (.int 1)=some (99,.int (i+1)):=fun _=>rfl;generalize am (aS cs j O)=row at ix id' ct1;generalize (aS cs j O).drop ((aS cs j O).idxOf g+1)=dr at ct1 ct2;generalize (aS cs j O).idxOf g=dd at id' ct1;generalize hOo:cz cs O g (j:Int)=oo at ct2 hol ad;generalize D.tup (ah dr)=DR at ct1 ct2;refine⟨_,fP rfl,?_⟩;refine Ou.set (x:=(0,row)) (by simp[-aF,ix1,ix]) ?_;refine Ou.set (x:=(1,.lst (ah (pre.map (cz cs O g)).flatten++ah oo))) (by simp[-aA,-bK,id',a0,ct1,ct2,ad]) ?_;exact Ou.nil ⟨some (0,.int (j:Nat)),some (0,row),pre++[(j:Int)],suf,by simp[ah,hOo],rfl,by simpa using he⟩
 ·rintro a ⟨x7,x8,pre,suf,ha,hr,he⟩;have:suf=[]:=by simpa using hr.symm
  subst this ha;rw[List.append_nil] at he;subst he;exact k x7 x8
theorem AN (n k k' k'':Nat)(p:Nat)(cs:List (List Int))(Z:List (List Nat))(d due:D)(c:Nat)(fs:List (Nat×D))(C:Cv p cs)(s:Sg cs Z)(hl:Z.length<=3)(h:Rf cs Z d due c fs):∃j,run G (n+2) 82 [(k,ai p cs Z),(k',d),(k'',al cs)]=.ret j due []:=by
 have fin:∀{d:D},Ou G (run G (n+1)) [] [some (0,ai p cs Z),some (0,d),some (0,al cs),none,none,none,none,none,none] gX.body (fun _=>False) (fun x=>x=due) (fun _ _ _=>False)->∃j,run G (n+2) 82 [(k,ai p cs Z),(k',d),(k'',al cs)]=.ret j due []:=fun key=>by
  obtain⟨j,d,e,rfl⟩:=Ou.run (n:=n+1) (vs:=[(k,ai p cs Z),(k',_),(k'',al cs)]) (V:=fun d=>d=due) P.f82 rfl rfl (key.mono (fun _ h=>h.elim) (fun _ h=>h) fun _ _ _ h=>h);exact⟨j,e⟩
 have op:=k6;have fp:=kY;have oo:=l7;have fo:=lS;have of:=uv;have ff:=o5;cases h with
 | @deed a w b ha hw hb h=>
  refine fin ?_;have cd:=vq P n p cs Z a w b hw;have hc:(!isB Z.length a||!isWd w)=true:=by rcases h with h | h <;> simp[h]
  rw[hc] at cd;refine Ou.setT (j:=0) (ds:=[a,w,b]) rfl ?_;refine Ou.iffT (j:=99) (cd _ rfl) ?_;exact Ou.ret (x:=(99,.tup [.str "deed"])) rfl rfl
 | @no q w b hq hw hb hp h=>
  refine fin (kG P n p cs Z q w b hq (by rcases k9 hw with rfl | rfl <;> rfl) hw ?_);have cn:=kL P n p cs (ai p cs Z) q w b false h;refine Ou.iffT (j:=99) (cn _ rfl) ?_;have hf:=ip hb;exact Ou.retE ⟨_,by simp; rfl⟩ rfl
 | @worn q g i hq hg h=>
  obtain⟨j1,q1⟩:=lr P n 0 0 p cs Z g C s hl;unfold bH at q1;rw[h] at q1;simp only[] at q1;refine fin (kG P n p cs Z q _ _ hq rfl gS ?_);have cn:=kL P n p cs (ai p cs Z) q (.str "on") (.int g) true (by simp[isB,hg]);refine Ou.iffN (j:=99) (cn _ rfl) ?_;generalize ai p cs Z=T at q1;refine Ou.iffT (j:=99) (by simp[oo,op,P.f115,iB,q1]) ?_;exact Ou.retE ⟨_,by simp; rfl⟩ rfl
 | @not q g O hO hg h=>
  obtain⟨j1,q1⟩:=lr P n 0 0 p cs Z g C s hl;have pr:=Dw Z g;have hq:=(cr hO).1;have nw:(bH Z g).eq (.int q)=false:=by
   unfold bH;cases e:dE Z g with
   | none=>simp[D.eq]
   | some i=>
    have:¬(i:Int)=q:=fun z=>h ((zM s.nd hO).mp (by rw[e]; congr 1; omega));simp only[D.eq];exact decide_eq_false this
  refine fin (kG P n p cs Z q _ _ hq rfl kg ?_);have cn:=kL P n p cs (ai p cs Z) q (.str "off") (.int g) true (by simp[isB,hg]);refine Ou.iffN (j:=99) (cn _ rfl) ?_;generalize ai p cs Z=T at q1;generalize bH Z g=N at q1 pr nw;refine Ou.iffN (j:=99) (by simp[fo,op,fp]) ?_;refine Ou.iffT (j:=99) (by simp[ff,fp,P.f115,iB,q1,pr,nw]) ?_;exact Ou.retE ⟨_,by simp; rfl⟩ rfl
 | @cov q g y t O hO h e=>
  have wn:=s.wn (List.mem_of_getElem? hO);obtain⟨j1,q1⟩:=lr P n 0 0 p cs Z g C s hl;unfold bH at q1;rw[pF s.nd hO h] at q1;simp only[] at q1;refine fin (kG P n p cs Z q _ _ (cr hO).1 rfl kg ?_);have cn:=kL P n p cs (ai p cs Z) q (.str "off") (.int g) true (by simp[isB,wn.lt g h]);refine Ou.iffN (j:=99) (cn _ rfl) ?_;refine Ou.iffN (j:=99) (by simp[fo,op,fp]) ?_;refine Ou.iffN (j:=99) (by generalize ai p cs Z=T at q1 ⊢; simp[fp,P.f115,iB,q1,D.eq]) ?_;refine uH P n p cs Z q g O C wn hO h fun x7 x8=>?_;have mn:=Em (l:=dC cs O g) (fun x hx=>by have:=wn.lt x (qQ hx); have:=C.m6; omega) e;have hp:0<(ah (dC cs O g)).length:=by
   rw[jK];cases hq:dC cs O g with
   | nil=>rw[hq] at e; cases e
   | cons a l=>simp
  generalize ah (dC cs O g)=L at mn hp;refine Ou.iffT (j:=99) (by simp[hp]) ?_;exact Ou.retE ⟨_,by simp[mn]; rfl⟩ rfl
theorem EI (n k k' k'':Nat)(p:Nat)(cs:List (List Int))(Z Z':List (List Nat))(d:D)(C:Cv p cs)(s:Sg cs Z)(hl:Z.length<=3)(h:Dd cs Z d Z'):∃j,run G (n+2) 82 [(k,ai p cs Z),(k',d),(k'',al cs)]=.ret j .non []:=by
 have fin:∀{d:D},Ou G (run G (n+1)) [] [some (0,ai p cs Z),some (0,d),some (0,al cs),none,none,none,none,none,none] gX.body (fun _=>False) (fun x=>x=.non) (fun _ _ _=>False)->∃j,run G (n+2) 82 [(k,ai p cs Z),(k',d),(k'',al cs)]=.ret j .non []:=fun key=>by
  obtain⟨j,d,e,rfl⟩:=Ou.run (n:=n+1) (vs:=[(k,ai p cs Z),(k',_),(k'',al cs)]) (V:=fun d=>d=.non) P.f82 rfl rfl (key.mono (fun _ h=>h.elim) (fun _ h=>h) fun _ _ _ h=>h);exact⟨j,e⟩
 have op:=k6;have fp:=kY;have oo:=l7;have fo:=lS;have of:=uv;have ff:=o5;cases h with
 | @on q g O hO hg h=>
  obtain⟨j1,q1⟩:=lr P n 0 0 p cs Z g C s hl;unfold bH at q1;rw[h] at q1;simp only[] at q1;refine fin (kG P n p cs Z q _ _ (cr hO).1 rfl gS ?_);have cn:=kL P n p cs (ai p cs Z) q (.str "on") (.int g) true (by simp[isB,hg]);refine Ou.iffN (j:=99) (cn _ rfl) ?_;generalize ai p cs Z=T at q1;refine Ou.iffN (j:=99) (by simp[oo,op,P.f115,iB,q1]) ?_;refine Ou.iffN (j:=99) (by simp[of,op,fp]) ?_;refine Ou.iffN (j:=99) (by simp[of,op,fp]) ?_;exact Ou.ret (x:=(99,.non)) rfl rfl
 | @off q g O hO h e=>
  have wn:=s.wn (List.mem_of_getElem? hO);obtain⟨j1,q1⟩:=lr P n 0 0 p cs Z g C s hl;unfold bH at q1;rw[pF s.nd hO h] at q1;simp only[] at q1;refine fin (kG P n p cs Z q _ _ (cr hO).1 rfl kg ?_);have cn:=kL P n p cs (ai p cs Z) q (.str "off") (.int g) true (by simp[isB,wn.lt g h]);refine Ou.iffN (j:=99) (cn _ rfl) ?_;refine Ou.iffN (j:=99) (by simp[fo,op,fp]) ?_;refine Ou.iffN (j:=99) (by generalize ai p cs Z=T at q1 ⊢; simp[fp,P.f115,iB,q1,D.eq]) ?_;refine uH P n p cs Z q g O C wn hO h fun x7 x8=>?_;rw[e];refine Ou.iffN (j:=99) rfl (Ou.nil ?_);exact Ou.ret (x:=(99,.non)) rfl rfl
end Ip
end
section
namespace Ip
open PySem (Str)
theorem kA:∀(n:Nat) (d:D),d.pur n=true->d.eq d=true
 | n,.non,_=>by simp[D.eq]
 | n,.bl b,_=>by simp[D.eq]
 | n,.int i,_=>by simp[D.eq]
 | n,.str s,_=>by simp[D.eq]
 | 0,.lst xs,h=>by cases h
 | 0,.tup xs,h=>by cases h
 | n,.ins _ _,h=>by cases n <;> cases h
 | n,.exc _ _,h=>by cases n <;> cases h
 | n+1,.lst xs,h=>by
  rw[uI] at h;simp only[D.eq];induction xs with
  | nil=>simp[D.eqs]
  | cons x xs ih=>
   simp only[List.all_cons,Bool.and_eq_true] at h;simp[D.eqs,kA n x h.1,ih h.2]
 | n+1,.tup xs,h=>by
  rw[rB] at h;simp only[D.eq];induction xs with
  | nil=>simp[D.eqs]
  | cons x xs ih=>
   simp only[List.all_cons,Bool.and_eq_true] at h;simp[D.eqs,kA n x h.1,ih h.2]
theorem nN (p:Nat)(cs:List (List Int))(Z:List (List Nat)):(ai p cs Z).pur 60=true:=by
 simp[ai,aw,am,ah]
theorem Rf.due {cs:List (List Int)}{Z:List (List Nat)}{d due:D}{c:Nat}{fs:List (Nat×D)}(h:Rf cs Z d due c fs):∃ds,due=.tup ds/\ds.all (D.pur 59)=true/\ds.length<=3:=by
 have s1:(D.str "deed").pur 59=true:=by decide +kernel
 have s2:(D.str "garment").pur 59=true:=by decide +kernel
 have s3:(D.str "worn").pur 59=true:=by decide +kernel
 have s4:(D.str "not worn").pur 59=true:=by decide +kernel
 have s5:(D.str "covered").pur 59=true:=by decide +kernel
 cases h with
 | deed=>exact⟨_,rfl,by rw[List.all_cons,s1]; rfl,by simp⟩
 | no _ _ hb hp=>exact⟨_,rfl,by rw[List.all_cons,List.all_cons,s2,hp]; rfl,by simp⟩
 | worn=>exact⟨_,rfl,by rw[List.all_cons,s3]; rfl,by simp⟩
 | not=>exact⟨_,rfl,by rw[List.all_cons,s4]; rfl,by simp⟩
 | cov=>exact⟨_,rfl,by rw[List.all_cons,s5]; rfl,by simp⟩
theorem Rf.flat {cs:List (List Int)}{Z:List (List Nat)}{d due:D}{c:Nat}{fs:List (Nat×D)}(h:Rf cs Z d due c fs):(fs.all fun p=>p.2.flat)=true/\d.flat=true/\(c=2\/c=3\/c=4\/c=5\/c=7):=by
 cases h with
 | deed ha hw hb h=>exact⟨rfl,by simp[ip ha,ip hw,ip hb],by decide⟩
 | no hq hw hb hp h=>
  refine⟨by simp[ip hb],?_,by decide⟩;rcases k9 hw with rfl | rfl <;> simp[ip hb]
 | worn=>exact⟨rfl,rfl,by decide⟩
 | not=>exact⟨rfl,rfl,by decide⟩
 | cov=>exact⟨rfl,rfl,by decide⟩
theorem Dd.flat (h:Dd cs Z d Z'):d.flat=true:=by
 cases h <;> rfl
variable {G:Pg}(P:P2 G)
include P
theorem zc (fs:List (Nat×D))(hc:c=2\/c=3\/c=4\/c=5\/c=7):ao G (.exc c fs) (.cls 0)=true:=by
 rcases hc with rfl | rfl | rfl | rfl | rfl <;> simp[P.p.v.a.c2,P.c3,P.c4,P.p.c5,P.c7]
theorem xT (n k k':Nat)(cs:List (List Int))(Z:List (List Nat))(d due:D)(c:Nat)(fs:List (Nat×D))(h:Rf cs Z d due c fs):∃j,run G (n+2) 76 [(k,.exc c fs),(k',due)]=.ret j (.bl true) []:=by
 obtain⟨j,q⟩:=P.told (n:=n) (k:=0) h;obtain⟨ds,rfl,hs,h3⟩:=h.due;have hS:ds.length<=SL:=br h3 (by decide);have pr:(D.tup ds).pur 60=true:=by rw[rB]; exact hs
 have es:=kA 60 _ pr;have cc:aC (compF G (run G (n+1)) [none,none] (.one 1) [] (.op (.isi [.bool]) [(.var 1)])) ds=.ok (ds.map fun x=>(99,.bl (ao G x .bool))):=vm fun x hx=>by simp[compF]
 have jk:aE (ds.map fun x=>((99:Nat),D.bl (ao G x .bool)))=98:=p0 fun x hx=>by
  obtain⟨y,_,rfl⟩:=du hx;simp
 have pr2:(D.lst (ds.map fun x=>.bl (ao G x .bool))).pur 60=true:=by rw[uI]; simp
 have es2:=kA 60 _ pr2;have key:Ou G (run G (n+1)) [] [some (0,.exc c fs),some (0,.tup ds),none] lg.body (fun _=>False) (fun x=>x=.bl true) fun _ _ _=>False:=by
  refine Ou.set (x:=(j,.tup ds)) (by simp[P.f78,ph,q]) ?_;refine Ou.low (a':=[some (0,.exc c fs),some (0,.tup ds),some (0,.tup ds)]) (.of_eq rfl) ?_;refine Ou.iffN (j:=99) (by simp[-List.all_eq_true,hs,es]) ?_;have e0:∀(T:D),T.seq=some ds->eval G (run G (n+1)) (Fr.sl [some (0,.exc c fs),some (0,T),some (0,T)]) (.comp [none,none] (.one 1) .seq [(.var 2)] [] (.op (.isi [.bool]) [(.var 1)]))=.ok (99,.lst (ds.map fun x=>.bl (ao G x .bool))):=fun T hT=>by simp[-D.seq,hT,hS,cc,jk,Function.comp_def]
  have e1:∀(T:D),T.seq=some ds->eval G (run G (n+1)) (Fr.sl [some (0,.exc c fs),some (0,T),some (0,T)]) (.comp [none,none] (.one 1) .seq [(.var 1)] [] (.op (.isi [.bool]) [(.var 1)]))=.ok (99,.lst (ds.map fun x=>.bl (ao G x .bool))):=fun T hT=>by simp[-D.seq,hT,hS,cc,jk,Function.comp_def]
  have e0':=e0 (.tup ds) rfl;have e1':=e1 (.tup ds) rfl;generalize D.lst (ds.map fun x=>.bl (ao G x .bool))=L at e0' e1' pr2 es2;exact Ou.ret (x:=(99,.bl true)) (by simp only[bQ,bh,cM,e0',e1']; simp[pr2,es2]) rfl
 obtain⟨j,d,e,rfl⟩:=Ou.run (n:=n+1) (vs:=[(k,.exc c fs),(k',.tup ds)]) (V:=fun d=>d=.bl true) P.f76 rfl rfl (key.mono (fun _ h=>h.elim) (fun _ h=>h) fun _ _ _ h=>h);exact⟨j,e⟩
theorem Ed (n k k' k'' f jk:Nat)(p:Nat)(cs:List (List Int))(T d:D)(ds:List D)(r:D)(hf:ds=[d]/\run G (n+9) 43 [(0,wd p cs),(0,T),(0,d)]=.ret jk r []\/1<ds.length/\run G (n+9) 44 [(0,wd p cs),(0,T),(0,.lst ds)]=.ret jk r []):∃j,run G (n+10) 114 [(k,wd p cs),(k',T),(k'',.lst ds)]=.ret j (.tup [r,.non]) []:=by
 have key:Ou G (run G (n+9)) [] [some (0,wd p cs),some (0,T),some (0,.lst ds),none,none,none] iz.body (fun _=>False) (fun x=>x=.tup [r,.non]) fun _ _ _=>False:=by
  refine Ou.set (x:=(99,.non)) rfl ?_;refine Ou.set (x:=(99,.non)) rfl ?_;refine Ou.low (a':=[some (0,wd p cs),some (0,T),some (0,.lst ds),some (0,.non),some (0,.non),none]) (.of_eq rfl) ?_;have fin:Ou G (run G (n+9)) [] [some (0,wd p cs),some (0,T),some (0,.lst ds),some (0,.non),some (0,r),none] [.ret (.op .tup [(.var 4),(.var 3)])] (fun _=>False) (fun x=>x=.tup [r,.non]) fun _ _ _=>False:=Ou.retE ⟨_,by simp; rfl⟩ rfl;refine Ou.tryE ?_;rcases hf with ⟨rfl,q⟩ | ⟨h1,q⟩
  ·refine Ou.iffT (j:=99) rfl ?_;refine Ou.set (x:=(jk,r)) (by simp[ef,P.f43,fW,q]) ?_;exact Ou.nil (Ou.nil (Ou.low (.of_eq rfl) fin))
  ·have h1':¬((ds.length:Int)=1):=by omega
   refine Ou.iffF (j:=99) (by simp[D.eq]; omega) ?_;refine Ou.set (x:=(jk,r)) (by simp[P.f44,kO,q]) ?_;exact Ou.nil (Ou.nil (Ou.low (.of_eq rfl) fin))
 obtain⟨j,x,e,rfl⟩:=Ou.run (n:=n+9) (vs:=[(k,wd p cs),(k',T),(k'',.lst ds)]) (V:=fun x=>x=.tup [r,.non]) P.f114 rfl rfl (key.mono (fun _ h=>h.elim) (fun _ h=>h) fun _ _ _ h=>h);exact⟨j,e⟩
theorem uu (n k k' k'':Nat)(p:Nat)(cs:List (List Int))(T d:D)(ds:List D)(c:Nat)(fs:List (Nat×D))(hc:c=2\/c=3\/c=4\/c=5\/c=7)(hf:ds=[d]/\run G (n+9) 43 [(0,wd p cs),(0,T),(0,d)]=.exc c fs []\/1<ds.length/\run G (n+9) 44 [(0,wd p cs),(0,T),(0,.lst ds)]=.exc c fs []):run G (n+10) 114 [(k,wd p cs),(k',T),(k'',.lst ds)]=.ret 1 (.tup [.non,.exc c fs]) []:=by
 have hx:=zc P fs hc;obtain⟨x,e,rfl⟩:=Ou.runE (G:=G) (n:=n+9) (f:=114) (F:=iz) (vs:=[(k,wd p cs),(k',T),(k'',.lst ds)]) (init:=iz.body.dropLast) (e:=.op .tup [(.var 4),(.var 3)]) (P:=fun x=>x=(1,.tup [.non,.exc c fs])) P.f114 rfl rfl rfl (fun _ h=>nomatch h) (by
  show Ou G (run G (n+9)) [] [some (0,wd p cs),some (0,T),some (0,.lst ds),none,none,none] _ _ _ _;refine Ou.set (x:=(99,.non)) rfl ?_;refine Ou.set (x:=(99,.non)) rfl ?_;refine Ou.low (a':=[some (0,wd p cs),some (0,T),some (0,.lst ds),some (0,.non),some (0,.non),none]) (.of_eq rfl) ?_;have fin:ao G (.exc c fs) (.cls 0)=true/\([]:List Nat).contains 3=false/\3<(bE [some (0,wd p cs),some (0,T),some (0,.lst ds),some (0,.non),some (0,.non),none]).length/\([]:List Nat).contains 5=false/\5≠3/\5<(bE [some (0,wd p cs),some (0,T),some (0,.lst ds),some (0,.non),some (0,.non),none]).length/\Ou G (run G (n+9)) [] (((bE [some (0,wd p cs),some (0,T),some (0,.lst ds),some (0,.non),some (0,.non),none]).set 3 (some (0,.exc c fs))).set 5 none) [] (fun a=>∃x,eval G (run G (n+9)) a.sl (.op .tup [(.var 4),(.var 3)])=.ok x/\x=(1,.tup [.non,.exc c fs])) (fun _=>False) fun _ _ _=>False:=by
   refine⟨hx,rfl,by simp[bE],rfl,by decide,by simp[bE],?_⟩;refine Ou.nil ⟨_,by simp[bE]; rfl,rfl⟩
  refine Ou.tryE ?_;rcases hf with ⟨rfl,q⟩ | ⟨h1,q⟩
  ·refine Ou.iffT (j:=99) rfl ?_;exact Ou.setX (by simp[ef,P.f43,fW,q]) fin
  ·refine Ou.iffF (j:=99) (by simp[D.eq]; omega) ?_;exact Ou.setX (by simp[P.f44,kO,q]) fin)
 exact e
end Ip
end
section
namespace Ip
open PySem (Str)
theorem nO (h0:0<=v)(h1:v<ds.length):∃d,aF (.lst ds) (.int v)=some (0,d)/\d∈ds:=by
 have h2:v.toNat<ds.length:=by omega
 exact⟨ds[v.toNat],by simp[aF,ef,h0,h1,h2],List.getElem_mem h2⟩
theorem vE (x:α):∀n:Nat,(List.replicate n [x]).flatten=List.replicate n x
 | 0=>rfl
 | n+1=>by rw[List.replicate_succ,List.flatten_cons,vE x n]; rfl
theorem mul_one {x:D}{m:Nat}(hm:1<=m/\m<=6):d5 (.tup [x]) (.int m)=some (0,.tup (List.replicate m x)):=by
 have h3:[x].length * (m:Int).toNat<=SL:=by
  have:6<=SL:=by decide
  simp; omega
 have c:[x].isEmpty=false/\1<=(m:Int)/\(m:Int)<=1000/\[x].length * (m:Int).toNat<=SL:=⟨rfl,by omega,by omega,h3⟩
 simp only[d5];rw[if_pos c,Int.toNat_natCast,vE]
theorem wX {p m:Nat}(cs:List (List Int))(hp:1<=p/\p<=6)(hm:1<=m/\m<=6):d5 (.tup [.tup []]) (.int p)=some (0,aw (ac cs p []))/\d5 (.tup [aw (ac cs p [])]) (.int m)=some (0,ai p cs (List.replicate m [])):=by
 have h1:=mul_one (x:=.tup []) hp;have h2:=mul_one (x:=aw (ac cs p [])) hm;have e0:ac cs p []=List.replicate p []:=List.eq_replicate_iff.mpr ⟨gp _ _ _,by simp[ac,aS]⟩;have e1:aw (ac cs p [])=.tup (List.replicate p (.tup [])):=by
  rw[e0,aw,List.map_replicate]; rfl
 have e2:ai p cs (List.replicate m [])=.tup (List.replicate m (aw (ac cs p []))):=by
  rw[ai,List.map_replicate]
 rw[e2];exact⟨by rw[h1,e1],h2⟩
theorem xz (hp:1<=p/\p<=6)(hm:cs.length<=6)(ok:∀c∈cs,OkC p c):Cv p cs:=by
 have h:∀g,aK cs g=[]/\cs.length<=g\/OkC p (aK cs g):=fun g=>by
  unfold aK;rw[List.getD_eq_getElem?_getD];by_cases hg:g<cs.length
  ·rw[List.getElem?_eq_getElem hg]; exact .inr (ok _ (List.getElem_mem hg))
  ·rw[List.getElem?_eq_none (by omega)]; exact .inl ⟨rfl,by omega⟩
 refine⟨hp.1,hp.2,hm,fun g hg=>?_,fun g i hi=>?_,fun g=>?_,fun g=>?_⟩
 ·rcases h g with ⟨_,e⟩ | o
  ·omega
  ·exact o.ne
 ·rcases h g with ⟨e,_⟩ | o
  ·rw[e] at hi; cases hi
  ·exact o.rg i hi
 ·rcases h g with ⟨e,_⟩ | o
  ·rw[e]; exact .nil
  ·exact o.nd
 ·rcases h g with ⟨e,_⟩ | o
  ·rw[e]; simp
  ·exact o.ln
theorem yX (f:α->β)(xs:List α)(lo hi:Option Int):cutD (xs.map f) lo hi=(cutD xs lo hi).map f:=by
 simp[cutD,List.map_take,List.map_drop]
theorem rL {d:D}(h:d.flat=true):d.q2=true:=by
 cases d <;> first | exact h | cases h
theorem CT (p:Int)(cs:List (List Int)):(wd p cs).q2=true:=by
 simp[wd,D.q2,D.q1]
variable {G:Pg}(P:P2 G)
include P
theorem DS (n k k' k'':Nat)(c:Int)(m M:Nat)(hm:1<=m):∃j a w b,run G (n+2) 121 [(k,.int c),(k',.int m),(k'',.int M)]=.ret j (.tup [a,w,b]) []/\a.scal=true/\w.scal=true/\b.scal=true/\b.pur 59=true:=by
 have mx:∀(s b:Int),0<b->0<=s/\s<=1000->∃v j,(∀k k' k'',run G (n+1) 71 [(k,.int c),(k',.int s),(k'',.int b)]=.ret j (.int v) [])/\0<=v/\v<b:=fun s b hb hs=>by
  obtain⟨v,j,q,h1,h2⟩:=m8 P.d n 0 0 0 c s b hb hs;refine⟨v,j,fun k k' k''=>?_,h1,h2⟩;rw[run,P.d.f71] at q ⊢;exact q
 have s0:(D.str "0").pur 59=true:=by decide +kernel
 have fin:∀(a w b:D),a.scal=true->w.scal=true->b.scal=true->b.pur 59=true->Ou G (run G (n+1)) [] [some (0,.int c),some (0,.int m),some (0,.int M),some (0,a),some (0,w),some (0,b)] (jY.body.drop 6) (fun _=>False) (fun d=>∃a w b,d=.tup [a,w,b]/\a.scal=true/\w.scal=true/\b.scal=true/\b.pur 59=true) fun _ _ _=>False:=fun a w b ha hw hb hp=>
  Ou.retE ⟨_,by simp; rfl⟩ ⟨a,w,b,rfl,ha,hw,hb,hp⟩
 have f3:∀(a w:D),a.scal=true->w.scal=true->Ou G (run G (n+1)) [] [some (0,.int c),some (0,.int m),some (0,.int M),some (0,a),some (0,w),none] (jY.body.drop 4) (fun _=>False) (fun d=>∃a w b,d=.tup [a,w,b]/\a.scal=true/\w.scal=true/\b.scal=true/\b.pur 59=true) fun _ _ _=>False:=fun a w ha hw=>by
  obtain⟨v,j,q,_,_⟩:=mx 30 (if (M:Int) > 1 then (M:Int) else 1) (by split <;> omega) (by decide);refine Ou.set (x:=(j,.int v)) (by simp[P.d.f71,dS]; simp at q; simp[q]) ?_;obtain⟨v1,j1,q1,_,_⟩:=mx 31 8 (by decide) (by decide);have cd:∀fr:Fr,fr=[some (0,.int c),some (0,.int m),some (0,.int M),some (0,a),some (0,w),some (0,.int v)]->eval G (run G (n+1)) fr.sl (.or (.op .eq [(.var 2),(.cst (.int (0)))]) (.op .eq [(.call 71 [(.var 0),(.cst (.int (31))),(.cst (.int (8)))]),(.cst (.int (5)))]))=.ok (99,.bl (decide (M=0)||decide (v1=5))):=fun fr e=>by
   subst e;by_cases h:M=0
   ·simp[h,D.eq]
   ·simp[h,D.eq,P.d.f71,dS,q1]
  cases hb:(decide (M=0)||decide (v1=5)) with
  | false=>
   rw[hb] at cd;exact Ou.iffN (j:=99) (cd _ rfl) (Ou.low (.of_eq rfl) (fin a w (.int v) ha hw rfl rfl))
  | true=>
   rw[hb] at cd;refine Ou.iffT (j:=99) (cd _ rfl) ?_;obtain⟨v2,j2,q2,h20,h21⟩:=mx 32 5 (by decide) (by decide);obtain⟨b,ix,hm⟩:=nO (ds:=[.int M,.int (-1),.bl true,.non,.str "0"]) h20 (by simpa using h21);refine Ou.set (x:=(0,b)) (by simp[-aF,P.d.f71,dS,q2,ix]) (Ou.nil ?_);refine Ou.low (.of_eq rfl) (fin a w b ha hw ?_ ?_)
   ·simp at hm; rcases hm with rfl | rfl | rfl | rfl | rfl <;> rfl
   ·simp at hm; rcases hm with rfl | rfl | rfl | rfl | rfl <;> first | rfl | exact s0
 have f2:∀(a:D),a.scal=true->Ou G (run G (n+1)) [] [some (0,.int c),some (0,.int m),some (0,.int M),some (0,a),none,none] (jY.body.drop 2) (fun _=>False) (fun d=>∃a w b,d=.tup [a,w,b]/\a.scal=true/\w.scal=true/\b.scal=true/\b.pur 59=true) fun _ _ _=>False:=fun a ha=>by
  obtain⟨v,j,q,h0,h1⟩:=mx 27 2 (by decide) (by decide);obtain⟨w,ix,hm⟩:=nO (ds:=[.str "on",.str "off"]) h0 (by simpa using h1);have hw:w.scal=true:=by simp at hm; rcases hm with rfl | rfl <;> rfl
  refine Ou.set (x:=(0,w)) (by simp[-aF,P.d.f71,dS,q,ix]) ?_;obtain⟨v1,j1,q1,_,_⟩:=mx 28 10 (by decide) (by decide);by_cases h:v1=7
  ·subst h;refine Ou.iffT (j:=99) (by simp[P.d.f71,dS,q1,D.eq]) ?_;obtain⟨v2,j2,q2,h20,h21⟩:=mx 29 5 (by decide) (by decide);obtain⟨w',ix',hm'⟩:=nO (ds:=[.str "",.str "On",.str "of",.str "onoff",.non]) h20 (by simpa using h21);refine Ou.set (x:=(0,w')) (by simp[-aF,P.d.f71,dS,q2,ix']) (Ou.nil ?_);exact Ou.low (.of_eq rfl) (f3 a w' ha (by simp at hm'; rcases hm' with rfl | rfl | rfl | rfl | rfl <;> rfl))
  ·exact Ou.iffN (j:=99) (by simp[P.d.f71,dS,q1,D.eq,h]) (Ou.low (.of_eq rfl) (f3 a w ha hw))
 have key:Ou G (run G (n+1)) [] [some (0,.int c),some (0,.int m),some (0,.int M),none,none,none] jY.body (fun _=>False) (fun d=>∃a w b,d=.tup [a,w,b]/\a.scal=true/\w.scal=true/\b.scal=true/\b.pur 59=true) fun _ _ _=>False:=by
  obtain⟨v,j,q,h0,h1⟩:=mx 24 m (by omega) (by decide);refine Ou.set (x:=(j,.int v)) (by simp[P.d.f71,dS,q]) ?_;obtain⟨v1,j1,q1,_,_⟩:=mx 25 8 (by decide) (by decide);by_cases h:v1=3
  ·subst h;refine Ou.iffT (j:=99) (by simp[P.d.f71,dS,q1,D.eq]) ?_;obtain⟨v2,j2,q2,h20,h21⟩:=mx 26 4 (by decide) (by decide);obtain⟨a,ix,hm⟩:=nO (ds:=[.int (-1),.int m,.bl true,.non]) h20 (by simpa using h21);refine Ou.set (x:=(0,a)) (by simp[-aF,P.d.f71,dS,q2,ix]) (Ou.nil ?_);exact Ou.low (.of_eq rfl) (f2 a (by simp at hm; rcases hm with rfl | rfl | rfl | rfl <;> rfl))
  ·exact Ou.iffN (j:=99) (by simp[P.d.f71,dS,q1,D.eq,h]) (Ou.low (.of_eq rfl) (f2 (.int v) rfl))
 obtain⟨j,d,e,a,w,b,rfl,h⟩:=Ou.run (n:=n+1) (vs:=[(k,.int c),(k',.int m),(k'',.int M)]) (V:=fun d=>∃a w b,d=.tup [a,w,b]/\a.scal=true/\w.scal=true/\b.scal=true/\b.pur 59=true) P.f121 rfl rfl (key.mono (fun _ h=>h.elim) (fun _ h=>h) fun _ _ _ h=>h);exact⟨j,a,w,b,e,h⟩
end Ip
end
section
namespace Ip
open PySem (Str)
section
variable {G:Pg}(P:P2 G)
include P
theorem oR:aW G 17 2=some (18,kI,.ins 17 []):=by
 simp[aW,P.p.v.a.c17,P.p.v.a.f18,kI]
set_option maxHeartbeats 400000 in
theorem D5 (n k:Nat)(ns:List Int)(hl:ns.length<=63):∃kk,run G (n+11) 69 [(k,.lst (ns.map .int))]=.ret kk (.bl true) []:=by
 obtain⟨d1,q1⟩:=nL P.d (n+9) 0 99 ns 0;obtain⟨p,ep,hp⟩:∃p:Nat,1+ns.getD 0 0 % 6=(p:Int)/\1<=p/\p<=6:=by
  have h1:=Int.emod_nonneg (ns.getD 0 0) (b:=6) (by decide);have h2:=Int.emod_lt_of_pos (ns.getD 0 0) (b:=6) (by decide);exact⟨(1+ns.getD 0 0 % 6).toNat,by omega,by omega,by omega⟩
 obtain⟨jc,cs,qc,hm,ok⟩:=yY P.d (n+8) 0 0 ns p hp;obtain⟨d8,q8⟩:=nL P.d (n+9) 0 99 ns 8;obtain⟨m,em,hk⟩:∃m:Nat,1+ns.getD 8 0 % 3=(m:Int)/\1<=m/\m<=3:=by
  have h1:=Int.emod_nonneg (ns.getD 8 0) (b:=3) (by decide);have h2:=Int.emod_lt_of_pos (ns.getD 8 0) (b:=3) (by decide);exact⟨(1+ns.getD 8 0 % 3).toNat,by omega,by omega,by omega⟩
 have q1':run G (n+10) 98 [(0,.lst (ns.map .int)),(99,.int 0)]=.ret d1 (.int (ns.getD 0 0)) []:=q1;have q8':run G (n+10) 98 [(0,.lst (ns.map .int)),(99,.int 8)]=.ret d8 (.int (ns.getD 8 0)) []:=q8;clear q1 q8;generalize ns.getD 0 0=c0 at q1' ep;generalize ns.getD 8 0=c8 at q8' em;have hCS:cs.length<=SL:=br hm (by decide);have hcv:al cs=.lst (cs.map fun c=>D.lst (c.map .int)):=rfl;have c5:aC (compF G (run G (n+10)) [none,none] (.one 1) [] (.op .list [.var 1])) (cs.map fun c=>D.lst (c.map .int))=.ok (cs.map fun c=>(1,.lst (c.map .int))):=
  lj fun c _=>by simp[compF]
 have qw:∀k,run G (n+10) 18 [(1,.ins 17 []),(0,.int p),(k,al cs)]=.ret 99 .non [(100,wd p cs)]:=fun k=>BD P.p.v.a (n+6) 0 k p cs (by omega) hm (fun c hc=>(ok c hc).gd) fun c hc=>br (ok c hc).ln (by decide);obtain⟨f1,f2⟩:=wX cs hp (m:=m) (by omega);have C:=xz hp hm ok;clear ok;have sF:Sg cs (List.replicate m []):=⟨by simp,by simp⟩
 have lF:(List.replicate m ([]:List Nat)).length=m:=by simp
 generalize List.replicate m ([]:List Nat)=F at f2 sF lF;have cut1:cutD (ns.map D.int) (some 9) (some 63)=(cutD ns (some 9) (some 63)).map .int:=yX _ _ _ _;have hcl:(cutD ns (some 9) (some 63)).length<=54:=by
  simp only[cutD,cQ];simp;omega
 generalize cutD ns (some 9) (some 63)=cells at cut1 hcl;have hlen:gj (fun xs=>some (99,D.int xs.length)) (al cs)=some (99,.int cs.length):=by simp[al]
 have hlenF:gj (fun xs=>some (99,D.int xs.length)) (ai p cs F)=some (99,.int m):=by simp[ai,lF]
 have fF:(ai p cs F).flat=true:=BG 0 p cs F;have h100:1000<=SL:=by decide
 have key:Ou G (run G (n+10)) [] [some (0,.lst (ns.map .int)),none,none,none,none,none,none,none,none,none,none,none] nB.body (fun _=>False) (fun d=>d=.bl true) fun _ _ _=>False:=by
  refine Ou.set (x:=(99,.int p)) (by simp[P.d.f98,ig,q1',ep]) ?_;refine Ou.set (x:=(jc,al cs)) (by simp[P.d.f99,nY,qc]) ?_;refine Ou.setE (d:=wd p cs) (by simp[hcv,hCS,c5,oR P,kI,Function.comp_def]; rw[<-hcv]; simp[qw]) ?_;refine Ou.low (a':=[some (0,.lst (ns.map .int)),some (0,.int p),some (0,al cs),some (0,wd p cs),none,none,none,none,none,none,none,none]) (.of_eq (by simp)) ?_;refine Ou.set (x:=(0,ai p cs F)) (by simp[-d5,f1,P.d.f98,ig,q8',em,f2]) ?_;refine Ou.set (x:=(0,ai p cs F)) (by simp) ?_;refine Ou.setK (x:=(99,.lst [])) (by simp) (by simp) ?_;refine Ou.low (a':=[some (0,.lst (ns.map .int)),some (0,.int p),some (0,al cs),some (0,wd p cs),some (0,ai p cs F),some (0,ai p cs F),some (99,.lst []),none,none,none,none,none]) (.of_eq (by simp)) ?_;refine Ou.low (a':=[some (0,.lst (ns.map .int)),some (0,.int p),some (0,al cs),some (0,wd p cs),some (0,ai p cs F),some (0,ai p cs F),some (1,.lst []),none,none,none,none,none]) (.cons (.refl _) (.cons (.refl _) (.cons (.refl _) (.cons (.refl _) (.cons (.refl _) (.cons (.refl _) (.cons ⟨rfl,by decide⟩ (.refl _)))))))) ?_;refine Ou.fo (fun r a=>∃(x7 x8 x9 x10 x11:Option KD) (Z:List (List Nat)) (ds:List D) (rest:List Int),a=[some (0,.lst (ns.map .int)),some (0,.int p),some (0,al cs),some (0,wd p cs),some (0,ai p cs F),some (0,ai p cs Z),some (1,.lst ds),x7,x8,x9,x10,x11]/\r=rest.map .int/\Sg cs Z/\Z.length=m/\Walk cs ds F Z/\ds.length+rest.length<=54/\ds.all D.flat=true) (vs:=[(1,.lst (cells.map .int))]) (xs:=cells.map .int) (by simp[cut1]) (by simp) (by simp; omega) ?_ ?_ ?_
  ·exact⟨none,none,none,none,none,F,[],cells,by simp,rfl,sF,lF,rfl,by simpa using hcl,rfl⟩
  ·rintro x r a ⟨x7,x8,x9,x10,x11,Z,ds,rest,ha,hr,sZ,lZ,wZ,hL,hds⟩;cases rest with
   | nil=>simp at hr
   | cons c rest=>
    simp only[List.map_cons,List.cons.injEq] at hr;obtain⟨rfl,rfl⟩:=hr;subst ha;simp only[List.length_cons] at hL;have l3:Z.length<=3:=by omega
    refine⟨_,fP rfl,?_⟩;obtain⟨jd,a,w,b,qd,ha,hw,hb,hbp⟩:=DS P (n+8) 0 99 99 c m cs.length hk.1;have nx:∀(Z:List (List Nat)) (ds:List D) (x8 x9 x10 x11:Option KD),Sg cs Z->Z.length=m->Walk cs ds F Z->ds.length+rest.length<=54->ds.all D.flat=true->∀a,a=[some (0,.lst (ns.map .int)),some (0,.int p),some (0,al cs),some (0,wd p cs),some (0,ai p cs F),some (0,ai p cs Z),some (1,.lst ds),some (0,.int c),x8,x9,x10,x11]->∃(x7 x8 x9 x10 x11:Option KD) (Z:List (List Nat)) (ds:List D) (rest':List Int),a=[some (0,.lst (ns.map .int)),some (0,.int p),some (0,al cs),some (0,wd p cs),some (0,ai p cs F),some (0,ai p cs Z),some (1,.lst ds),x7,x8,x9,x10,x11]/\rest.map D.int=rest'.map .int/\Sg cs Z/\Z.length=m/\Walk cs ds F Z/\ds.length+rest'.length<=54/\ds.all D.flat=true:=
     fun Z ds x8 x9 x10 x11 h1 h2 h3 h4 h5 a ea=>⟨some (0,.int c),x8,x9,x10,x11,Z,ds,rest,ea,rfl,h1,h2,h3,h4,h5⟩
    refine Ou.set (x:=(jd,.tup [a,w,b])) (by
     generalize ai p cs F=T at hlenF;generalize al cs=K at hlen;simp[-gj,hlen,hlenF,P.f121,jY,qd]) ?_
    have any:=BW C sZ ha hw hb hbp;generalize D.tup [a,w,b]=d at any;refine Ou.low (a':=[some (0,.lst (ns.map .int)),some (0,.int p),some (0,al cs),some (0,wd p cs),some (0,ai p cs F),some (0,ai p cs Z),some (1,.lst ds),some (0,.int c),some (0,d),x9,x10,x11]) (.of_eq (by simp)) ?_;rcases any with ⟨due,cx,fs,hR⟩ | ⟨Z',hD⟩
    ·obtain⟨ffl,dfl,hc⟩:=hR.flat;obtain⟨ju,qu⟩:=AN P (n+8) 0 0 0 p cs Z d due cx fs C sZ l3 hR;have qa:=fun k''=>uu P n 0 0 k'' p cs (ai p cs Z) d [d] cx fs hc (.inl ⟨rfl,vL P (n+1) 0 0 0 p cs Z d due cx fs C sZ l3 hR⟩);obtain⟨jr,qr⟩:=xT P (n+8) 0 0 cs Z d due cx fs hR;have hN:dJ false due=fB false:=by obtain⟨_,rfl,_⟩:=hR.due; rfl
     refine Ou.set (x:=(ju,due)) (by simp[P.f82,gX,qu]) ?_;refine Ou.setT (j:=1) (ds:=[.non,.exc cx fs]) (by simp[P.f114,iz,qa]) ?_;refine Ou.low (a':=[some (0,.lst (ns.map .int)),some (0,.int p),some (0,al cs),some (0,wd p cs),some (0,ai p cs F),some (0,ai p cs Z),some (1,.lst ds),some (0,.int c),some (0,d),some (0,due),some (0,.non),some (0,.exc cx fs)]) (.of_eq (by simp[bP,frz,frz1])) ?_;refine Ou.iffF (j:=99) (by simp[-dJ,hN]) ?_;refine Ou.iffF (j:=99) (by simp[P.f76,lg,qr]) ?_;have done:Ou G (run G (n+10)) [] [some (0,.lst (ns.map .int)),some (0,.int p),some (0,al cs),some (0,wd p cs),some (0,ai p cs F),some (0,ai p cs Z),some (1,.lst ds),some (0,.int c),some (0,d),some (0,due),some (0,.non),some (0,.exc cx fs)] [] (fun a=>∃(x7 x8 x9 x10 x11:Option KD) (Z:List (List Nat)) (ds:List D) (rest':List Int),a=[some (0,.lst (ns.map .int)),some (0,.int p),some (0,al cs),some (0,wd p cs),some (0,ai p cs F),some (0,ai p cs Z),some (1,.lst ds),x7,x8,x9,x10,x11]/\rest.map D.int=rest'.map .int/\Sg cs Z/\Z.length=m/\Walk cs ds F Z/\ds.length+rest'.length<=54/\ds.all D.flat=true) (fun d=>d=.bl true) fun _ _ _=>False:=
      Ou.nil (nx Z ds _ _ _ _ sZ lZ wZ (by omega) hds _ rfl)
     by_cases h0:ds.length=0
     ·exact Ou.iffN (j:=99) (by simp[List.length_eq_zero_iff.mp h0]) (Ou.nil (Ou.nil done))
     ·refine Ou.iffT (j:=99) (by simp; omega) ?_;have ad:=mz (xs:=ds) (ys:=[d,d]) (by omega) (by simp);have qb:=fun k''=>uu P n 0 0 k'' p cs (ai p cs F) d (ds++[d,d]) cx fs hc (.inr ⟨by simp,AJ P n 0 0 0 p cs F Z ds d due cx fs C sF (by omega) (by omega) wZ hR⟩);refine Ou.setTL (j:=1) (ds:=[.non,.exc cx fs]) (by simp[-bK,ad,P.f114,iz,qb]) (by simp[-List.all_eq_true,eO,ffl]) ?_ ?_
      ·have h3:cY [some (0,.lst (ns.map .int)),some (0,.int p),some (0,al cs),some (0,wd p cs),some (0,ai p cs F),some (0,ai p cs Z),some (1,.lst ds),some (0,.int c),some (0,d),some (0,due),some (0,.non),some (0,.exc cx fs)] 3=true:=CT p cs;have h4:cY [some (0,.lst (ns.map .int)),some (0,.int p),some (0,al cs),some (0,wd p cs),some (0,ai p cs F),some (0,ai p cs Z),some (1,.lst ds),some (0,.int c),some (0,d),some (0,due),some (0,.non),some (0,.exc cx fs)] 4=true:=rL fF;have h6:cY [some (0,.lst (ns.map .int)),some (0,.int p),some (0,al cs),some (0,wd p cs),some (0,ai p cs F),some (0,ai p cs Z),some (1,.lst ds),some (0,.int c),some (0,d),some (0,due),some (0,.non),some (0,.exc cx fs)] 6=true:=hds;have h8:cY [some (0,.lst (ns.map .int)),some (0,.int p),some (0,al cs),some (0,wd p cs),some (0,ai p cs F),some (0,ai p cs Z),some (1,.lst ds),some (0,.int c),some (0,d),some (0,due),some (0,.non),some (0,.exc cx fs)] 8=true:=rL dfl;simp[h3,h4,h6,h8]
      ·refine Ou.low (a':=[some (0,.lst (ns.map .int)),some (0,.int p),some (0,al cs),some (0,wd p cs),some (0,ai p cs F),some (0,ai p cs Z),some (1,.lst ds),some (0,.int c),some (0,d),some (0,due),some (0,.non),some (0,.exc cx fs)]) (.of_eq (by simp[bP])) ?_;exact Ou.iffN (j:=99) (by simp[P.f76,lg,qr]) (Ou.nil (Ou.nil (Ou.nil done)))
    ·obtain⟨sZ',lZ'⟩:=hD.good sZ;obtain⟨ju,qu⟩:=EI P (n+8) 0 0 0 p cs Z Z' d C sZ l3 hD;obtain⟨j43,q43⟩:=ji P (n+1) 0 0 0 p cs Z Z' d C sZ l3 hD;have qa:=fun k''=>Ed P n 0 0 k'' 0 j43 p cs (ai p cs Z) d [d] (ai p cs Z') (.inl ⟨rfl,q43⟩);obtain⟨jm,qm⟩:=Dc P (n+9) 0 0 0 p cs Z Z' d C sZ l3 hD;have es:=kA 60 _ (nN p cs Z');have ps:=nN p cs Z';refine Ou.set (x:=(ju,.non)) (by simp[P.f82,gX,qu]) ?_;obtain⟨ja,qa⟩:=qa (aE [(0,d)]+1);refine Ou.setT (j:=ja) (ds:=[ai p cs Z',.non]) (by simp[-lU,P.f114,iz,qa]) ?_;refine Ou.low (a':=[some (0,.lst (ns.map .int)),some (0,.int p),some (0,al cs),some (0,wd p cs),some (0,ai p cs F),some (0,ai p cs Z),some (1,.lst ds),some (0,.int c),some (0,d),some (0,.non),some (0,ai p cs Z'),some (0,.non)]) (.of_eq (by simp[bP,frz,frz1])) ?_;refine Ou.iffT (j:=99) (by simp) ?_;refine Ou.set (x:=(jm,ai p cs Z')) (by simp[P.f117,nW,qm]) ?_;refine Ou.append (k:=0) (xs:=ds) (v:=(0,d)) (by simp[frz,frz1]) (by simp) (by omega) ?_;refine Ou.low (a':=[some (0,.lst (ns.map .int)),some (0,.int p),some (0,al cs),some (0,wd p cs),some (0,ai p cs F),some (0,ai p cs Z'),some (1,.lst (ds++[d])),some (0,.int c),some (0,d),some (0,.non),some (0,ai p cs Z'),some (0,.non)]) (.of_eq (by simp[frz,frz1])) ?_;refine Ou.iffN (j:=99) (by generalize ai p cs Z'=T at es ps ⊢; simp[es,ps]) (Ou.nil (Ou.nil ?_));exact nx Z' (ds++[d]) _ _ _ _ sZ' (by omega) (wZ.snoc hD) (by simp; omega) (by rw[List.all_append,hds]; simp[hD.flat]) _ rfl
  ·rintro a ⟨x7,x8,x9,x10,x11,Z,ds,rest,ha,hr,sZ,lZ,wZ,hL,hds⟩;subst ha;obtain⟨j44,q44⟩:=Ey P (n+1) 0 0 0 p cs F Z ds C sF (by omega) (by omega) wZ;have es:=kA 60 _ (nN p cs Z);have ps:=nN p cs Z;generalize ai p cs Z=T at q44 es ps;exact Ou.ret (x:=(99,.bl true)) (by simp[P.f44,kO,q44,es,ps]) rfl
 obtain⟨j,d,e,rfl⟩:=Ou.run (n:=n+10) (vs:=[(k,.lst (ns.map .int))]) (V:=fun d=>d=.bl true) P.f69 rfl rfl (key.mono (fun _ h=>h.elim) (fun _ h=>h) fun _ _ _ h=>h);exact⟨j,e⟩
end
noncomputable def Run.dat:Run->Option D
 | .ret _ d []=>some d
 | _=>none
theorem Run.of_dat:∀{r:Run} {d:D},r.dat=some d->∃j,r=.ret j d []
 | .ret j _ [],_,h=>⟨j,by cases h; rfl⟩
 | .ret _ _ (_::_),_,h=>by cases h
 | .exc _ _ _,_,h=>by cases h
 | .bad,_,h=>by cases h
theorem jH (h:Rf cs Z d due c fs):∃j,run G_k22 (n+1) 78 [(k,.exc c fs)]=.ret j due []:=by
 cases h <;> exact Run.of_dat (by kernel_rfl)
theorem yl:P2 G_k22:=⟨⟨⟨⟨rfl,rfl,rfl,rfl,rfl,rfl,rfl,rfl,rfl,rfl,rfl,rfl⟩,rfl,rfl,rfl,rfl⟩,rfl,rfl,rfl⟩,⟨rfl,rfl,rfl⟩,rfl,rfl,rfl,rfl,rfl,rfl,rfl,rfl,rfl,rfl,rfl,rfl,rfl,rfl,rfl,rfl,rfl,rfl,jH⟩
theorem xk (ns:List Int)(hl:ns.length<=63):∃kk,run G_k22 11 69 [(0,.lst (ns.map .int))]=.ret kk (.bl true) []:=D5 yl 0 0 ns hl
end Ip
end
section
namespace Ek22
open PySem PySem.Spec PyProof.Rows L2
noncomputable abbrev Pw:=PySem.Challenge.pw_quickchange_k22_deeds_refused
noncomputable def sT (n:Nat):Stmt:=Pw.main.body.getD n (.Pass ⟨0,0,0,0⟩)
noncomputable def Bx:Stmt:=sT 5
noncomputable def ny:Hd.Fd:=⟨"copied", "copied",2,41,Bx,some (36,.int 0 213)⟩
theorem DZ {W:Wd}(h:Hd.qD W.K ny=Hd.aD ny):DefAt W Ip.T_k22 Ip.lY ny.f:=Hd.BC (ps:=["value", "depth"]) (io:=[]) (t:=36) (u:=.int 0 213) (v:=(.int 0)) (dd:=(.int 0)) h rfl (Hd.oK (by kernel_rfl)) (by kernel_rfl) rfl rfl ⟨_,rfl⟩ (fun _=>.int) (fun _ _ _ _ _ _ _ _ _ _ lt s us KX hl=>by
 obtain⟨_,_,rfl⟩:=jj (show us.length=2 by simpa using hl);first | exact .of_eq rfl | exact .of_defaults rfl (KX _ _ lt) rfl rfl rfl) (fun _ _ _ _ _ _ _ _ _ _ lt s us KX hl=>by
 obtain⟨_,rfl⟩:=jx (show us.length=1 by simpa using hl);exact .of_defaults rfl (KX _ _ lt) rfl rfl rfl)
noncomputable def mq:Stmt:=sT 48
noncomputable def uZ:Hd.Fd:=⟨"law", "law",69,409,mq,none⟩
theorem z8:FnScope (Ip.d9 (aj mq) (bA mq)) ["_law_script"] (bA mq):=(Hd.oK (by kernel_rfl))
theorem Af:Ip.cF Ip.T_k22 [] mq=some Ip.nB:=by kernel_rfl
end Ek22
end
section
namespace Ek22
open PySem PySem.Spec PySem.W PySem.Calls PyProof.Rows L2 Hd
set_option maxHeartbeats 0
noncomputable def B:Tl:=⟨[⟨"is_whole", "is_whole",0,28,sT 3,none⟩,⟨"is_below", "is_below",1,35,sT 4,none⟩,ny,⟨"is_rising", "is_rising",15,205,sT 19,none⟩,⟨"are_places", "are_places",16,210,sT 20,none⟩,⟨"check_garment", "check_garment",17,217,sT 21,none⟩,⟨"worn_in", "worn_in",24,271,sT 24,none⟩,⟨"put_on", "put_on",25,278,sT 25,none⟩,⟨"right_over", "right_over",26,285,sT 26,none⟩,⟨"take_off", "take_off",27,292,sT 27,none⟩,⟨"wearer", "wearer",41,300,sT 30,none⟩,⟨"check_free", "check_free",42,307,sT 31,none⟩,⟨"deed_done", "deed_done",43,314,sT 32,none⟩,⟨"deeds_done", "deeds_done",44,321,sT 33,none⟩,⟨"_law_cell", "_law_cell",98,328,sT 35,none⟩,⟨"_law_mix", "_law_mix",71,335,sT 36,none⟩,⟨"_law_covers", "_law_covers",99,340,sT 37,none⟩,⟨"_law_wears", "_law_wears",115,345,sT 38,none⟩,⟨"_law_moved", "_law_moved",117,357,sT 40,none⟩,⟨"_law_any_deed", "_law_any_deed",121,371,sT 42,none⟩,⟨"_law_number", "_law_number",122,378,sT 43,none⟩,⟨"_law_due", "_law_due",82,385,sT 44,none⟩,⟨"_law_told", "_law_told",78,392,sT 45,none⟩,⟨"_law_refused", "_law_refused",76,397,sT 46,none⟩,⟨"_law_asked", "_law_asked",114,404,sT 47,none⟩,uZ],[⟨"Wardrobe",17,260,⟨"__init__", "Wardrobe.__init__",18,229,bI (sT 22) 0,none⟩⟩],[⟨"NoGarment",2,91,[51],⟨"__init__", "NoGarment.__init__",4,88,bI (sT 9) 0,none⟩⟩,⟨"Worn",3,110,[51],⟨"__init__", "Worn.__init__",5,107,bI (sT 10) 0,none⟩⟩,⟨"NotWorn",4,129,[51],⟨"__init__", "NotWorn.__init__",6,126,bI (sT 11) 0,none⟩⟩,⟨"Covered",5,148,[51],⟨"__init__", "Covered.__init__",7,145,bI (sT 12) 0,none⟩⟩],[("WardrobeError",0,51),("TooMuch",1,72),("NoLook",6,167),("NoDeed",7,179),("Crossed",8,198)],[(260,⟨"many", "Wardrobe.many",20,243,bI (sT 22) 2,none⟩),(260,⟨"covers", "Wardrobe.covers",21,250,bI (sT 22) 3,none⟩)],51,[("DEEPEST",100,196),("MOST_PLACES",6,441),("MOST_GARMENTS",6,443)],[("WORDS",293,[("on",573),("off",574)])],[("NoDeed",7,179,[51])]⟩
noncomputable def kJ:List Str:=mQ Ip.T_k22.fl Ip.T_k22.att
theorem facts {w:World}{K:Frag}{mg:Str->Option Value}{fa:Addr}{h:Heap}(hq:B.q kJ K=B.a kJ Ip.G_k22)(KX:K.In h)(Gl:h.Ns mainGlobals mg)(hmg:mg "law" = some (.ref fa)) :
  ∃fd:FuncData,(∀(s:Shared) (u:Value),BindsTo s fd ⟨[u],[]⟩ [("_law_script",u)])/\∀base:Heap,K.In base->base.Ns mainGlobals mg->FnOk Pw w K mg base (cX Pw w) (rm 11) fa fd ["_law_script"] (fj K):=by
 have A:=By hq;obtain⟨g0,gt⟩:=yD (T:=Ip.T_k22) (cw:=0) Ip.clL_k22 KX Gl A (fun _=>rfl) rfl (by decide +kernel) (by decide +kernel) rfl (by decide +kernel) (by decide +kernel)
  (Cn ⟨_,rfl,fun h=>Hd.bZ (ps:=["value"]) (io:=[]) h⟩ <| Cn ⟨_,rfl,fun h=>Hd.bZ (ps:=["value", "bound"]) (io:=[]) h⟩ <| Cn ⟨_,rfl,DZ⟩ <| Cn ⟨_,rfl,fun h=>Hd.bZ (ps:=["numbers"]) (io:=[]) h⟩ <| Cn ⟨_,rfl,fun h=>Hd.bZ (ps:=["told", "spots"]) (io:=[]) h⟩ <| Cn ⟨_,rfl,fun h=>Hd.bZ (ps:=["wardrobe", "garment"]) (io:=[]) h⟩ <| Cn ⟨_,rfl,fun h=>Hd.bZ (ps:=["wearing"]) (io:=[]) h⟩ <| Cn ⟨_,rfl,fun h=>Hd.bZ (ps:=["wardrobe", "wearing", "garment"]) (io:=[]) h⟩ <| Cn ⟨_,rfl,fun h=>Hd.bZ (ps:=["wardrobe", "wearing", "garment"]) (io:=[]) h⟩ <| Cn ⟨_,rfl,fun h=>Hd.bZ (ps:=["wardrobe", "wearing", "garment"]) (io:=[]) h⟩ <| Cn ⟨_,rfl,fun h=>Hd.bZ (ps:=["standing", "garment"]) (io:=[]) h⟩ <| Cn ⟨_,rfl,fun h=>Hd.bZ (ps:=["wardrobe", "standing", "garment"]) (io:=[]) h⟩ <| Cn ⟨_,rfl,fun h=>Hd.bZ (ps:=["wardrobe", "standing", "deed"]) (io:=[]) h⟩ <| Cn ⟨_,rfl,fun h=>Hd.bZ (ps:=["wardrobe", "standing", "deeds"]) (io:=[]) h⟩ <| Cn ⟨_,rfl,fun h=>Hd.bZ (ps:=["_law_script", "_law_k"]) (io:=[]) h⟩ <| Cn ⟨_,rfl,fun h=>Hd.bZ (ps:=["_law_cell_here", "_law_salt", "_law_many"]) (io:=[]) h⟩ <| Cn ⟨_,rfl,fun h=>Hd.bZ (ps:=["_law_script", "_law_places"]) (io:=[]) h⟩ <| Cn ⟨_,rfl,fun h=>Hd.bZ (ps:=["_law_standing", "_law_garment"]) (io:=[]) h⟩ <| Cn ⟨_,rfl,fun h=>Hd.bZ (ps:=["_law_standing", "_law_deed_here", "_law_covers_here"]) (io:=[]) h⟩ <| Cn ⟨_,rfl,fun h=>Hd.bZ (ps:=["_law_cell_here", "_law_players", "_law_many"]) (io:=[]) h⟩ <| Cn ⟨_,rfl,fun h=>Hd.bZ (ps:=["_law_thing", "_law_many"]) (io:=[]) h⟩ <| Cn ⟨_,rfl,fun h=>Hd.bZ (ps:=["_law_standing", "_law_deed_here", "_law_covers_here"]) (io:=[]) h⟩ <| Cn ⟨_,rfl,fun h=>Hd.bZ (ps:=["_law_kept"]) (io:=[]) h⟩ <| Cn ⟨_,rfl,fun h=>Hd.bZ (ps:=["_law_kept", "_law_due_here"]) (io:=[]) h⟩ <| Cn ⟨_,rfl,fun h=>Hd.bZ (ps:=["_law_wardrobe", "_law_standing", "_law_deeds"]) (io:=[]) h⟩ <| Cn ⟨_,rfl,fun h=>Hd.bZ (ps:=["_law_script"]) (io:=[]) h⟩ <| Nl)
  (Cn ⟨⟨_,rfl,fun h=>Hd.bZ (ps:=["self", "places", "covers"]) (io:=[0]) h⟩,rfl,_,rfl,rfl,rfl⟩ <| Nl)
  (Cn ⟨⟨_,rfl,fun h=>Hd.bZ (ps:=["self", "garment"]) (io:=[0]) h⟩,rfl,_,rfl,rfl,rfl⟩ <| Cn ⟨⟨_,rfl,fun h=>Hd.bZ (ps:=["self", "garment"]) (io:=[0]) h⟩,rfl,_,rfl,rfl,rfl⟩ <| Cn ⟨⟨_,rfl,fun h=>Hd.bZ (ps:=["self", "garment"]) (io:=[0]) h⟩,rfl,_,rfl,rfl,rfl⟩ <| Cn ⟨⟨_,rfl,fun h=>Hd.bZ (ps:=["self", "garment", "over"]) (io:=[0]) h⟩,rfl,_,rfl,rfl,rfl⟩ <| Nl)
  (Cn ⟨_,rfl,rfl⟩ <| Cn ⟨_,rfl,rfl⟩ <| Cn ⟨_,rfl,rfl⟩ <| Cn ⟨_,rfl,rfl⟩ <| Cn ⟨_,rfl,rfl⟩ <| Nl)
  (Cn ⟨_,rfl,fun h=>Hd.bZ (ps:=["self"]) (io:=[]) h⟩ <| Cn ⟨_,rfl,fun h=>Hd.bZ (ps:=["self", "garment"]) (io:=[]) h⟩ <| Nl) (by decide +kernel) (by simp[B,Ip.T_k22]) (by decide +kernel) rfl (by decide +kernel)
 obtain⟨a1,_,a3⟩:=A.f uZ (by simp[B]);have e:=hmg.symm.trans (mg_of KX Gl a1);cases e;exact Ba (n:=11) g0 gt A.l rfl rfl (uf (Prod.mk.inj a3).1) z8 Af rfl (fun _ _ _ _ _ _ _=>rfl) Ip.xk
noncomputable def T0 (P:Params):BT:=(.node (boot_o_0 P) (.node (boot_o_1 P) (.node (boot_o_3 P) (.node (boot_o_7 P) .nil .nil) .nil) (.node (boot_o_5 P) (.node (boot_o_9 P) .nil .nil) .nil)) (.node (boot_o_2 P) (.node (boot_o_4 P) (.node (boot_o_8 P) .nil .nil) .nil) (.node (boot_o_6 P) (.node (boot_o_10 P) .nil .nil) .nil)))
noncomputable def rM:List Addr:=[2,3,15,17,18,20,21,22,24,25,27,28,29,31,32,34,35,36,37,40,41,42,49,50,51,52,55,62,63,65,66,68,69,70,71,72,75,82,84,85,87,88,89,90,91,94,101,103,104,106,107,108,109,110,113,120,122,123,125,126,127,128,129,132,139,141,142,144,145,146,147,148,151,158,160,161,163,164,165,166,167,170,177,178,179,182,189,191,192,194,195,196,197,198,201,204,205,206,209,210,211,213,214,216,217,225,228,229,230,232,233,235,236,237,239,240,242,243,244,246,247,249,250,251,253,254,256,257,258,259,260,261,262,265,267,268,270,271,272,274,275,277,278,279,281,282,284,285,286,288,289,291,292,293,294,296,297,299,300,301,303,304,306,307,308,310,311,313,314,315,317,318,320,321,322,324,325,327,328,329,331,332,334,335,336,339,340,341,344,345,351,353,354,356,357,365,367,368,370,371,372,374,375,377,378,379,381,382,384,385,386,388,389,391,392,393,396,397,398,400,401,403,404,405,408,409]
noncomputable def looseL:List Str:=(["_wall", "DEEPEST", "is_whole", "is_below", "copied", "WardrobeError", "TooMuch", "NoGarment", "Worn", "NotWorn", "Covered", "NoLook", "NoDeed", "Crossed", "MOST_PLACES", "MOST_GARMENTS", "is_rising", "are_places", "check_garment", "Wardrobe", "worn_in", "put_on", "right_over", "take_off", "WORDS", "wearer", "check_free", "deed_done", "deeds_done", "_law_cell", "_law_mix", "_law_covers", "_law_wears", "_law_deed", "_law_moved", "_law_walk", "_law_any_deed", "_law_number", "_law_due", "_law_told", "_law_refused", "_law_asked"]:List String).map Str.ofString
noncomputable abbrev hk:Hook:=iw rM (B.q kJ) (B.a kJ Ip.G_k22)
noncomputable abbrev Xt (s:Shared):Bool:=xlAt (view Pw [48]) [] s&&recOk (PySem.Challenge.rw_quickchange_k22_deeds_refused.row.toRowW).records s
noncomputable def om:Thread:=⟨do let code <-moduleCode Pw.main
                                       let frame <-newBodyFrame code mainNs mainNs
                                       let _ <-run (.body (behindTheImports Pw) { scope:=Pw.main.scope,locals:=mainNs,globals:=mainNs,cells:=[],code,frame:=some frame })
                                       ret .none,
   .builtin "claim.caller" {},default,[]⟩
noncomputable def runAll (w:World)(os:OsState):=(f8 through (stepOk 11 (some (.ref 6))) (stepT (denote treeTable) Pw w) 3527 ⟨T0 w.params,11,(boot_heap w.params).life,Array.mk [],boot_drawn,boot_toks,os⟩ om).map
 (lookG (importedModules Pw.main.body) (staticsOk (importedModules Pw.main.body)) laidKept (namesBound Pw) (openSeen (view Pw [48]) looseL (importedModules Pw.main.body) Xt true) (fun s=>B.q kJ (nF rM s.heap)) (boot_heap w.params))
noncomputable def _root_.PySem.W.Fast.tw14112502823339999401:Program:=PySem.Challenge.pw_quickchange_k22_deeds_refused
theorem _root_.PySem.W.Fast.te14112502823339999401:PySem.Challenge.pw_quickchange_k22_deeds_refused=PySem.W.Fast.tw14112502823339999401:=rfl
noncomputable def dum {α:Type}(_:α):Bool:=true
theorem mk:dum runAll=true:=by k_qdec
theorem t0 (P:Params):absHeap (T0 P) 11 (boot_heap P).life=boot_heap P:=by kernel_rfl
theorem yJ (w:World)(os:OsState):runAll w os=some (true,openGood (view Pw [48]) looseL,B.a kJ Ip.G_k22):=by
 rw[PySem.W.Fast.te7722418742081321403];kernel_rfl
theorem left:LeftO Pw (view Pw [48]) looseL Xt (Hook.obs hk) (Hook.val hk) 3527:=
 wt (T0:=T0) (m₀:=11) (ann:=some (.ref 6)) (life:=fun P=>(boot_heap P).life) (by kernel_rfl) (by decide) (fun s=>rfl) (fun w=>by kernel_rfl) t0 yJ
end Ek22
open PySem PySem.W PyProof.Rows L2 Hd in
set_option maxRecDepth 100000 in
set_option maxHeartbeats 0 in
theorem PySem.Challenge.cw_quickchange_k22_deeds_refused_holds : PySem.Challenge.rw_quickchange_k22_deeds_refused.Holds := by
 w_on; o_law
 refine holds_open (r:=PySem.Challenge.rw_quickchange_k22_deeds_refused.row) (q:=view Ek22.Pw [48]) (loose:=Ek22.looseL) (Xt:=Ek22.Xt) (XP:=XL (view Ek22.Pw [48]) []) (Yf:=Hook.obs Ek22.hk) (Ya:=Hook.val Ek22.hk) (YP:=Hook.says Ek22.hk) (N:=3527) Ek22.left (Hook.of Ek22.hk) (Hook.keeps Ek22.hk) (fun s e=>xl_of s (Bool.and_eq_true_iff.mp e).1) XL.keeps (by rfl) (by rfl) (by rfl) (fun s e=>recFacts_of (Bool.and_eq_true_iff.mp e).2) (by rfl) (by first | assumption | decide +kernel) (by decide +kernel) ⟨rfl,rfl,rfl,rfl,rfl,by decide +kernel⟩ ?hw ?hc
 case hw=>w_witness2
 case hc=>
  refine Aw (l:=PySem.Challenge.rw_quickchange_k22_deeds_refused) (n:=63) (k:=L2.rm 11) (x := "_law_script") (CX:=fun w=>L2.cX PySem.Challenge.pw_quickchange_k22_deeds_refused w) (sp:=fun _ K=>L2.fj K) rfl (by decide) rfl ⟨rfl,by decide,by decide⟩ ?F ?S ?C
  case F=>exact fun w K mg fa h hq KX G hmg=>Ek22.facts hq KX G hmg
  case S=>exact fun w K H a ns hl _ hS=>⟨a,ns,rfl,hS,hl,fun _=>rfl⟩
  case C=>
   rintro w H s e s' ⟨_,_,_,_,_,_,_,_,_,_,_,_,_,_,z⟩;exact z
#print axioms PySem.Challenge.cw_quickchange_k22_deeds_refused_holds
end
