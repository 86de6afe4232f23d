import PyProof.Rows.All
import Wide.All
import OpenK.AllK
import Wide.FinOn
import PyProof.EqAt
import PyProof.EqKinds
import PyProof.TupleCall
import Lean
import PySem.Challenge.RW_surewatch_k56_whole_judges_put_together
set_option Elab.async false
set_option linter.all false
set_option maxRecDepth 100000
section
section
namespace L2
open PySem PySem.Spec PyProof.Rows
inductive D where
 | dg | bl (b:Bool) | int (i:Int) | str (z:Str) | tup (ds:List D) | lst (ds:List D)
mutual
noncomputable def D.same:D->D->Bool
 | .dg,.dg=>true
 | .bl a,.bl b=>a == b
 | .int a,.int b=>a == b
 | .str a,.str b=>decide (a=b)
 | .tup a,.tup b=>D.nq a b
 | .lst a,.lst b=>D.nq a b
 | _,_=>false
noncomputable def D.nq:List D->List D->Bool
 | [],[]=>true
 | a :: as,b :: bs=>D.same a b && D.nq as bs
 | _,_=>false
end
mutual
theorem D.same_refl:∀a:D,D.same a a=true
 | .dg=>rfl
 | .bl _=>by simp[D.same]
 | .int _=>by simp[D.same]
 | .str _=>by simp[D.same]
 | .tup a=>by unfold D.same;exact D.mO a
 | .lst a=>by unfold D.same;exact D.mO a
theorem D.mO:∀a:List D,D.nq a a=true
 | []=>rfl
 | a :: as=>by unfold D.nq;rw[D.same_refl a,D.mO as];rfl
end
mutual
theorem D.same_eq:∀{a b:D},D.same a b=true->a=b
 | .dg,b,h=>by cases b <;> simp[D.same] at h ⊢
 | .bl _,b,h=>by cases b <;> simp[D.same] at h ⊢;exact h
 | .int _,b,h=>by cases b <;> simp[D.same] at h ⊢;exact h
 | .str _,b,h=>by cases b <;> simp[D.same] at h ⊢;exact h
 | .tup a,b,h=>by
  cases b with
  | tup b=>unfold D.same at h;rw[D.p7 h]
  | _=>simp[D.same] at h
 | .lst a,b,h=>by
  cases b with
  | lst b=>unfold D.same at h;rw[D.p7 h]
  | _=>simp[D.same] at h
theorem D.p7:∀{a b:List D},D.nq a b=true->a=b
  | [],b,h=>by cases b <;> simp[D.nq] at h ⊢
  | a :: as, b, h => by
    cases b with
    | nil=>simp[D.nq] at h
    | cons b bs=>
      unfold D.nq at h
      rw[Bool.and_eq_true] at h
      rw[D.same_eq h.1,D.p7 h.2]
end
noncomputable instance:DecidableEq D:=fun a b=>if h:D.same a b=true then isTrue (D.same_eq h) else isFalse fun e=>h (e▸D.same_refl a)
noncomputable def bI (b:Bool):Int:=if b then 1 else 0
mutual
noncomputable def nf:D->D
 | .bl b=>.int (bI b)
 | .tup ds=>.tup (FE ds)
 | d=>d
noncomputable def FE:List D->List D
 | []=>[]
 | d :: ds=>nf d :: FE ds
end
noncomputable def gf:Nat->D->Bool
 | _,.bl _=>true
 | _,.int _=>true
 | _,.str _=>true
 | n+1,.tup ds=>ds.all (gf n)
 | _,_=>false
mutual
theorem yD:∀(d:D) (n:Nat),gf n d=true->gf n (nf d)=true
 | .bl _,n,_=>by cases n <;> rfl
 | .int _,n,_=>by cases n <;> rfl
 | .str _,n,_=>by cases n <;> rfl
 | .dg,n,h=>by cases n <;> exact h
 | .lst _,n,h=>by cases n <;> exact h
 | .tup ds,0,h=>by exact h
 | .tup ds,n+1,h=>uZ ds n h
theorem uZ:∀(ds:List D) (n:Nat),ds.all (gf n)=true->(FE ds).all (gf n)=true
 | [],n,_=>rfl
 | d :: ds,n,h=>by
  rw[List.all_cons,Bool.and_eq_true] at h
  show((nf d :: FE ds).all (gf n))=true
  rw[List.all_cons,yD d n h.1,uZ ds n h.2]
  rfl
end
mutual
inductive rD (h:Heap):Value->D->Prop
 | bool (b:Bool):rD h (.bool b) (.int (bI b))
 | int (i:Int) (t:Tok):rD h (.int i t) (.int i)
 | str (x:Str) (t:Tok):rD h (.str x t) (.str x)
 | tup {a:Addr}{its:List Value}{ds:List D}(p:h.IsTuple a its.toArray) (r:jh h its ds):rD h (.ref a) (.tup ds)
inductive jh (h:Heap):List Value->List D->Prop
 | nil:jh h [] []
 | cons {u:Value}{d:D}{us:List Value}{ds:List D}(r:rD h u d) (rs:jh h us ds):jh h (u :: us) (d :: ds)
end
mutual
noncomputable def A4 (w:World):D->Int
 | .int i=>hashInt i
 | .str x=>hashStr w x
 | .tup ds=>reduceHash (Builtin.Tuple.tupleHashOf (mQ w ds))
 | _=>0
noncomputable def mQ (w:World):List D->List Int
 | []=>[]
 | d :: ds=>A4 w d :: mQ w ds
end
mutual
noncomputable def tF:D->Nat
 | .tup ds=>pQ ds+1
 | _=>1
noncomputable def pQ:List D->Nat
 | []=>0
 | d :: ds=>tF d+pQ ds
end
theorem jh.length {h:Heap}:∀{us:List Value}{ds:List D},jh h us ds->us.length=ds.length
 | _,_,.nil=>rfl
 | _,_,.cons _ rs=>congrArg Nat.succ (jh.length rs)
mutual
theorem rD.inj {h:Heap}:∀{v:Value}{d e:D},rD h v d->rD h v e->d=e
 | _,_,_,.bool b,r=>by cases r;rfl
 | _,_,_,.int i t,r=>by cases r;rfl
 | _,_,_,.str x t,r=>by cases r;rfl
 | _,_,_,@rD.tup _ a its ds p r,q=>by
  cases q with
  | @tup _ its' ds' p' r'=>
   obtain⟨o,h1,_,n,h2⟩:=p
   obtain⟨o',Sy,_,n',h2'⟩:=p'
   rw[h1] at Sy
   cases Sy
   rw[h2] at h2'
   injection h2' with e1 _
   have e:its=its':=by simpa using congrArg Array.toList e1
   subst e
   rw[jh.inj r r']
theorem jh.inj {h:Heap}:∀{vs:List Value}{ds es:List D},jh h vs ds->jh h vs es->ds=es
 | _,_,_,.nil,r=>by cases r;rfl
 | _,_,_,.cons r1 s1,r=>by
  cases r with
  | cons r2 s2=>rw[rD.inj r1 r2,jh.inj s1 s2]
end
mutual
theorem rD.keeps {h h':Heap}{d:Addr}{o:Obj}{es:Array DictEntry}{ep:Nat}(ho:h.get? d=some o) (hd:o.data= .dict es ep) (hs:Heap.SameBut d h h'):∀{v:Value}{k:D},rD h v k->rD h' v k
 | _,_,.bool b=>.bool b
 | _,_,.int i t=>.int i t
 | _,_,.str x t=>.str x t
 | _,_,@rD.tup _ a its ds p r=>by
  obtain⟨o',h1,h2,n,h3⟩:=p
  have hne:a≠d:=by
   intro z
   subst z
   rw[ho] at h1
   cases h1
   rw[hd] at h3
   cases h3
  exact .tup ⟨o',(hs.2 a hne).trans h1,h2,n,h3⟩ (jh.keeps ho hd hs r)
theorem jh.keeps {h h':Heap}{d:Addr}{o:Obj}{es:Array DictEntry}{ep:Nat}(ho:h.get? d=some o) (hd:o.data= .dict es ep) (hs:Heap.SameBut d h h'):∀{v:List Value}{k:List D},jh h v k->jh h' v k
 | _,_,.nil=>.nil
 | _,_,.cons r1 s1=>.cons (rD.keeps ho hd hs r1) (jh.keeps ho hd hs s1)
end
section
variable {prog:Program}{w:World}{E:Value->Shared->Prop}
theorem o9 {A:Around}{s:Shared}{b:Bool}{Q:Int->Shared->Prop}(h:Q (hashInt (bI b)) {s with toks:=s.toks+1}):wpAny (model prog w) A (pyHash (.bool b)) Q E s:=by
 refine PySem.W.pyHash_slot (T:="bool") rfl F.slot_bool_hash F.entry_int_hash (F.args_int_hash_1 _) (beq_builtin_none _) (.inl rfl) ?_
 cases b
 ·exact(show wpAny _ _ (do ret (<-mkInt 0)) _ _ s from wpAny_bind (wpAny_mkInt (wpAny_pure ⟨_,_,rfl,h⟩)))
 ·exact(show wpAny _ _ (do ret (<-mkInt 1)) _ _ s from wpAny_bind (wpAny_mkInt (wpAny_pure ⟨_,_,rfl,h⟩)))
mutual
theorem u5 : ∀ (d : D) {n : Nat} {v : Value} {A : Around} {s : Shared} {Q : Int -> Shared -> Prop}, rD s.heap v d -> gf n d = true -> A.units + n < cLine -> Q (A4 w d) { s with toks := s.toks + tF d } -> wpAny (model prog w) A (pyHash v) Q E s
  | .int i,n,v,A,s,Q,x,_,_,h=>by
    cases x with
    | int=>exact wpAny_pyHash_int h
    | bool b=>exact o9 h
  | .str y,n,v,A,s,Q,x,_,_,h=>by cases x;exact wpAny_pyHash_str h
  | .dg,n,v,A,s,Q,x,_,_,h=>by cases x
  | .bl _,n,v,A,s,Q,x,_,_,h=>by cases x
  | .lst _,n,v,A,s,Q,x,_,_,h=>by cases x
  | .tup ds,n,v,A,s,Q,x,hk,hu,h=>by
    cases n with
    | zero=>simp[gf] at hk
    | succ n=>
      cases x with
      | @tup a its _ p r=>
        obtain⟨o,hg,hc,m,hd⟩:=p
        refine PySem.W.pyHash_slot (T:="tuple") ⟨_,hg,hc⟩ F.slot_tuple_hash F.entry_tuple_hash (F.args_tuple_hash_1 _) (beq_builtin_none _) (.inr (by omega)) ?_
        show wpAny _ _ (Builtin.Tuple.tupleItemsOf (.ref a) >>= _) _ _ s
        refine wpAny_bind (wpAny_tupleItemsOf hg hd ?_)
        refine wpAny_bind ?_
        rw[<-Array.forIn_toList]
        refine rZ ds (n:=n) (A:=A.in1) (b:=#[]) r hk (by rw[Around.in1_units];omega) fun b hb=>?_
        show wpAny _ _ (retInt (Builtin.Tuple.tupleHashOf b.toList)) _ _ _
        rw[hb]
        refine wpAny_bind (wpAny_mkInt (wpAny_pure ⟨_,_,rfl,?_⟩))
        have e:(#[]:Array Int).toList++mQ w ds=mQ w ds:=by simp
        rw[e]
        exact h
theorem rZ:∀(ds:List D){n:Nat}{vs:List Value}{A:Around}{s:Shared}{b:Array Int}{Q:Array Int->Shared->Prop},jh s.heap vs ds->ds.all (gf n)=true->A.units+n < cLine->
    (∀b',b'.toList=b.toList++mQ w ds->Q b' {s with toks:=s.toks+pQ ds})->
    wpAny (model prog w) A (forIn vs b fun x r=>do let h <-pyHash x;pure PUnit.unit;pure (ForInStep.yield (r.push h))) Q E s
  | [],n,_,A,s,b,Q,x,_,_,h=>by cases x;exact wpAny_pure (h b (by simp[mQ]))
  | d :: ds, n, _, A, s, b, Q, x, hk, hu, h => by
    cases x with
    | cons x1 x2=>
      rw[List.all_cons,Bool.and_eq_true] at hk
      rw[List.forIn_cons]
      refine wpAny_bind (wpAny_bind (u5 d (n:=n) x1 hk.1 hu ?_))
      refine wpAny_bind (wpAny_pure (wpAny_pure ?_))
      refine rZ ds (n:=n) x2 hk.2 hu fun b' hb=>?_
      have q:=h b' (by simp[hb,mQ])
      show Q b' {s with toks:=s.toks+tF d+pQ ds}
      rw[Nat.add_assoc]
      exact q
end
end
theorem tG (n:Nat) (f:Nat->Bool):(List.range (n+1)).all f=(f 0 && (List.range n).all fun j=>f (j+1)):=by
 rw[List.range_succ_eq_map,List.all_cons,List.all_map];rfl
theorem u6:∀ds es:List D,((List.range (min ds.length es.length)).all (fun j=>decide (ds[j]? =es[j]?)) && ds.length == es.length)=decide (ds=es)
  | [],[]=>by simp
  | [],e :: es=>by simp
  | d :: ds,[]=>by simp
  | d :: ds, e :: es => by
    have ih:=u6 ds es
    have e1:min (d :: ds).length (e :: es).length=min ds.length es.length+1:=by simp only[List.length_cons];omega
    rw[e1,tG]
    have e2:(fun j=>decide ((d :: ds)[j+1]? =(e :: es)[j+1]?))=fun j=>decide (ds[j]? =es[j]?):=by funext j;simp
    have e3:((d :: ds).length == (e :: es).length)=(ds.length == es.length):=by simp
    have e4:decide ((d :: ds)[0]? =(e :: es)[0]?)=decide (d=e):=by simp
    have e5:decide (d :: ds=e :: es)=(decide (d=e) && decide (ds=es)):=by
      by_cases a:d=e
      . subst a;by_cases b:ds=es <;> simp[b]
      . simp[a]
    rw[e2,e3,e4,Bool.and_assoc,ih,e5]
theorem A5 {α:Type}(l:List α) (j:Nat) (h:j < l.toArray.size):l[j]? =some l.toArray[j]:=by
 have z:j < l.length:=by simpa using h
 simp[z]
mutual
theorem Sz : ∀ (d : D) {e : D} {n : Nat} {A : Around} {s : Shared} {u v : Value}, rD s.heap u d -> rD s.heap v e -> gf n d = true -> A.units + n < cLine -> SeqAt.EqAt A s u v (decide (d = e))
  | .int i,e,n,A,s,u,v,r1,r2,_,hu=>by
    have di:∀i j:Int,decide (D.int i=D.int j)=(i == j):=fun i j=>by by_cases z:i=j <;> simp[z]
    cases r1 with
    | int _ t=>
      cases r2 with
      | int j t'=>rw[di];exact SeqAt.EqAt.int_int i t j t'
      | bool b=>rw[di];exact SeqAt.EqAt.int_bool i t b
      | str x t'=>exact SeqAt.EqAt.int_str i t x t'
      | tup p r=>exact SeqAt.EqAt.int_tuple i t p (by omega)
    | bool a=>
      cases r2 with
      | int j t'=>rw[di];exact SeqAt.EqAt.bool_int a j t'
      | bool b=>
        have:(bI a == bI b)=(a == b):=by cases a <;> cases b <;> rfl
        rw[di,this];exact SeqAt.EqAt.bool_bool a b
      | str x t'=>exact SeqAt.EqAt.bool_str a x t'
      | tup p r=>exact SeqAt.EqAt.bool_tuple a p (by omega)
  | .str i, e, n, A, s, u, v, r1, r2, _, hu => by
    cases r1 with
    | str _ t=>
    cases r2 with
    | int j t'=>exact SeqAt.EqAt.str_int i t j t'
    | bool b=>exact SeqAt.EqAt.str_bool i t b
    | str x t' => have : decide (D.str i = D.str x) = (i == x) := by by_cases z : i = x <;> simp [z]
                  rw[this];exact SeqAt.EqAt.str_str i t x t'
    | tup p r=>exact SeqAt.EqAt.str_tuple i t p (by omega)
  | .dg,e,n,A,s,u,v,r1,r2,hk,hu=>by cases r1
  | .bl _,e,n,A,s,u,v,r1,r2,hk,hu=>by cases r1
  | .lst _,e,n,A,s,u,v,r1,r2,hk,hu=>by cases r1
  | .tup ds,e,n,A,s,u,v,r1,r2,hk,hu=>by
    cases n with
    | zero=>simp[gf] at hk
    | succ n=>
    cases r1 with
    | @tup ca eZ _ pa ra=>
    cases r2 with
    | int j t'=>exact SeqAt.EqAt.tuple_int j t' pa (by omega)
    | bool b=>exact SeqAt.EqAt.tuple_bool b pa (by omega)
    | str x t'=>exact SeqAt.EqAt.tuple_str x t' pa (by omega)
    | @tup cb bL es pb rb=>
      have items:∀j (h1:j < eZ.toArray.size) (h2:j < bL.toArray.size),SeqAt.EqAt A.in1 s eZ.toArray[j] bL.toArray[j] (decide (ds[j]? =es[j]?)):=fun j h1 h2=>
        JP ds (n:=n) (A:=A.in1) ra rb hk (by rw[Around.in1_units];omega) (A5 eZ j h1) (A5 bL j h2)
      by_cases hc:ca=cb
      . subst hc
        have z:=rD.inj (.tup pa ra) (.tup pb rb)
        rw[z,decide_eq_true rfl]
        exact SeqAt.EqAt.same _
      . have q:=SeqAt.RcAt.tuples (e:=fun j=>decide (ds[j]? =es[j]?)) pa pb (by omega) items
        rw[List.size_toArray,List.size_toArray,ra.length,rb.length,u6] at q
        have z:decide (D.tup ds=D.tup es)=decide (ds=es):=by by_cases a:ds=es <;> simp[a]
        rw[z]
        exact SeqAt.EqAt.of_refs hc q
theorem JP : ∀ (ds : List D) {es : List D} {n : Nat} {A : Around} {s : Shared} {us vs : List Value} {j : Nat} {u v : Value}, jh s.heap us ds -> jh s.heap vs es -> ds.all (gf n) = true -> A.units + n < cLine -> us[j]? = some u -> vs[j]? = some v ->
    SeqAt.EqAt A s u v (decide (ds[j]? =es[j]?))
  | [],es,n,A,s,us,vs,j,u,v,r1,r2,hk,hu,h1,h2=>by cases r1;simp at h1
  | d :: ds, es, n, A, s, us, vs, j, u, v, r1, r2, hk, hu, h1, h2 => by
    rw[List.all_cons,Bool.and_eq_true] at hk
    cases r1 with
    | cons a as=>
    cases r2 with
    | nil=>simp at h2
    | @cons v' e' vs' es' b bs=>
      cases j with
      | zero=>
        simp only[List.getElem?_cons_zero,Option.some.injEq] at h1 h2
        subst h1
        subst h2
        have z:decide ((d :: ds)[0]? =(e' :: es')[0]?)=decide (d=e'):=by simp
        rw[z]
        exact Sz d a b hk.1 hu
      | succ j=>
        have z:decide ((d :: ds)[j+1]? =(e' :: es')[j+1]?)=decide (ds[j]? =es'[j]?):=by simp
        rw[z]
        exact JP ds as bs hk.2 hu (by simpa using h1) (by simpa using h2)
end
section
variable {prog:Program}{w:World}{A:Around}{E:Value->Shared->Prop}{s:Shared}
mutual
theorem A6 : ∀ (d : D) {n : Nat} {v : Value} {Q : Bool -> Shared -> Prop}, rD s.heap v d -> gf n d = true -> Q true s -> wpAny (model prog w) A (eqIsQuiet n v) Q E s
  | .int i,n,v,Q,x,_,h=>by cases x <;> (rw[eqIsQuiet_byValue n rfl];exact wpAny_pure h)
  | .str y,n,v,Q,x,_,h=>by cases x;rw[eqIsQuiet_byValue n rfl];exact wpAny_pure h
  | .dg,n,v,Q,x,_,h=>by cases x
  | .bl _,n,v,Q,x,_,h=>by cases x
  | .lst _,n,v,Q,x,_,h=>by cases x
  | .tup ds,n,v,Q,x,hk,h=>by
    cases n with
    | zero=>simp[gf] at hk
    | succ n=>
      cases x with
      | @tup a its _ p r=>
        obtain⟨o,hg,hc,m,hd⟩:=p
        have hT:s.TypeIs (.ref a) "tuple":=⟨o,hg,hc⟩
        unfold eqIsQuiet
        refine wpAny_bind (wpAny_specialOf hT F.slot_tuple_eq.lookup ?_)
        show wpAny _ _ (isInstance (.ref a) (.type "tuple") >>= _) _ _ s
        refine wpAny_bind (wpAny_isInstance hT isSubtype_tuple_tuple ?_)
        simp only[Bool.not_true,Bool.false_eq_true,if_false]
        refine wpAny_bind (wpAny_seqItems hg hd ?_)
        refine wpAny_bind ?_
        show wpAny _ _ (forIn its.toArray _ _) _ _ s
        rw[<-Array.forIn_toList]
        exact r9 ds r hk (wpAny_pure h)
theorem r9:∀(ds:List D){n:Nat}{vs:List Value}{Q:Option Bool×Unit->Shared->Prop},jh s.heap vs ds->ds.all (gf n)=true->Q (none,()) s->
    wpAny (model prog w) A (forIn vs ((none,()):Option Bool×Unit) fun y __s=>do
      let __do_lift <-eqIsQuiet n y
      if(!__do_lift)=true then pure (ForInStep.done (some false,())) else pure (ForInStep.yield (none,()))) Q E s
  | [],n,_,Q,x,_,h=>by cases x;exact wpAny_pure h
  | d :: ds, n, _, Q, x, hk, h => by
    cases x with
    | cons x1 x2=>
      rw[List.all_cons,Bool.and_eq_true] at hk
      rw[List.forIn_cons]
      refine wpAny_bind (wpAny_bind (A6 d x1 hk.1 ?_))
      simp only[Bool.not_true,Bool.false_eq_true,if_false]
      refine wpAny_pure ?_
      exact r9 ds x2 hk.2 h
end
end
noncomputable def jE (prog:Program) (w:World):HeapKind prog w D where
 is:=fun h k a=>rD h (.ref a) k/\gf 8 k=true
 hash:=A4 w
 draws:=tF
 room:=fun A=>A.units+8 < cLine
 inj:=fun hx hy=>hx.1.inj hy.1
 keeps:=fun x ho hd hs=>⟨x.1.keeps ho hd hs,x.2⟩
 pyHash:=fun hu hk h=>u5 _ hk.1 hk.2 hu h
 eqBool:=fun hu hx hy h=>Sz _ hx.1 hy.1 hx.2 hu _ _ _ _ h
 quiet:=fun hk h=>A6 _ hk.1 hk.2 h
theorem jx {prog:Program}{w:World}{A:Around}(hu:A.units+20 < cLine):(jE prog w).room A.in1:=by
 show A.in1.units+8 < cLine
 rw[Around.in1_units]
 omega
end L2
end
namespace L2
open PySem PySem.Spec PyProof.Rows
noncomputable abbrev Key:=Sum Int Str
noncomputable def p8:Key->Value->Bool
 | .inl k,.bool b=>decide (k=bI b)
 | .inl k,v=>Value.isInt k v
 | .inr x,v=>Value.isStrOf x v
noncomputable def ND (w:World):Key->Int
 | .inl k=>hashInt k
 | .inr x=>hashStr w x
theorem cg:∀{k:Key}{v:Value},p8 k v=true->(∃i t,k=Sum.inl i/\v=Value.int i t)\/(∃b,k=Sum.inl (bI b)/\v=Value.bool b)\/(∃x t,k=Sum.inr x/\v=Value.str x t)
 | .inl i,v,h=>by
  cases v with
  | bool b=>exact .inr (.inl ⟨b,by rw[of_decide_eq_true (show decide (i=bI b)=true from h)],rfl⟩)
  | int j t=>obtain⟨t,e⟩:=Value.isInt_shape (k:=i) (v:=Value.int j t) h;exact .inl ⟨i,t,rfl,e⟩
  | _=>exact absurd h (by simp[p8,Value.isInt])
 | .inr x,v,h=>by
  obtain⟨t,e⟩:=Value.isStrOf_shape (x:=x) (v:=v) h
  exact .inr (.inr ⟨x,t,rfl,e⟩)
theorem zU (i:Int) (t:Tok):p8 (.inl i) (.int i t)=true:=by simp[p8,Value.isInt]
theorem zV (x:Str) (t:Tok):p8 (.inr x) (.str x t)=true:=by simp[p8,Value.isStrOf]
theorem tH (a b:Int):decide ((Sum.inl a:Key)=Sum.inl b)=(a == b):=by
 by_cases e:a=b
 ·subst e;simp
 ·have h:¬(Sum.inl a:Key)=Sum.inl b:=fun q=>e (Sum.inl.inj q)
  rw[decide_eq_false h]
  exact(beq_eq_false_iff_ne.mpr e).symm
theorem Gu (a b:Str):decide ((Sum.inr a:Key)=Sum.inr b)=decide (a=b):=by
 by_cases e:a=b
 ·subst e;simp
 ·have h:¬(Sum.inr a:Key)=Sum.inr b:=fun q=>e (Sum.inr.inj q)
  rw[decide_eq_false h,decide_eq_false e]
theorem A7 (a:Int) (b:Str):decide ((Sum.inl a:Key)=Sum.inr b)=false:=decide_eq_false (fun q=>nomatch q)
theorem A8 (a:Str) (b:Int):decide ((Sum.inr a:Key)=Sum.inl b)=false:=decide_eq_false (fun q=>nomatch q)
noncomputable def iN (prog:Program) (w:World):PySem.KeyKind prog w Key where
  is:=p8
  hash:=ND w
  inj := fun v a b ha hb => by
    rcases cg ha with⟨i,t,rfl,rfl⟩ | ⟨c,rfl,rfl⟩ | ⟨x,t,rfl,rfl⟩
    . rcases cg hb with⟨j,u,rfl,e⟩ | ⟨c',rfl,e⟩ | ⟨y,u,rfl,e⟩
      . injection e with e1 _;rw[e1]
      . exact nomatch e
      . exact nomatch e
    . rcases cg hb with⟨j,u,rfl,e⟩ | ⟨c',rfl,e⟩ | ⟨y,u,rfl,e⟩
      . exact nomatch e
      . injection e with e1;rw[e1]
      . exact nomatch e
    . rcases cg hb with⟨j,u,rfl,e⟩ | ⟨c',rfl,e⟩ | ⟨y,u,rfl,e⟩
      . exact nomatch e
      . exact nomatch e
      . injection e with e1 _;rw[e1]
  byValue:=fun k v h=>by
    rcases cg h with⟨i,t,rfl,rfl⟩ | ⟨c,rfl,rfl⟩ | ⟨x,t,rfl,rfl⟩ <;> rfl
  pyHash:=fun hv h=>by
    rcases cg hv with⟨i,t,rfl,rfl⟩ | ⟨c,rfl,rfl⟩ | ⟨x,t,rfl,rfl⟩
    . exact wpAny_pyHash_int h
    . exact o9 h
    . exact wpAny_pyHash_str h
  eqBool:=fun hu hv h=>by
    rcases cg hu with⟨i,t,rfl,rfl⟩ | ⟨c,rfl,rfl⟩ | ⟨x,t,rfl,rfl⟩
    . rcases cg hv with⟨j,u,rfl,rfl⟩ | ⟨c',rfl,rfl⟩ | ⟨y,u,rfl,rfl⟩
      . rw[tH] at h;exact wpAny_eqBool_int h
      . rw[tH] at h;exact SeqAt.EqAt.int_bool i t c' _ _ _ _ h
      . rw[A7] at h;exact SeqAt.EqAt.int_str i t y u _ _ _ _ h
    . rcases cg hv with⟨j,u,rfl,rfl⟩ | ⟨c',rfl,rfl⟩ | ⟨y,u,rfl,rfl⟩
      . rw[tH] at h;exact SeqAt.EqAt.bool_int c j u _ _ _ _ h
      . have e:(bI c == bI c')=(c == c'):=by cases c <;> cases c' <;> rfl
        rw[tH,e] at h;exact SeqAt.EqAt.bool_bool c c' _ _ _ _ h
      . rw[A7] at h;exact SeqAt.EqAt.bool_str c y u _ _ _ _ h
    . rcases cg hv with⟨j,u,rfl,rfl⟩ | ⟨c',rfl,rfl⟩ | ⟨y,u,rfl,rfl⟩
      . rw[A8] at h;exact SeqAt.EqAt.str_int x t j u _ _ _ _ h
      . rw[A8] at h;exact SeqAt.EqAt.str_bool x t c' _ _ _ _ h
      . rw[Gu] at h;exact wpAny_eqBool_str h
  «strs»:=fun k x t v h=>by
    rcases cg h with⟨i,u,rfl,e⟩ | ⟨c,rfl,e⟩ | ⟨y,u,rfl,e⟩
    . exact nomatch e
    . exact nomatch e
    . injection e with e1 _
      subst e1
      cases v <;> rfl
theorem ve (prog:Program) (w:World) (i:Int) (t:Tok):(iN prog w).is (.inl i) (.int i t)=true:=zU i t
theorem vf (prog:Program) (w:World) (x:Str) (t:Tok):(iN prog w).is (.inr x) (.str x t)=true:=zV x t
inductive V where
 | dg | bl (b:Bool) | int (i:Int) | str (x:Str) | NF (b:Array UInt8) | flt (b:UInt64) | ref (a:Addr) | ty (n:String)
 deriving DecidableEq
noncomputable def RelV:V->Value->Prop
 | .dg,u=>u=Value.none
 | .bl b,u=>u=Value.bool b
 | .int i,u=>∃t,u=Value.int i t
 | .str x,u=>∃t,u=Value.str x t
 | .NF b,u=>∃t,u=Value.bytes b t
 | .flt b,u=>∃t,u=Value.float b t
 | .ref a,u=>u=Value.ref a
 | .ty n,u=>u=Value.type n
noncomputable abbrev Vals:List V->List Value->Prop:=Paired RelV
theorem Vals.length {xs:List V}{us:List Value}(r:Vals xs us):xs.length=us.length:=Paired.length r
theorem Vals.get:∀{xs:List V}{us:List Value}{i:Nat}{x:V},Vals xs us->xs[i]? =some x->∃u,us[i]? =some u/\RelV x u
 | _,_,_,_,.nil,e=>by simp at e
 | _,_,0,_,.cons r _,e=>by simp at e;subst e;exact⟨_,rfl,r⟩
 | _,_,i+1,x,.cons _ t,e=>by
  obtain⟨u,h1,h2⟩:=Vals.get (i:=i) (x:=x) t (by simpa using e)
  exact⟨u,by simpa using h1,h2⟩
theorem Vals.set {x:V}{u:Value}(r:RelV x u):∀{xs:List V}{us:List Value}(i:Nat),Vals xs us->Vals (xs.set i x) (us.set i u)
 | _,_,_,.nil=>.nil
 | _,_,0,.cons _ t=>.cons r t
 | _,_,i+1,.cons q t=>.cons q (Vals.set r i t)
theorem Vals.append:∀{xs ys:List V}{us ws:List Value},Vals xs us->Vals ys ws->Vals (xs++ys) (us++ws)
 | _,_,_,_,.nil,s=>s
 | _,_,_,_,.cons r t,s=>.cons r (Vals.append t s)
theorem Vals.take:∀{xs:List V}{us:List Value}(n:Nat),Vals xs us->Vals (xs.take n) (us.take n)
 | _,_,0,_=>.nil
 | _,_,_+1,.nil=>.nil
 | _,_,n+1,.cons r t=>.cons r (Vals.take n t)
theorem Vals.drop:∀{xs:List V}{us:List Value}(n:Nat),Vals xs us->Vals (xs.drop n) (us.drop n)
 | _,_,0,r=>r
 | _,_,_+1,.nil=>.nil
 | _,_,n+1,.cons _ t=>Vals.drop n t
noncomputable def rF:Option V->Option Value->Prop
 | some v,some u=>RelV v u
 | none,none=>True
 | _,_=>False
noncomputable def KV {κ:Type}:List (κ×V)->List (κ×Value)->Prop:=Paired fun(p:κ×V) (q:κ×Value)=>p.1=q.1/\RelV p.2 q.2
noncomputable def kV:Key->V
 | .inl i=>.int i
 | .inr x=>.str x
inductive HO where
 | lst (xs:List V)
 | tup (xs:List V)
 | dK (kvs:List (Key×V)) | dT (kvs:List (D×V))
 | set (S:Int->Bool) (n:Nat)
 | ins (C dx:Addr) (fs:List (Str×V))
 | own (x:Addr)
 | xd (fs:List (Str×V))
 | met (f x:Addr)
 | mF (lo hi:Int)
 | iI (o:Obj) (u:HO)
 | Gv (ps:Array Value)
 | ext (φ:Heap->Prop)
noncomputable abbrev Hp:=Addr->Option HO
mutual
inductive Rep (H:Hp):V->D->Prop
 | dg:Rep H .dg .dg
 | bl (b:Bool):Rep H (.bl b) (.bl b)
 | int (i:Int):Rep H (.int i) (.int i)
 | str (z:Str):Rep H (.str z) (.str z)
 | tup {a:Addr}{vs:List V}{ds:List D}(e:H a=some (.tup vs)) (r:bD H vs ds):Rep H (.ref a) (.tup ds)
 | lst {a:Addr}{vs:List V}{ds:List D}(e:H a=some (.lst vs)\/∃o,H a=some (.iI o (.lst vs))) (r:bD H vs ds):Rep H (.ref a) (.lst ds)
inductive bD (H:Hp):List V->List D->Prop
 | nil:bD H [] []
 | cons {v:V}{d:D}{vs:List V}{ds:List D}(r:Rep H v d) (rs:bD H vs ds):bD H (v :: vs) (d :: ds)
end
mutual
theorem Rep.tups {H H':Hp}(ht:∀b xs,H b=some (.tup xs)->H' b=some (.tup xs)):∀(d:D){n:Nat}{v:V},Rep H v d->gf n d=true->Rep H' v d
 | .dg,n,_,_,k=>by simp[gf] at k
 | .bl b,n,_,r,k=>by cases r;exact .bl b
 | .lst _,n,_,_,k=>by simp[gf] at k
 | .int i,n,_,r,k=>by cases r;exact .int i
 | .str i,n,_,r,k=>by cases r;exact .str i
 | .tup ds,n,_,r,k=>by
  cases n with
  | zero=>simp[gf] at k
  | succ n=>
   cases r with
   | @tup a vs _ e rs=>exact .tup (ht _ _ e) (bD.tups ht ds rs k)
theorem bD.tups {H H':Hp}(ht:∀b xs,H b=some (.tup xs)->H' b=some (.tup xs)):∀(ds:List D){n:Nat}{vs:List V},bD H vs ds->ds.all (gf n)=true->bD H' vs ds
 | [],n,_,r,k=>by cases r;exact .nil
 | d :: ds,n,_,r,k=>by
  rw[List.all_cons,Bool.and_eq_true] at k
  cases r with
  | cons r1 r2=>exact .cons (Rep.tups ht d r1 k.1) (bD.tups ht ds r2 k.2)
end
noncomputable def Kd (H:Hp) (b:Addr) (k:D):Prop:=∃d,Rep H (.ref b) d/\gf 8 d=true/\nf d=k
theorem Kd.tups {H H':Hp}{b:Addr}{k:D}(x:Kd H b k) (ht:∀b xs,H b=some (.tup xs)->H' b=some (.tup xs)):Kd H' b k:=by
 obtain⟨d,r,hk,e⟩:=x
 exact⟨d,Rep.tups ht d r hk,hk,e⟩
noncomputable def upd (H:Hp) (a:Addr) (o:HO):Hp:=fun b=>if b=a then some o else H b
theorem aU {H:Hp}{a:Addr}{o:HO}:upd H a o a=some o:=by unfold upd;rw[if_pos rfl]
theorem aK {H:Hp}{a b:Addr}{o:HO}(h:b≠a):upd H a o b=H b:=by unfold upd;rw[if_neg h]
theorem FF {H:Hp}{a b:Addr}{o u:HO}(h:H a=some o) (h':H b=some u) (d:o≠u):a≠b:=by
 intro e;subst e;rw[h] at h';exact d (Option.some.inj h')
theorem bz {H:Hp}{a b:Addr}{o:HO}(h:H a=some o) (h':H b=none):a≠b:=by
 intro e;subst e;rw[h] at h';cases h'
section
variable (P:Program) (w:World)
noncomputable def dX (H:Hp) (h:Heap) (a:Addr):HO->Prop
 | .lst xs=>xs.length<=sizeLine/\∃(its:List Value) (n:Nat),Vals xs its/\h.get? a=some {cls:=.type "list",data:=.seq its.toArray n}
 | .tup xs=>xs.length<=sizeLine/\∃its:List Value,Vals xs its/\IsTup h a its.toArray
 | .dK kvs=>kvs.length<=sizeLine/\(a == sysModules)=false/\∃vs,KV kvs vs/\h.DictOf (iN P w) a vs
 | .dT kvs=>kvs.length<=sizeLine/\(a == sysModules)=false/\∃xs:List (D×Addr×Value),
   Paired (fun(p:D×V) (q:D×Addr×Value)=>p.1=q.1/\Kd H q.2.1 p.1/\RelV p.2 q.2.2) kvs xs/\
   ∃o es ep,h.get? a=some o/\o.ExactDict/\o.data= .dict es ep/\es.toList=xs.map (entryOfKey (jE P w))/\(xs.map (·.1)).Nodup
 | .set S n=>h.SetOf (intKind P w) a S n
 | .ins C dx fs=>H dx=some (.own a)/\fs.length<=1000/\dx≠a/\h.get? a=some (PySem.W.instObj C dx)/\
   ∃mA,h.Ns1 dx mA/\(∀f,rF (fs.lookup f) (mA f))/\PySem.Within mA (fs.map (·.1))
 | .own _=>∃o,h.get? a=some o
 | .xd fs=>∃mA,h.Ns1 a mA/\∀f,rF (fs.lookup f) (mA f)
 | .mF lo hi=>∃t u v,h.get? a=some {cls:=.type "range",data:=.fields #[.int lo t,.int hi u,.int 1 v]}
 | .iI o u=>h.get? a=some o/\dX H h a u
 | .Gv ps=>h.get? a=some {cls:=.none,data:=.fields ps}
 | .met f x=>h.get? a=some (PySem.W.methodObj (.ref f) (.ref x))
 | .ext φ=>φ h/\(∃o,h.get? a=some o)/\∀h1 h2:Heap,φ h1->(∀o,h1.get? a=some o->h2.get? a=some o)->φ h2
noncomputable def kG (H:Hp) (h:Heap):Prop:=∀a o,H a=some o->dX P w H h a o
end
section
variable {P:Program}{w:World}{H H':Hp}{h h':Heap}{a:Addr}{o:HO}
theorem dX.lt (x:dX P w H h a o):a < h.objs.size:=by
 cases o with
 | lst xs=>obtain⟨_,_,_,_,e⟩:=x;exact Heap.lt_size e
 | tup xs=>obtain⟨_,_,_,p⟩:=x;exact p.lt
 | dK kvs=>obtain⟨_,_,_,_,o,_,_,e,_⟩:=x;exact Heap.lt_size e
 | dT kvs=>obtain⟨_,_,_,_,o,_,_,e,_⟩:=x;exact Heap.lt_size e
 | set S n=>obtain⟨o,_,_,_,e,_⟩:=x;exact Heap.lt_size e
 | ins C dx fs=>obtain⟨_,_,_,e,_⟩:=x;exact Heap.lt_size e
 | own y=>obtain⟨_,e⟩:=x;exact Heap.lt_size e
 | xd fs=>obtain⟨_,⟨_,_,_,e,_⟩,_⟩:=x;exact Heap.lt_size e
 | mF lo hi=>obtain⟨_,_,_,e⟩:=x;exact Heap.lt_size e
 | iI ob u=>obtain⟨e,_⟩:=x;exact Heap.lt_size e
 | Gv ps=>exact Heap.lt_size (show h.get? a=some _ from x)
 | met f y=>exact Heap.lt_size (show h.get? a=some _ from x)
 | ext φ=>obtain⟨_,⟨_,e⟩,_⟩:=x;exact Heap.lt_size e
theorem Paired.zW {α β:Type}{F G:α->β->Prop}:∀{l₁:List α}{l₂:List β},Paired F l₁ l₂->(∀a b,F a b->G a b)->Paired G l₁ l₂
 | _,_,.nil,_=>.nil
 | _,_,.cons r t,f=>.cons (f _ _ r) (Paired.zW t f)
theorem dX.stay (x:dX P w H h a o) (k:∀b u,(b=a\/H b=some (.own a))->h.get? b=some u->h'.get? b=some u)
  (ho:∀b,H b=some (.own a)->H' b=some (.own a)) (ht:∀b xs,H b=some (.tup xs)->H' b=some (.tup xs)):dX P w H' h' a o:=by
 induction o with
 | lst xs=>obtain⟨z,its,n,r,e⟩:=x;exact⟨z,its,n,r,k _ _ (.inl rfl) e⟩
 | tup xs=>obtain⟨z,its,r,ob,e,c⟩:=x;exact⟨z,its,r,ob,k _ _ (.inl rfl) e,c⟩
 | dK kvs=>obtain⟨z,y,vs,r,ob,es,ep,e,c⟩:=x;exact⟨z,y,vs,r,ob,es,ep,k _ _ (.inl rfl) e,c⟩
 | dT kvs=>
  obtain⟨z,y,xs,r,ob,es,ep,e,c⟩:=x
  exact⟨z,y,xs,Paired.zW r fun p q z=>⟨z.1,z.2.1.tups ht,z.2.2⟩,ob,es,ep,k _ _ (.inl rfl) e,c⟩
 | set S n=>obtain⟨ob,es,ep,t,e,c⟩:=x;exact⟨ob,es,ep,t,k _ _ (.inl rfl) e,c⟩
 | ins C dx fs=>
  obtain⟨d,z,ne,e,mA,⟨od,es,ep,e2,c⟩,r⟩:=x
  exact⟨ho _ d,z,ne,k _ _ (.inl rfl) e,mA,⟨od,es,ep,k _ _ (.inr d) e2,c⟩,r⟩
 | own y=>obtain⟨ob,e⟩:=x;exact⟨ob,k _ _ (.inl rfl) e⟩
 | xd fs=>obtain⟨mA,⟨od,es,ep,e,c⟩,r⟩:=x;exact⟨mA,⟨od,es,ep,k _ _ (.inl rfl) e,c⟩,r⟩
 | mF lo hi=>obtain⟨t,u,v,e⟩:=x;exact⟨t,u,v,k _ _ (.inl rfl) e⟩
 | iI ob u ih=>obtain⟨e,q⟩:=x;exact⟨k _ _ (.inl rfl) e,ih q⟩
 | Gv ps=>
  have e:h.get? a=some {cls:=.none,data:=.fields ps}:=x
  show h'.get? a=some {cls:=.none,data:=.fields ps}
  exact k a _ (.inl rfl) e
 | met f y=>
  have e:h.get? a=some (PySem.W.methodObj (.ref f) (.ref y)):=x
  show h'.get? a=some (PySem.W.methodObj (.ref f) (.ref y))
  exact k a _ (.inl rfl) e
 | ext φ=>obtain⟨p,⟨o,e⟩,st⟩:=x;exact⟨st _ _ p fun o q=>k _ _ (.inl rfl) q,⟨o,k _ _ (.inl rfl) e⟩,st⟩
theorem kG.lt (x:kG P w H h) (e:H a=some o):a < h.objs.size:=(x a o e).lt
theorem kG.fresh (x:kG P w H h) (e:h.objs.size<=a):H a=none:=by
 cases q:H a with
 | none=>rfl
 | some u=>exact absurd (Nat.lt_of_lt_of_le (x.lt q) e) (Nat.lt_irrefl _)
theorem kG.kept (x:kG P w H h) (k:∀b u,h.get? b=some u->h'.get? b=some u):kG P w H h':=fun a o e=>
 (x a o e).stay (fun b u _ q=>k b u q) (fun _ q=>q) fun _ _ q=>q
theorem kG.laid (x:kG P w H h) (k:∀b u,h.get? b=some u->h'.get? b=some u) (hp:h.objs.size<=a) (new:dX P w (upd H a o) h' a o):kG P w (upd H a o) h':=fun b u e=>by
 have hn:=x.fresh hp
 by_cases hb:b=a
 ·subst hb;rw[aU] at e;cases e;exact new
 ·rw[aK hb] at e
  exact(x b u e).stay (fun c v _ q=>k c v q) (fun c q=>by rw[aK (bz q hn)];exact q) fun c xs q=>by rw[aK (bz q hn)];exact q
end
noncomputable def Rd (H:Hp) (a:Addr) (u:HO):Prop:=H a=some u\/∃o,H a=some (.iI o u)
theorem Rd.of {H:Hp}{a:Addr}{u:HO}(h:H a=some u):Rd H a u:=.inl h
theorem Rd.ok {P:Program}{w:World}{H:Hp}{h:Heap}{a:Addr}{u:HO}(r:Rd H a u) (x:kG P w H h):dX P w H h a u:=by
 rcases r with r | ⟨o,r⟩
 ·exact x a u r
 ·obtain⟨_,q⟩:=x a _ r
  exact q
noncomputable def JQ:Option HO->Prop
 | some (.lst _)=>True
 | some (.dK _)=>True
 | some (.dT _)=>True
 | some (.set _ _)=>True
 | some (.ins _ _ _)=>True
 | some (.ext _)=>True
 | _=>False
section
variable {P:Program}{w:World}{H:Hp}{h h':Heap}{x e:Addr}{o':HO}
theorem kG.write (ok : kG P w H h) (mu : JQ (H x)) (he : e = x \/ H e = some (.own x)) (k : ∀ b u, b ≠ e -> h.get? b = some u -> h'.get? b = some u) (Jm : ∃ u, h'.get? e = some u)
    (new:dX P w (upd H x o') h' x o'):kG P w (upd H x o') h':=fun b u q=>by
  have JR:∀c y,H c=some (.own y)->c≠x:=fun c y r z=>by subst z;rw[r] at mu;exact mu
  have NG:∀c xs,H c=some (.tup xs)->c≠x:=fun c xs r z=>by subst z;rw[r] at mu;exact mu
  by_cases hb:b=x
  . subst hb;rw[aU] at q;cases q;exact new
  . rw[aK hb] at q
    by_cases Gw:b=e
    . have q':H b=some (.own x):=by
        rcases he with z | z
        . exact absurd (Gw.trans z) hb
        . rw[Gw];exact z
      rw[q] at q';cases q'
      obtain⟨v,hv⟩:=Jm
      exact⟨v,by rw[Gw];exact hv⟩
    . refine(ok b u q).stay (fun c v hc r=>k c v ?_ r) (fun c r=>by rw[aK (JR c b r)];exact r) fun c xs r=>by rw[aK (NG c xs r)];exact r
      rcases hc with rfl | hc
      . exact Gw
      . rintro rfl
        rcases he with z | z
        . exact JR c b hc z
        . rw[hc] at z;cases z;exact hb rfl
end
structure Un (fs ex:List Addr) (H H':Hp) (h h':Heap):Prop where
 keep:∀b o,h.get? b=some o->H b=none->b∉fs->b∉ex->h'.get? b=some o
 slot:∀b o,h.get? b=some o->H b=none->b∈fs->b∉ex->∃sl,h'.get? b=some {o with slots:=sl}
 free:∀b o,h.get? b=some o->H b=none->b∉ex->H' b=none
 there:∀b o,h.get? b=some o->b∉ex->∃o',h'.get? b=some o'
 tups:∀b xs,H b=some (.tup xs)->H' b=some (.tup xs)
 p9:∀b o u,H b=some (.iI o u)->H' b=some (.iI o u)
 rG:∀b ps,H b=some (.Gv ps)->∃more,H' b=some (.Gv (ps++more))
section
variable {fs fs' ex ex':List Addr}{H H1 H2:Hp}{h h1 h2 h':Heap}{a x e:Addr}{o:HO}
theorem Un.any (u:Un fs ex H H1 h h1){b:Addr}{ob:Obj}(q:h.get? b=some ob) (n:H b=none) (hx:b∉ex):∃sl,h1.get? b=some {ob with slots:=sl}:=by
 by_cases hb:b∈fs
 ·exact u.slot b ob q n hb hx
 ·exact⟨ob.slots,u.keep b ob q n hb hx⟩
theorem Un.kept (k:∀b u,h.get? b=some u->h'.get? b=some u):Un fs ex H H h h':=
 ⟨fun b ob q _ _ _=>k b ob q,fun b ob q _ _ _=>⟨ob.slots,k b ob q⟩,fun _ _ _ n _=>n,fun b ob q _=>⟨ob,k b ob q⟩,fun _ _ q=>q,fun _ _ _ q=>q,fun _ ps q=>⟨#[],by rw[q];simp⟩⟩
theorem Un.refl:Un fs ex H H h h:=Un.kept fun _ _ q=>q
theorem Un.laid (k:∀b u,h.get? b=some u->h'.get? b=some u) (hp:h.objs.size<=a) (hn:H a=none):Un fs ex H (upd H a o) h h' where
 keep:=fun b u q _ _ _=>k b u q
 slot:=fun b u q _ _ _=>⟨u.slots,k b u q⟩
 free:=fun b u q n _=>by rw[aK (Nat.ne_of_lt (Nat.lt_of_lt_of_le (Heap.lt_size q) hp))];exact n
 there:=fun b u q _=>⟨u,k b u q⟩
 tups:=fun b xs q=>by rw[aK (bz q hn)];exact q
 p9:=fun b u xs q=>by rw[aK (bz q hn)];exact q
 rG:=fun b ps q=>⟨#[],by rw[aK (bz q hn),q];simp⟩
theorem Un.write (mu:JQ (H x)) (he:e=x\/H e=some (.own x)) (k:∀b u,b≠e->h.get? b=some u->h'.get? b=some u) (Jm:∃u,h'.get? e=some u):Un fs ex H (upd H x o) h h':=by
 have hx:∀b,H b=none->b≠x:=fun b n z=>by subst z;rw[n] at mu;exact mu
 have hb:∀b,H b=none->b≠e:=fun b n z=>by
  subst z
  rcases he with r | r
  ·exact hx b n r
  ·rw[n] at r;cases r
 have hm:∀b u,H b=some u->¬JQ (some u)->b≠x:=fun b u q nm z=>by subst z;rw[q] at mu;exact nm mu
 refine⟨fun b u q n _ _=>k b u (hb b n) q,fun b u q n _ _=>⟨u.slots,k b u (hb b n) q⟩,fun b u q n _=>by rw[aK (hx b n)];exact n,fun b u q _=>?_,
  fun b xs q=>by rw[aK (hm b _ q fun z=>z)];exact q,fun b u xs q=>by rw[aK (hm b _ q fun z=>z)];exact q,fun b ps q=>⟨#[],by rw[aK (hm b _ q fun z=>z),q];simp⟩⟩
 by_cases Gw:b=e
 ·subst Gw;exact Jm
 ·exact⟨u,k b u Gw q⟩
end
noncomputable def Mz (h:Heap) (H:Hp):List Addr:=(List.range h.objs.size).filter fun a=>(H a).isSome
noncomputable def tK (h:Heap) (H:Hp):Heap:=PySem.W.hideAll h (Mz h H)
theorem zX (h:Heap) (H:Hp):(tK h H).objs.size=h.objs.size:=PySem.W.hideAll_size _ _
theorem A9 {h:Heap}{H:Hp}{b:Addr}{o:Obj}(e:h.get? b=some o) (n:H b=none):(tK h H).get? b=some o:=
 PySem.W.hideAll_get _ e fun hm=>by
  have q:(H b).isSome=true:=(List.mem_filter.mp hm).2
  rw[n] at q;simp at q
theorem DE {h:Heap}{H:Hp}{b:Addr}{o:Obj}(e:(tK h H).get? b=some o):h.get? b=some o/\H b=none:=by
 have e':h.get? b=some o:=PySem.W.of_hideAll (Mz h H) e
 refine⟨e',?_⟩
 cases q:H b with
 | none=>rfl
 | some x=>
  have hm:b∈Mz h H:=List.mem_filter.mpr ⟨List.mem_range.mpr (Heap.lt_size e'),by simp[q]⟩
  have z:(tK h H).get? b=none:=PySem.W.hideAll_none (Mz h H) hm
  rw[z] at e;cases e
noncomputable def DF (g h:Heap) (L:Addr):List (Addr×Obj):=(List.range h.objs.size).filterMap fun a=>if a=L\/(g.get? a).isSome=true then none else(h.get? a).map fun o=>(a,o)
noncomputable def rest (g h:Heap) (L d:Addr):List (Addr×Obj):=(DF g h L).filter fun p=>decide (p.1≠d)
structure Mod (K:PySem.W.Frag) (mg:Str->Option Value) (base:Heap):Prop where
 NH:K.In base
 glob:base.Ns mainGlobals mg
 blt:∃mb,base.Ns builtinsNs mb/\∀x:Str,x≠"__name__"->mb x=bootBuiltins x
 nolimit:base.NoLimit
structure Cx where
 prog:Program
 w:World
 K:PySem.W.Frag
 mg:Str->Option Value
 base:Heap
 A:Around
 N:List Str
 s₀:Shared
 H₀:Hp
 env:Env
 outer:List Env
 stack:List Env
 ex:List Addr
 fn:Str->Bool
 calm:Bool
 pn:List (Addr×Obj)
 xe:Value->Shared->Prop
noncomputable def frs (l:List Env):List Addr:=l.filterMap (·.frame)
noncomputable abbrev Cx.fs (X:Cx):List Addr:=frs X.outer
noncomputable def Ba (sc:Scope) (x:Str):Prop:=sc.names.lookup x=some .local\/sc.names.lookup x=some .cell\/sc.names.lookup x=some .free
noncomputable def Loc (sc:Scope) (x:Str):Prop:=sc.names.lookup x=some .local\/sc.names.lookup x=some .cell
noncomputable def Look (env:Env) (h:Heap) (m:Str->Option Value) (x:Str) (u:Value):Prop:=
 (env.kindOf x=some .local/\m x=some u)\/((env.kindOf x=some .cell\/env.kindOf x=some .free)/\∃c,env.cells.lookup x=some c/\h.IsCell c (some u))
structure Cx.Ok (X:Cx):Prop where
 mod:Mod X.K X.mg X.base
 kind:X.env.scope.kind= .function
 glob:X.env.globals=mainGlobals
 blt:X.env.builtins=builtinsNs
 above:X.s₀.heap.objs.size<=X.env.locals
 inj:∀x y c,X.env.cells.lookup x=some c->X.env.cells.lookup y=some c->x=y
 has:∀x,(X.env.kindOf x=some .cell\/X.env.kindOf x=some .free)->∃c,X.env.cells.lookup x=some c
 JV:∀x c,X.fn x=true->X.env.cells.lookup x=some c->X.s₀.heap.objs.size<=c
 hd:X.calm=true->X.A.handled=none
 frames:X.A.frames=some X.stack
 stk:X.stack=X.outer\/(X.stack=X.env :: X.outer/\X.env.frame=some X.env.locals)
 MA:∀b∈X.ex,b≠X.env.locals/\∀x c,X.env.cells.lookup x=some c->c≠b
 bs:∀b o,X.base.get? b=some o->X.s₀.heap.get? b=some o/\X.H₀ b=none
 Dy:X.base.objs.size<=X.s₀.heap.objs.size
 zY:∀b o,X.base.get? b=some o->b∉X.ex
 zZ:∀b∈X.ex,b∉X.fs
 qc:X.s₀.heap.FunFrames X.base X.outer
 Jo:∀b∈X.fs,X.H₀ b=none
structure Inv (X:Cx) (pins:List (Addr×Obj)) (σ:List (Option V)) (H:Hp) (s:Shared):Prop where
 ok:X.Ok
 os:s.os=X.s₀.os
 bare:AllBare s.gens
 base:Un X.fs X.ex X.H₀ H X.s₀.heap s.heap
 loc:∃m,s.heap.Ns X.env.locals m/\∀(i:Nat) (x:Str) (v:V),X.N[i]? =some x->σ[i]? =some (some v)->Ba X.env.scope x->∃u,RelV v u/\Look X.env s.heap m x u
 cell:∀x c,X.env.cells.lookup x=some c->∃v,s.heap.IsCell c v
 free:H X.env.locals=none
 kI:∀x c,X.env.cells.lookup x=some c->H c=none
 pin:∀p∈X.pn++pins,s.heap.get? p.1=some p.2/\H p.1=none/\p.1≠X.env.locals/\p.1∉X.fs/\∀v,p.2.data≠.cell v
 hok:kG X.prog X.w H s.heap
 len:σ.length=X.N.length
section
variable {X:Cx}{pins:List (Addr×Obj)}{σ:List (Option V)}{H H':Hp}{s:Shared}{h':Heap}
theorem Cx.Ok.gM (ok:X.Ok){b:Addr}{o:Obj}(e:X.base.get? b=some o):b∉X.fs:=fun hb=>by
 have:=(ok.qc.mem hb).1
 rw[e] at this;cases this
theorem Inv.bs (I:Inv X pins σ H s):∀b o,X.base.get? b=some o->s.heap.get? b=some o/\H b=none:=fun b o e=>
 ⟨I.base.keep b o (I.ok.bs b o e).1 (I.ok.bs b o e).2 (I.ok.gM e) (I.ok.zY b o e),I.base.free b o (I.ok.bs b o e).1 (I.ok.bs b o e).2 (I.ok.zY b o e)⟩
theorem Inv.bk (I:Inv X pins σ H s):∀b o,X.base.get? b=some o->s.heap.get? b=some o:=fun b o e=>(I.bs b o e).1
theorem Inv.mod (I:Inv X pins σ H s):Mod X.K X.mg X.base:=I.ok.mod
theorem Inv.Bb (I:Inv X pins σ H s):X.K.In s.heap:=I.ok.mod.NH.keeps I.bk
theorem Inv.lt (I:Inv X pins σ H s):X.env.locals < s.heap.objs.size:=let⟨_,hn,_⟩:=I.loc;hn.lt
theorem Inv.sz (I:Inv X pins σ H s):X.s₀.heap.objs.size<=s.heap.objs.size:=Nat.le_trans I.ok.above (Nat.le_of_lt I.lt)
theorem Inv.Gx (I:Inv X pins σ H s){a:Addr}(h:s.heap.objs.size<=a):a∉X.fs:=fun hb=>by
 obtain⟨_,o,ho,_⟩:=I.ok.qc.mem hb
 exact absurd (Nat.lt_of_lt_of_le (Heap.lt_size ho) (Nat.le_trans I.sz h)) (Nat.lt_irrefl _)
theorem Inv.Gy (I:Inv X pins σ H s):∀x c,X.env.cells.lookup x=some c->c≠X.env.locals:=fun x c e z=>by
 obtain⟨v,o,ho,hd⟩:=I.cell x c e
 obtain⟨m,⟨o',es,ep,ho',hd',_⟩,_⟩:=I.loc
 rw[z,ho'] at ho;cases ho;rw[hd'] at hd;cases hd
theorem Inv.qc (I:Inv X pins σ H s):s.heap.FunFrames X.base X.outer:=by
 have all:∀(l:List Env),(∀b∈frs l,b∈X.fs)->X.s₀.heap.FunFrames X.base l->s.heap.FunFrames X.base l:=by
  intro l
  induction l with
  | nil=>intro _ _;trivial
  | cons env r ih=>
   intro hs hl
   obtain⟨hk,⟨L,o,hf,hn,ho,hd⟩,hr⟩:=hl
   have hL:L∈X.fs:=hs L (by unfold frs;rw[List.filterMap_cons,hf];exact List.mem_cons_self)
   obtain⟨sl,e⟩:=I.base.slot L o ho (I.ok.Jo L hL) hL fun z=>I.ok.zZ L z hL
   exact⟨hk,⟨L,_,hf,hn,e,hd⟩,ih (fun b hb=>hs b (by unfold frs;rw[List.filterMap_cons,hf];exact List.mem_cons_of_mem _ hb)) hr⟩
 exact all X.outer (fun _ hb=>hb) I.ok.qc
theorem Inv.stack (I:Inv X pins σ H s):s.heap.FunFrames X.base X.stack:=by
 rcases I.ok.stk with e | ⟨e,hf⟩
 ·rw[e];exact I.qc
 ·rw[e]
  obtain⟨m,hn,_⟩:=I.loc
  refine .cons (by rw[I.ok.kind];decide) hf hn ?_ I.qc
  exact Heap.get?_none_of_le (Nat.le_trans I.ok.Dy I.ok.above)
theorem Inv.ou (I:Inv X pins σ H s):∀b∈frs X.stack,b∈X.env.locals :: X.fs:=fun b hb=>by
 rcases I.ok.stk with e | ⟨e,hf⟩
 ·rw[e] at hb;exact List.mem_cons_of_mem _ hb
 ·rw[e] at hb
  unfold frs at hb
  rw[List.filterMap_cons,hf] at hb
  exact hb
theorem Inv.tL (I:Inv X pins σ H s):∀b∈frs X.stack,H b=none:=fun b hb=>by
 rcases List.mem_cons.mp (I.ou b hb) with e | hb
 ·rw[e];exact I.free
 ·obtain⟨_,o,ho,_⟩:=I.ok.qc.mem hb
  exact I.base.free b o ho (I.ok.Jo b hb) fun z=>I.ok.zZ b z hb
theorem Inv.step {g':Array GenState}{t':Nat}{d':Drawn}{ch:List Addr}(I:Inv X pins σ H s)
  (hch:∀b∈ch,(b∈X.ex\/X.s₀.heap.objs.size<=b)/\b≠X.env.locals/\(∀x c,X.env.cells.lookup x=some c->c≠b)/\∀p∈X.pn++pins,p.1≠b)
  (keep:∀b o,b≠X.env.locals->b∉X.fs->b∉ch->s.heap.get? b=some o->H b=none->h'.get? b=some o)
  (slot:∀b o,b≠X.env.locals->b∈X.fs->b∉ch->s.heap.get? b=some o->H b=none->∃sl,h'.get? b=some {o with slots:=sl}) (free:∀b o,b∉ch->s.heap.get? b=some o->H b=none->H' b=none)
  (there:∀b o,b∉ch->s.heap.get? b=some o->∃o',h'.get? b=some o')
  (tups:∀b xs,H b=some (.tup xs)->H' b=some (.tup xs)) (p9:∀b o u,H b=some (.iI o u)->H' b=some (.iI o u)) (rG:∀b ps,H b=some (.Gv ps)->∃more,H' b=some (.Gv (ps++more)))
  (ns:∀m,s.heap.Ns X.env.locals m->h'.Ns X.env.locals m) (hok:kG X.prog X.w H' h') (hg:AllBare g'):
  Inv X pins σ H' {s with heap:=h',gens:=g',drawn:=d',toks:=t'}:=by
 have SA:∀b o,X.s₀.heap.get? b=some o->b≠X.env.locals:=fun b o e=>Nat.ne_of_lt (Nat.lt_of_lt_of_le (Heap.lt_size e) I.ok.above)
 have MB:∀b o,X.s₀.heap.get? b=some o->b∉X.ex->b∉ch:=fun b o e hx hb=>by
  rcases(hch b hb).1 with z | z
  ·exact hx z
  ·exact absurd (Nat.lt_of_lt_of_le (Heap.lt_size e) z) (Nat.lt_irrefl _)
 have cellK:∀x c,X.env.cells.lookup x=some c->∀v,s.heap.IsCell c v->h'.IsCell c v:=fun x c e v ⟨o,ho,hd⟩=>by
  have JX:c∉ch:=fun z=>(hch c z).2.2.1 x c e rfl
  by_cases hc:c∈X.fs
  ·obtain⟨sl,q⟩:=slot c o (I.Gy x c e) hc JX ho (I.kI x c e)
   exact⟨_,q,hd⟩
  ·exact⟨o,keep c o (I.Gy x c e) hc JX ho (I.kI x c e),hd⟩
 refine⟨I.ok,I.os,hg,⟨fun b o e n hb hx=>?_,fun b o e n hb hx=>?_,fun b o e n hx=>?_,fun b o e hx=>?_,fun b xs e=>tups b xs (I.base.tups b xs e),fun b o xs e=>p9 b o xs (I.base.p9 b o xs e),fun b ps e=>?_⟩,?_,fun x c e=>?_,?_,fun x c e=>?_,fun p hp=>?_,hok,I.len⟩
 ·exact keep b o (SA b o e) hb (MB b o e hx) (I.base.keep b o e n hb hx) (I.base.free b o e n hx)
 ·obtain⟨sl,e1⟩:=I.base.slot b o e n hb hx
  obtain⟨Ul,e2⟩:=slot b _ (SA b o e) hb (MB b o e hx) e1 (I.base.free b o e n hx)
  exact⟨Ul,e2⟩
 ·obtain⟨o',e1⟩:=I.base.there b o e hx
  exact free b o' (MB b o e hx) e1 (I.base.free b o e n hx)
 ·obtain⟨o',e1⟩:=I.base.there b o e hx
  exact there b o' (MB b o e hx) e1
 ·obtain⟨m1,e1⟩:=I.base.rG b ps e
  obtain⟨m2,e2⟩:=rG b _ e1
  exact⟨m1++m2,by rw[e2,Array.append_assoc]⟩
 ·obtain⟨m,hn,hl⟩:=I.loc
  refine⟨m,ns m hn,fun i x v e1 e2 e3=>?_⟩
  obtain⟨u,r,l⟩:=hl i x v e1 e2 e3
  refine⟨u,r,?_⟩
  rcases l with l | ⟨k,c,e,z⟩
  ·exact .inl l
  ·exact .inr ⟨k,c,e,cellK x c e _ z⟩
 ·obtain⟨v,z⟩:=I.cell x c e
  exact⟨v,cellK x c e v z⟩
 ·obtain⟨m,⟨o,_,_,ho,_⟩,_⟩:=I.loc
  exact free _ o (fun z=>(hch _ z).2.1 rfl) ho I.free
 ·obtain⟨v,o,ho,hd⟩:=I.cell x c e
  exact free c o (fun z=>(hch c z).2.2.1 x c e rfl) ho (I.kI x c e)
 ·obtain⟨e,n,ne,nf,d⟩:=I.pin p hp
  have JX:p.1∉ch:=fun z=>(hch p.1 z).2.2.2 p hp rfl
  exact⟨keep p.1 p.2 ne nf JX e n,free p.1 p.2 JX e n,ne,nf,d⟩
theorem Inv.un {t':Nat}(I:Inv X pins σ H s) (u:Un X.fs [] H H' s.heap h') (hok:kG X.prog X.w H' h'):Inv X pins σ H' {s with heap:=h',toks:=t'}:=by
 obtain⟨m,⟨o,es,ep,ho,r⟩,_⟩:=id I.loc
 obtain⟨sl,hL⟩:=u.any ho I.free (by simp)
 exact I.step (g':=s.gens) (d':=s.drawn) (ch:=[]) (fun _ z=>nomatch z) (fun b o _ hb _ e n=>u.keep b o e n hb (by simp)) (fun b o _ hb _ e n=>u.slot b o e n hb (by simp)) (fun b o _ e n=>u.free b o e n (by simp)) (fun b o _ e=>u.there b o e (by simp)) u.tups u.p9 u.rG (fun m' hm=>by
  obtain⟨o',es',NI,ho',r'⟩:=hm
  rw[ho] at ho';cases ho'
  exact⟨_,es',NI,hL,r'⟩) hok I.bare
theorem Inv.call {g':Array GenState}{t':Nat}{d':Drawn}{ch:List Addr}(I:Inv X pins σ H s) (u:Un (frs X.stack) ch H H' s.heap h') (hok:kG X.prog X.w H' h') (hg:AllBare g')
  (hch:∀b∈ch,(b∈X.ex\/X.s₀.heap.objs.size<=b)/\b≠X.env.locals/\(∀x c,X.env.cells.lookup x=some c->c≠b)/\∀p∈X.pn++pins,p.1≠b):
  Inv X pins σ H' {s with heap:=h',gens:=g',drawn:=d',toks:=t'}:=by
 obtain⟨m,⟨o,es,ep,ho,r⟩,_⟩:=id I.loc
 obtain⟨sl,hL⟩:=u.any ho I.free fun z=>(hch _ z).2.1 rfl
 exact I.step (ch:=ch) hch (fun b o hL hb hc e n=>u.keep b o e n (fun z=>(List.mem_cons.mp (I.ou b z)).elim hL hb) hc) (fun b o _ _ hc e n=>u.any e n hc) (fun b o hc e n=>u.free b o e n hc) (fun b o hc e=>u.there b o e hc) u.tups u.p9 u.rG (fun m' hm=>by
  obtain⟨o',es',NI,ho',r'⟩:=hm
  rw[ho] at ho';cases ho'
  exact⟨_,es',NI,hL,r'⟩) hok hg
theorem Inv.turned {t':Nat}{it:Addr}(I:Inv X pins σ H s) (k:∀b o,b≠it->s.heap.get? b=some o->h'.get? b=some o) (hn:H it=none) (hL:it≠X.env.locals)
  (h1:it∈X.ex\/X.s₀.heap.objs.size<=it) (h2:∀x c,X.env.cells.lookup x=some c->c≠it) (h3:∀p∈X.pn++pins,p.1≠it):Inv X pins σ H {s with heap:=h',toks:=t'}:=by
 have JY:∀b u,H b=some u->b≠it:=fun b u e z=>by rw[z,hn] at e;cases e
 refine I.step (g':=s.gens) (d':=s.drawn) (ch:=[it]) (fun b hb=>?_) (fun b o _ _ hc e _=>k b o (fun z=>hc (by simp[z])) e) (fun b o _ _ hc e _=>⟨o.slots,k b o (fun z=>hc (by simp[z])) e⟩) (fun _ _ _ _ n=>n)
  (fun b o hc e=>⟨o,k b o (fun z=>hc (by simp[z])) e⟩) (fun _ _ e=>e) (fun _ _ _ e=>e) (fun b ps e=>⟨#[],by rw[e];simp⟩) (fun m hm=>?_) (fun b u e=>?_) I.bare
 ·have e:b=it:=by simpa using hb
  subst e
  exact⟨h1,hL,h2,h3⟩
 ·obtain⟨o,es,ep,ho,r⟩:=hm
  exact⟨o,es,ep,k _ o (Ne.symm hL) ho,r⟩
 ·refine(I.hok b u e).stay (fun c v hc q=>k c v ?_ q) (fun _ q=>q) fun _ _ q=>q
  rcases hc with z | z
  ·rw[z];exact JY b u e
  ·exact JY c _ z
theorem Inv.tok (I:Inv X pins σ H s) (t:Nat):Inv X pins σ H {s with toks:=t}:=I.un (h':=s.heap) (t':=t) Un.refl I.hok
theorem Inv.kept {t':Nat}(I:Inv X pins σ H s) (k:∀b u,s.heap.get? b=some u->h'.get? b=some u):Inv X pins σ H {s with heap:=h',toks:=t'}:=I.un (Un.kept k) (I.hok.kept k)
theorem Inv.laid {a:Addr}{o:HO}{t':Nat}(I:Inv X pins σ H s) (k:∀b u,s.heap.get? b=some u->h'.get? b=some u) (hp:s.heap.objs.size<=a) (new:dX X.prog X.w (upd H a o) h' a o):
  Inv X pins σ (upd H a o) {s with heap:=h',toks:=t'}:=I.un (Un.laid k hp (I.hok.fresh hp)) (I.hok.laid k hp new)
theorem Inv.write {x e:Addr}{o:HO}{t':Nat}(I:Inv X pins σ H s) (mu:JQ (H x)) (he:e=x\/H e=some (.own x)) (k:∀b u,b≠e->s.heap.get? b=some u->h'.get? b=some u) (Jm:∃u,h'.get? e=some u)
  (new:dX X.prog X.w (upd H x o) h' x o):Inv X pins σ (upd H x o) {s with heap:=h',toks:=t'}:=I.un (Un.write mu he k Jm) (I.hok.write mu he k Jm new)
theorem Inv.yE {FG:List (Addr×Obj)}(I:Inv X pins σ H s) (h:∀p∈FG,s.heap.get? p.1=some p.2/\H p.1=none/\p.1≠X.env.locals/\p.1∉X.fs/\∀v,p.2.data≠.cell v):Inv X FG σ H s:=
 ⟨I.ok,I.os,I.bare,I.base,I.loc,I.cell,I.free,I.kI,fun p hp=>(List.mem_append.mp hp).elim (fun z=>I.pin p (List.mem_append_left _ z)) (h p),I.hok,I.len⟩
theorem vg {N:List Str}(hN:N.Nodup){i j:Nat}{x:Str}(a:N[i]? =some x) (b:N[j]? =some x):i=j:=by
 obtain⟨h1,e1⟩:=List.getElem?_eq_some_iff.mp a
 obtain⟨h2,e2⟩:=List.getElem?_eq_some_iff.mp b
 exact(List.getElem_inj hN).mp (e1.trans e2.symm)
theorem sf {M : Model} {A : Around} {E : Value -> Shared -> Prop} {i : Nat} {x : Str} {v : V} {u : Value} {Q : Unit -> Shared -> Prop} (I : Inv X pins σ H s) (hN : X.N.Nodup) (hi : X.N[i]? = some x) (hx : Loc X.env.scope x) (r : RelV v u)
    (h:∀s',Inv X pins (σ.set i (some v)) H s'->(∃a,Heap.SameBut a s.heap s'.heap/\(a=X.env.locals\/X.env.cells.lookup x=some a))->Q () s') (hf:X.fn x=true\/X.env.scope.names.lookup x=some .local:=by first | exact .inl rfl | exact .inr rfl | assumption):wpAny M A (storeName X.env x u) Q E s:=by
  obtain⟨m,hn,hl⟩:=id I.loc
  have hcls:(X.env.scope.kind == .class || (X.env.scope.kind == .module && X.env.locals != X.env.globals))=false:=by rw[I.ok.kind];rfl
  have JZ:i < σ.length:=by rw[I.len];exact(List.getElem?_eq_some_iff.mp hi).1
  have Gy:=I.Gy
  have tracked:∀{a:Addr}{h':Heap},(∃o,s.heap.get? a=some o/\H a=none)->Heap.SameBut a s.heap h'->kG X.prog X.w H h':=fun {a h'} ha hs b ob e=>by
    obtain⟨_,_,hfree⟩:=ha
    refine(I.hok b ob e).stay (fun c w' hc q=>(hs.2 c ?_).trans q) (fun _ q=>q) fun _ _ q=>q
    rintro rfl
    rcases hc with rfl | hc
    . rw[hfree] at e;cases e
    . rw[hfree] at hc;cases hc
  rcases hx with hk | hk
  . refine wpAny_storeName_local hk hn (fun h' hn' hs=>?_) hcls
    obtain⟨oL,_,_,Um,_⟩:=id hn
    refine h _ ⟨I.ok,I.os,I.bare,⟨fun b o e n hb hx=>?_,fun b o e n hb hx=>?_,I.base.free,fun b o e hx=>?_,I.base.tups,I.base.p9,I.base.rG⟩,⟨_,hn',fun j y v' e1 e2 e3=>?_⟩,fun y c e=>?_,I.free,I.kI,fun p hp=>?_,tracked ⟨oL,Um,I.free⟩ hs,by simpa using I.len⟩ ⟨_,hs,.inl rfl⟩
    . exact(hs.2 b (Nat.ne_of_lt (Nat.lt_of_lt_of_le (Heap.lt_size e) I.ok.above))).trans (I.base.keep b o e n hb hx)
    . obtain⟨sl,e1⟩:=I.base.slot b o e n hb hx
      exact⟨sl,(hs.2 b (Nat.ne_of_lt (Nat.lt_of_lt_of_le (Heap.lt_size e) I.ok.above))).trans e1⟩
    . obtain⟨o',e1⟩:=I.base.there b o e hx
      exact⟨o',(hs.2 b (Nat.ne_of_lt (Nat.lt_of_lt_of_le (Heap.lt_size e) I.ok.above))).trans e1⟩
    . by_cases hj:j=i
      . subst hj
        rw[hi] at e1;cases e1
        rw[List.getElem?_set_self JZ] at e2
        cases e2
        exact⟨u,r,.inl ⟨hk,by simp⟩⟩
      . rw[List.getElem?_set_ne (Ne.symm hj)] at e2
        obtain⟨u',r',q⟩:=hl j y v' e1 e2 e3
        refine⟨u',r',?_⟩
        rcases q with⟨k,e⟩ | ⟨k,c,e,z⟩
        . refine .inl ⟨k,?_⟩
          have:y≠x:=fun e=>hj (vg hN e1 (e▸hi))
          simp[this,e]
        . exact .inr ⟨k,c,e,z.sameBut hs (Gy y c e)⟩
    . obtain⟨w',z⟩:=I.cell y c e
      exact⟨w',z.sameBut hs (Gy y c e)⟩
    . obtain⟨e,n,ne,nf,d⟩:=I.pin p hp
      exact⟨(hs.2 p.1 ne).trans e,n,ne,nf,d⟩
  . have hfn:X.fn x=true:=by
      rcases hf with z | z
      . exact z
      . rw[z] at hk;cases hk
    obtain⟨c,hc⟩:=I.ok.has x (.inl hk)
    obtain⟨w',z⟩:=I.cell x c hc
    refine wpAny_storeName_cell I.ok.kind hk hc z (fun h' hc' hs=>?_)
    obtain⟨oc,hoc,NJ⟩:=id z
    refine h {s with heap:=h'} ⟨I.ok,I.os,I.bare,⟨fun b o e n hb hx=>?_,fun b o e n hb hx=>?_,I.base.free,fun b o e hx=>?_,I.base.tups,I.base.p9,I.base.rG⟩,⟨m,hn.sameBut hs (Ne.symm (Gy x c hc)),fun j y v' e1 e2 e3=>?_⟩,fun y c' e=>?_,I.free,I.kI,fun p hp=>?_,tracked ⟨oc,hoc,I.kI x c hc⟩ hs,by simpa using I.len⟩ ⟨c,hs,.inr hc⟩
    . exact(hs.2 b (Nat.ne_of_lt (Nat.lt_of_lt_of_le (Heap.lt_size e) (I.ok.JV x c hfn hc)))).trans (I.base.keep b o e n hb hx)
    . obtain⟨sl,e1⟩:=I.base.slot b o e n hb hx
      exact⟨sl,(hs.2 b (Nat.ne_of_lt (Nat.lt_of_lt_of_le (Heap.lt_size e) (I.ok.JV x c hfn hc)))).trans e1⟩
    . obtain⟨o',e1⟩:=I.base.there b o e hx
      exact⟨o',(hs.2 b (Nat.ne_of_lt (Nat.lt_of_lt_of_le (Heap.lt_size e) (I.ok.JV x c hfn hc)))).trans e1⟩
    . by_cases hj:j=i
      . subst hj
        rw[hi] at e1;cases e1
        rw[List.getElem?_set_self JZ] at e2
        cases e2
        exact⟨u,r,.inr ⟨.inl hk,c,hc,hc'⟩⟩
      . rw[List.getElem?_set_ne (Ne.symm hj)] at e2
        obtain⟨u',r',q⟩:=hl j y v' e1 e2 e3
        refine⟨u',r',?_⟩
        rcases q with q | ⟨k,c',e,z'⟩
        . exact .inl q
        . refine .inr ⟨k,c',e,z'.sameBut hs ?_⟩
          rintro rfl
          exact hj (vg hN e1 (I.ok.inj _ _ _ e hc▸hi))
    . by_cases hcc:c'=c
      . subst hcc;exact⟨_,hc'⟩
      . obtain⟨w2,z2⟩:=I.cell y c' e
        exact⟨w2,z2.sameBut hs hcc⟩
    . obtain⟨e,n,ne,nf,d⟩:=I.pin p hp
      refine⟨(hs.2 p.1 ?_).trans e,n,ne,nf,d⟩
      intro q
      rw[q,hoc] at e
      have q':oc=p.2:=Option.some.inj e
      exact d w' (by rw[<-q'];exact NJ)
theorem qd {M:Model}{A:Around}{E:Value->Shared->Prop}{i:Nat}{x:Str}{v:V}{u:Value}{Q:Unit->Shared->Prop}(I:Inv X pins σ H s) (hN:X.N.Nodup) (hi:X.N[i]? =some x) (hx:Loc X.env.scope x) (r:RelV v u)
  (h:∀s',Inv X pins (σ.set i (some v)) H s'->Q () s') (hf:X.fn x=true\/X.env.scope.names.lookup x=some .local:=by first | exact .inl rfl | exact .inr rfl | assumption):wpAny M A (storeName X.env x u) Q E s:=
 sf I hN hi hx r (fun s' I' _=>h s' I') hf
theorem Inv.FH {s':Shared}{ch:List Addr}(I:Inv X pins σ H s) (ho:s'.os=s.os) (u:Un (frs X.stack) ch H H' s.heap s'.heap) (hok:kG X.prog X.w H' s'.heap) (hg:AllBare s'.gens)
  (hch:∀b∈ch,(b∈X.ex\/X.s₀.heap.objs.size<=b)/\b≠X.env.locals/\(∀x c,X.env.cells.lookup x=some c->c≠b)/\∀p∈X.pn++pins,p.1≠b):Inv X pins σ H' s':=by
 obtain⟨h',g',d',t',o'⟩:=s'
 have e:o'=s.os:=ho
 subst e
 exact I.call (g':=g') (t':=t') (d':=d') u hok hg hch
end
noncomputable abbrev XK:=Value->Option Addr->Hp->Prop
noncomputable abbrev St:=List (Option V)
noncomputable abbrev VK:=V->Hp->Prop
noncomputable abbrev TE:=St->Hp->VK->Prop
noncomputable abbrev TT:=St->Hp->(Bool->Hp->Prop)->Prop
noncomputable abbrev TA:=St->Hp->(List V->Hp->Prop)->Prop
structure Ends where
 nx:St->Hp->Prop
 rt:VK
 bk:St->Hp->Prop:=fun _ _=>False
 ct:St->Hp->Prop:=fun _ _=>False
noncomputable abbrev TS:=Ends->St->Hp->Prop
noncomputable def EP (X:Cx) (pins:List (Addr×Obj)) (σ:St) (Q:VK) (u:Value) (s':Shared):Prop:=∃v H',Inv X pins σ H' s'/\RelV v u/\Q v H'
noncomputable def TP (X:Cx) (pins:List (Addr×Obj)) (σ:St) (Q:Bool->Hp->Prop) (b:Bool) (s':Shared):Prop:=∃H',Inv X pins σ H' s'/\Q b H'
noncomputable def AP (X:Cx) (pins:List (Addr×Obj)) (σ:St) (Q:List V->Hp->Prop) (us:List Value) (s':Shared):Prop:=∃vs H',Inv X pins σ H' s'/\Vals vs us/\Q vs H'
noncomputable def SP (X:Cx) (pins:List (Addr×Obj)) (D:Ends) (f:Flow) (s':Shared):Prop:=
 match f with
 | .next=>∃σ' H',Inv X pins σ' H' s'/\D.nx σ' H'
 | .brk=>∃σ' H',Inv X pins σ' H' s'/\D.bk σ' H'
 | .cont=>∃σ' H',Inv X pins σ' H' s'/\D.ct σ' H'
 | .ret u=>∃v σ' H',Inv X pins σ' H' s'/\RelV v u/\D.rt v H'
noncomputable def PE (X:Cx) (e:Expr) (t:TE):Prop:=
 ∀(pins:List (Addr×Obj)) (s:Shared) (σ:St) (H:Hp) (Q:VK),Inv X pins σ H s->t σ H Q->wpAny (model X.prog X.w) X.A (eval e X.env) (EP X pins σ Q) X.xe s
noncomputable def PT (X:Cx) (e:Expr) (t:TT):Prop:=
 ∀(pins:List (Addr×Obj)) (s:Shared) (σ:St) (H:Hp) (Q:Bool->Hp->Prop),Inv X pins σ H s->t σ H Q->wpAny (model X.prog X.w) X.A (isTrue e X.env (eval e X.env)) (TP X pins σ Q) X.xe s
noncomputable def PW (X:Cx) (e:Expr) (t:TT):Prop:=
 ∀(whole:Sem Value) (pins:List (Addr×Obj)) (s:Shared) (σ:St) (H:Hp) (Q:Bool->Hp->Prop),Inv X pins σ H s->t σ H Q->wpAny (model X.prog X.w) X.A (isTrue e X.env whole) (TP X pins σ Q) X.xe s
theorem PW.pt {X:Cx}{e:Expr}{t:TT}(h:PW X e t):PT X e t:=h _
noncomputable def PA (X:Cx) (es:List Expr) (t:TA):Prop:=
 ∀(pos:Pos) (pins:List (Addr×Obj)) (s:Shared) (σ:St) (H:Hp) (Q:List V->Hp->Prop),Inv X pins σ H s->t σ H Q->wpAny (model X.prog X.w) X.A (spliced (backTo pos (starEach es X.env))) (AP X pins σ Q) X.xe s
noncomputable def PS (X:Cx) (st:Stmt) (t:TS):Prop:=
 ∀(pins:List (Addr×Obj)) (s:Shared) (σ:St) (H:Hp) (D:Ends),Inv X pins σ H s->t D σ H->wpAny (model X.prog X.w) X.A (exec st X.env) (SP X pins D) X.xe s
noncomputable def vh (X:Cx) (st:List Stmt) (t:TS):Prop:=
 ∀(pins:List (Addr×Obj)) (s:Shared) (σ:St) (H:Hp) (D:Ends),Inv X pins σ H s->t D σ H->wpAny (model X.prog X.w) X.A (execs st X.env) (SP X pins D) X.xe s
theorem fh {α:Type}{t:Sem α}{Q Q':α->Shared->Prop}{M:Model}{A:Around}{E:Value->Shared->Prop}{s:Shared}(h:wpAny M A t Q E s) (hQ:∀a s,Q a s->Q' a s):wpAny M A t Q' E s:=wpAny_mono h hQ fun _ _ x=>x
section
variable {X:Cx}
theorem bin {a b:Expr}{ta tb:TE}(ha:PE X a ta) (hb:PE X b tb){pins:List (Addr×Obj)}{s:Shared}{σ:St}{H:Hp}{R:V->V->Hp->Prop}(I:Inv X pins σ H s) (h:ta σ H fun x H1=>tb σ H1 fun y H2=>R x y H2)
  {α:Type}{Q:α->Shared->Prop}{f:Value->Value->Sem α}
  (hf:∀v u s2 x y H2,Inv X pins σ H2 s2->RelV x v->RelV y u->R x y H2->wpAny (model X.prog X.w) X.A (f v u) Q X.xe s2):
  wpAny (model X.prog X.w) X.A (eval a X.env) (fun v s₁=>wpAny (model X.prog X.w) X.A (eval b X.env) (fun u s₂=>wpAny (model X.prog X.w) X.A (f v u) Q X.xe s₂) X.xe s₁) X.xe s:=by
 refine fh (ha pins s σ H _ I h) fun v s1 ⟨x,H1,I1,r1,q1⟩=>?_
 refine fh (hb pins s1 σ H1 _ I1 q1) fun u s2 ⟨y,H2,I2,r2,q2⟩=>?_
 exact hf v u s2 x y H2 I2 r1 r2 q2
noncomputable def DG (i:Nat):TE:=fun σ H Q=>∃v,σ[i]? =some (some v)/\Q v H
noncomputable def tC (v:V):TE:=fun _ H Q=>Q v H
theorem iJ {i:Nat}{x:Str}{pos:Pos}(hN:X.N[i]? =some x) (hv:Ba X.env.scope x) (hd:(x == ("__debug__":Str))=false:=by decide) (hcd:(x == ("__classdict__":Str))=false:=by decide):PE X (.Name x pos) (DG i):=by
 intro pins s σ H Q I h
 obtain⟨v,e,h⟩:=h
 obtain⟨m,hn,hl⟩:=I.loc
 obtain⟨u,r,l⟩:=hl i x v hN e hv
 have fin:EP X pins σ Q u s:=⟨v,H,I,r,h⟩
 rcases l with⟨hk,hm⟩ | ⟨hk,c,hc,hcell⟩
 ·exact wpAny_Name (wpAny_loadName_local I.ok.kind hk hn hm fin) hd
 ·rcases hk with hk | hk
  ·exact wpAny_Name (wpAny_loadName_cell I.ok.kind hk hc hcell fin) hd
  ·exact wpAny_Name (wpAny_loadName_free I.ok.kind hk hc hcell fin hcd) hd
theorem Gz {i j pos}:PE X (.Constant (.int i) j pos) (tC (.int i)):=fun _ _ _ H _ I h=>wpAny_Constant_int ⟨.int i,H,I.tok _,⟨_,rfl⟩,h⟩
theorem J0 {b j pos}:PE X (.Constant (.bool b) j pos) (tC (.bl b)):=fun _ _ _ H _ I h=>Constant_bool ⟨.bl b,H,I,rfl,h⟩
theorem GC {j pos}:PE X (.Constant .none j pos) (tC .dg):=fun _ _ _ H _ I h=>Constant_none ⟨.dg,H,I,rfl,h⟩
theorem GF {x j pos}:PE X (.Constant (.str x) j pos) (tC (.str x)):=fun _ _ _ H _ I h=>Calls.Constant_str ⟨.str x,H,I.tok _,⟨_,rfl⟩,h⟩
noncomputable def Gl (X:Cx) (x:Str):Prop:=X.env.kindOf x=some .globalImplicit
theorem yF {E:Value->Shared->Prop}{pins:List (Addr×Obj)}{s:Shared}{σ:St}{H:Hp}{x:Str}{u:Value}{pos:Pos}{Q:Value->Shared->Prop}(I:Inv X pins σ H s) (hg:Gl X x) (hm:X.mg x=some u) (h:Q u s)
  (hd:(x == ("__debug__":Str))=false:=by decide):wpAny (model X.prog X.w) X.A (eval (.Name x pos) X.env) Q E s:=
 Calls.Name_function_global I.ok.kind hg (Calls.loadGlobal_global (by rw[I.ok.glob];exact I.mod.glob.keeps I.bk) hm h) hd
theorem ow {E:Value->Shared->Prop}{pins:List (Addr×Obj)}{s:Shared}{σ:St}{H:Hp}{x:Str}{u:Value}{pos:Pos}{Q:Value->Shared->Prop}(I:Inv X pins σ H s) (hg:Gl X x) (hm:X.mg x=none) (hv:bootBuiltins x=some u) (h:Q u s)
  (hn:x≠"__name__":=by decide) (hd:(x == ("__debug__":Str))=false:=by decide):wpAny (model X.prog X.w) X.A (eval (.Name x pos) X.env) Q E s:=by
 obtain⟨mb,h1,h2⟩:=I.mod.blt
 exact Calls.Name_function_global I.ok.kind hg (Calls.loadGlobal_builtin (by rw[I.ok.glob];exact I.mod.glob.keeps I.bk) hm (by rw[I.ok.blt];exact h1.keeps I.bk) ((h2 x hn).trans hv) h) hd
theorem DH {x:Str}{v:V}{u:Value}{pos:Pos}(hg:Gl X x) (hm:X.mg x=some u) (r:RelV v u) (hd:(x == ("__debug__":Str))=false:=by decide):PE X (.Name x pos) (tC v):=
 fun _ _ _ H _ I h=>yF I hg hm ⟨v,H,I,r,h⟩ hd
variable {a b:Expr}{ta tb:TE}{pos:Pos}
noncomputable def PC (X:Cx) (op:CmpOp) (a b:Expr) (t:TE):Prop:=
 ∀(pins:List (Addr×Obj)) (s:Shared) (σ:St) (H:Hp) (Q:VK),Inv X pins σ H s->t σ H Q->
  wpAny (model X.prog X.w) X.A (eval a X.env) (fun v s₁=>wpAny (model X.prog X.w) X.A (eval b X.env) (fun u s₂=>wpAny (model X.prog X.w) X.A (compareOp op v u) (EP X pins σ Q) X.xe s₂) X.xe s₁) X.xe s
theorem Bc (b:Expr){op:CmpOp}(h:op≠.In) (h2:op≠.NotIn):behindInMarks op b=false:=by
 have e1:(op == CmpOp.In)=false:=by cases op <;> first | rfl | exact absurd rfl h
 have e2:(op == CmpOp.NotIn)=false:=by cases op <;> first | rfl | exact absurd rfl h2
 cases b <;> simp[behindInMarks,e1,e2]
noncomputable def tB (t:TE):TT:=fun σ H Q=>t σ H fun x H1=>∃c,x= .bl c/\Q c H1
theorem GG {op:CmpOp}{t:TE}(h:PC X op a b t) (h1:behindInMarks op b=false:=by first | exact Bc _ (by decide) (by decide) | rfl):PT X (.Compare a [op] [b] pos) (tB t):=by
 intro pins s σ H Q I hw
 refine wpAny_isTrue_Compare1 (fh (h pins s σ H _ I hw) fun v s1 h1=>fh h1 fun u s2 h2=>fh h2 fun c s3 ⟨x,H1,I1,r1,q1⟩=>?_) h1
 obtain⟨d,rfl,q⟩:=q1
 cases r1
 exact wpAny_truthy_bool ⟨H1,I1,q⟩
variable {tA SD:TT}{rest:List Expr}
noncomputable def NK (t u:TT):TT:=fun σ H Q=>t σ H fun c H1=>if c=true then u σ H1 Q else Q false H1
theorem pw_and1 (ha:PT X a tA):PW X (.BoolOp .And [a] pos) tA:=by
 intro wh pins s σ H Q I h
 refine isTrue_and (fh (ha pins s σ H Q I h) fun c s1 e=>?_)
 cases c with
 | true=>exact isTrue_and_nil e
 | false=>exact e
theorem pw_and (ha:PT X a tA) (hb:PW X (.BoolOp .And (b :: rest) pos) SD):PW X (.BoolOp .And (a :: b :: rest) pos) (NK tA SD):=by
 intro wh pins s σ H Q I h
 refine isTrue_and (fh (ha pins s σ H _ I h) fun c s1 ⟨H1,I1,q1⟩=>?_)
 cases c with
 | true=>exact hb wh pins s1 σ H1 Q I1 q1
 | false=>exact⟨H1,I1,q1⟩
noncomputable def J4 (ta tb:TE):TE:=fun σ H Q=>ta σ H fun x H1=>∃c,x= .bl c/\if c=true then tb σ H1 Q else Q (.bl false) H1
noncomputable def NN (ta tb:TE):TE:=fun σ H Q=>ta σ H fun x H1=>∃c,x= .bl c/\if c=true then Q (.bl true) H1 else tb σ H1 Q
noncomputable def J5 (ta:TE):TE:=fun σ H Q=>ta σ H fun x H1=>∃c,x= .bl c/\Q (.bl (!c)) H1
theorem GH {op}{t:TE}(h:PE X a t):PE X (.BoolOp op [a] pos) t:=fun pins s σ H Q I hw=>BoolOp_one (h pins s σ H Q I hw)
theorem GJ (ha:PE X a ta) (hb:PE X (.BoolOp .And (b :: rest) pos) tb):PE X (.BoolOp .And (a :: b :: rest) pos) (J4 ta tb):=by
 intro pins s σ H Q I h
 refine BoolOp_and (fh (ha pins s σ H _ I h) fun v s1 ⟨x,H1,I1,r1,q1⟩=>?_)
 obtain⟨c,rfl,q1⟩:=q1
 cases r1
 refine wpAny_truthy_bool ?_
 cases c with
 | true=>exact hb pins s1 σ H1 Q I1 q1
 | false=>exact⟨.bl false,H1,I1,rfl,q1⟩
theorem J6 (ha:PE X a ta) (hb:PE X (.BoolOp .Or (b :: rest) pos) tb):PE X (.BoolOp .Or (a :: b :: rest) pos) (NN ta tb):=by
 intro pins s σ H Q I h
 refine BoolOp_or (fh (ha pins s σ H _ I h) fun v s1 ⟨x,H1,I1,r1,q1⟩=>?_)
 obtain⟨c,rfl,q1⟩:=q1
 cases r1
 refine wpAny_truthy_bool ?_
 cases c with
 | false=>exact hb pins s1 σ H1 Q I1 q1
 | true=>exact⟨.bl true,H1,I1,rfl,q1⟩
theorem GK (ha:PE X a ta):PE X (.UnaryOp .Not a pos) (J5 ta):=by
 intro pins s σ H Q I h
 refine UnaryOp_ (fh (ha pins s σ H _ I h) fun v s1 ⟨x,H1,I1,r1,q1⟩=>?_)
 obtain⟨c,rfl,q1⟩:=q1
 cases r1
 exact not_of (wpAny_truthy_bool ⟨.bl (!c),H1,I1,rfl,q1⟩)
end
noncomputable def mR (K:PySem.W.Frag) (H:Hp) (a:Addr) (xs:List V):Prop:=
 Rd H a (.lst xs)\/
  ∃(o:Obj) (its:Array Value) (n:Nat),K.lookup a=some o/\o.cls= .type "list"/\o.dict=none/\o.data= .seq its n/\its.size<=sizeLine/\Vals xs its.toList
noncomputable def tM (K:PySem.W.Frag) (H:Hp) (a:Addr) (xs:List V):Prop:=
 Rd H a (.tup xs)\/
  ∃(o:Obj) (its:Array Value) (n:Nat),K.lookup a=some o/\o.cls= .type "tuple"/\o.data= .seq its n/\its.size<=sizeLine/\Vals xs its.toList
noncomputable def NO:Value->Option V
 | .none=>some .dg
 | .bool b=>some (.bl b)
 | .int i _=>some (.int i)
 | .str x _=>some (.str x)
 | .bytes b _=>some (.NF b)
 | .float b _=>some (.flt b)
 | .ref a=>some (.ref a)
 | .type n=>some (.ty n)
 | _=>none
theorem RelV.abs {x:V}{u:Value}(r:RelV x u):NO u=some x:=by
 cases x with
 | dg=>cases r;rfl
 | bl _=>cases r;rfl
 | int _=>obtain⟨t,rfl⟩:=r;rfl
 | str _=>obtain⟨t,rfl⟩:=r;rfl
 | NF _=>obtain⟨t,rfl⟩:=r;rfl
 | flt _=>obtain⟨t,rfl⟩:=r;rfl
 | ref _=>cases r;rfl
 | ty _=>cases r;rfl
theorem RelV.inj {x y:V}{u:Value}(r:RelV x u) (q:RelV y u):x=y:=Option.some.inj (r.abs.symm.trans q.abs)
theorem Vals.inj:∀{xs ys:List V}{us:List Value},Vals xs us->Vals ys us->xs=ys
 | _,_,_,.nil,.nil=>rfl
 | _,_,_,.cons r t,.cons r' t'=>by rw[r.inj r',Vals.inj t t']
section
variable {X:Cx}{pins:List (Addr×Obj)}{σ:St}{H:Hp}{s:Shared}{a:Addr}{xs ys:List V}
theorem mR.of {K:PySem.W.Frag}(h:H a=some (.lst xs)):mR K H a xs:=.inl (.inl h)
theorem Inv.list (I:Inv X pins σ H s) (h:mR X.K H a xs):∃its:List Value,Vals xs its/\PlainL s.heap a its.toArray/\xs.length<=sizeLine:=by
 rcases h with h | ⟨o,its,n,hk,hc,hd,hs,hz,r⟩
 ·obtain⟨z,its,n,r,e⟩:=h.ok I.hok
  exact⟨its,r,⟨_,n,e,rfl,rfl,rfl⟩,z⟩
 ·refine⟨its.toList,r,⟨o,n,I.Bb a o hk,hc,hd,by simpa using hs⟩,?_⟩
  have e:=r.length
  simp only[Array.length_toList] at e
  omega
theorem Inv.tuple (I:Inv X pins σ H s) (h:tM X.K H a xs):∃its:List Value,Vals xs its/\IsTup s.heap a its.toArray/\xs.length<=sizeLine:=by
 rcases h with h | ⟨o,its,n,hk,hc,hs,hz,r⟩
 ·obtain⟨z,its,r,p⟩:=h.ok I.hok
  exact⟨its,r,p,z⟩
 ·refine⟨its.toList,r,⟨o,I.Bb a o hk,hc,n,by simpa using hs⟩,?_⟩
  have e:=r.length
  simp only[Array.length_toList] at e
  omega
theorem Inv.vj (I:Inv X pins σ H s) (h:mR X.K H a xs) (h':mR X.K H a ys):xs=ys:=by
 obtain⟨its,r,⟨o,n,e,_,_,d⟩,_⟩:=I.list h
 obtain⟨its',r',⟨o',n',e',_,_,d'⟩,_⟩:=I.list h'
 rw[e] at e';cases e'
 rw[d] at d'
 injection d' with d1 _
 have:its=its':=by simpa using congrArg Array.toList d1
 subst this
 exact r.inj r'
theorem Inv.sr (I:Inv X pins σ H s) (h:tM X.K H a xs) (h':tM X.K H a ys):xs=ys:=by
 obtain⟨its,r,⟨o,e,_,n,d⟩,_⟩:=I.tuple h
 obtain⟨its',r',⟨o',e',_,n',d'⟩,_⟩:=I.tuple h'
 rw[e] at e';cases e'
 rw[d] at d'
 injection d' with d1 _
 have:its=its':=by simpa using congrArg Array.toList d1
 subst this
 exact r.inj r'
end
noncomputable abbrev Cx.rH (X:Cx) (E:Value->Shared->Prop):Cx:={X with xe:=E}
noncomputable abbrev Cx.J7 (X:Cx):Cx:=X.rH fun _ _=>False
theorem Cx.Ok.rH {X:Cx}(ok:X.Ok) (E:Value->Shared->Prop):(X.rH E).Ok:=
 ⟨ok.mod,ok.kind,ok.glob,ok.blt,ok.above,ok.inj,ok.has,ok.JV,ok.hd,ok.frames,ok.stk,ok.MA,ok.bs,ok.Dy,ok.zY,ok.zZ,ok.qc,ok.Jo⟩
theorem Cx.Ok.kJ {X:Cx}{E:Value->Shared->Prop}(ok:(X.rH E).Ok):X.Ok:=
 ⟨ok.mod,ok.kind,ok.glob,ok.blt,ok.above,ok.inj,ok.has,ok.JV,ok.hd,ok.frames,ok.stk,ok.MA,ok.bs,ok.Dy,ok.zY,ok.zZ,ok.qc,ok.Jo⟩
section
variable {X:Cx}{pins:List (Addr×Obj)}{σ:St}{H:Hp}{s:Shared}{E:Value->Shared->Prop}
theorem Inv.rH (I:Inv X pins σ H s) (E:Value->Shared->Prop):Inv (X.rH E) pins σ H s:=⟨I.ok.rH E,I.os,I.bare,I.base,I.loc,I.cell,I.free,I.kI,I.pin,I.hok,I.len⟩
theorem Inv.kJ (I:Inv (X.rH E) pins σ H s):Inv X pins σ H s:=⟨I.ok.kJ,I.os,I.bare,I.base,I.loc,I.cell,I.free,I.kI,I.pin,I.hok,I.len⟩
theorem SP.kJ {D:Ends}{f:Flow}{s':Shared}(h:SP (X.rH E) pins D f s'):SP X pins D f s':=by
 cases f with
 | next=>obtain⟨σ',H',I,q⟩:=h;exact⟨σ',H',I.kJ,q⟩
 | brk=>obtain⟨σ',H',I,q⟩:=h;exact⟨σ',H',I.kJ,q⟩
 | cont=>obtain⟨σ',H',I,q⟩:=h;exact⟨σ',H',I.kJ,q⟩
 | ret u=>obtain⟨v,σ',H',I,r,q⟩:=h;exact⟨v,σ',H',I.kJ,r,q⟩
theorem vh.J7 {st:List Stmt}{t:TS}(h:vh X.J7 st t):vh X st t:=fun pins s σ H D I hw=>
 wpAny_mono (h pins s σ H D (I.rH _) hw) (fun _ _ q=>q.kJ) fun _ _ z=>False.elim z
end
section
variable {X:Cx}{st:Stmt}{rest:List Stmt}{t u:TS}{e:Expr}{te:TE}{pos:Pos}
noncomputable def J8:TS:=fun D σ H=>D.nx σ H
noncomputable def NP (t u:TS):TS:=fun D σ H=>t {D with nx:=u D} σ H
theorem DI:vh X [] J8:=fun _ _ σ H _ I h=>wpAny_execs_nil ⟨σ,H,I,h⟩
theorem qg (h1:PS X st t) (h2:vh X rest u):vh X (st :: rest) (NP t u):=by
 intro pins s σ H D I h
 refine wpAny_execs_cons (fh (h1 pins s σ H {D with nx:=u D} I h) fun f s1 q=>?_)
 cases f with
 | next=>
  obtain⟨σ',H',I',q⟩:=q
  exact h2 pins s1 σ' H' D I' q
 | ret v=>exact q
 | brk=>exact q
 | cont=>exact q
theorem yG (h1:PS X st t):vh X [st] t:=by
 intro pins s σ H D I h
 refine wpAny_execs_cons (fh (h1 pins s σ H D I h) fun f s1 q=>?_)
 cases f with
 | next=>exact wpAny_execs_nil q
 | ret v=>exact q
 | brk=>exact q
 | cont=>exact q
theorem Inv.quiet {pins:List (Addr×Obj)}{σ:St}{H:Hp}{s:Shared}(I:Inv X pins σ H s):interactive X.env=false:=by simp[interactive,I.ok.kind]
noncomputable def J9 (te:TE):TS:=fun D σ H=>te σ H fun _ H1=>D.nx σ H1
theorem yH (he:PE X e te) (hs:swapsWith e none pos.line X.env=pure false:=by rfl):PS X (.Expr e pos) (J9 te):=by
 intro pins s σ H D I h
 exact wpAny_Expr_any (fh (he pins s σ H _ I h) fun v s1 ⟨x,H1,I1,r1,q1⟩=>⟨σ,H1,I1,q1⟩) I.quiet hs
noncomputable def NQ (te:TE):TS:=fun D σ H=>te σ H D.rt
theorem GL (he:PE X e te):PS X (.Return (some e) pos) (NQ te):=by
 intro pins s σ H D I h
 exact wpAny_Return_some (fh (he pins s σ H _ I h) fun v s1 ⟨x,H1,I1,r1,q1⟩=>⟨x,σ,H1,I1,r1,q1⟩)
noncomputable def NS (c:TT) (t u:TS):TS:=fun D σ H=>c σ H fun b H1=>if b=true then t D σ H1 else u D σ H1
theorem Ka {c:Expr}{a b:List Stmt}{tc:TT}(hc:PT X c tc) (ha:vh X a t) (hb:vh X b u):PS X (.If c a b pos) (NS tc t u):=by
 intro pins s σ H D I h
 refine wpAny_If (fh (hc pins s σ H _ I h) fun d s1 ⟨H1,I1,q1⟩=>?_)
 cases d with
 | true=>exact ha pins s1 σ H1 D I1 q1
 | false=>exact hb pins s1 σ H1 D I1 q1
end
noncomputable abbrev TG:=V->St->Hp->(St->Hp->Prop)->Prop
noncomputable abbrev DJ:=List V->St->Hp->(St->Hp->Prop)->Prop
noncomputable def PG (X:Cx) (target:Expr) (t:TG):Prop:=
 ∀(pins:List (Addr×Obj)) (s:Shared) (σ:St) (H:Hp) (v:V) (u:Value) (Q:St->Hp->Prop),Inv X pins σ H s->RelV v u->t v σ H Q->
  wpAny (model X.prog X.w) X.A (assign target X.env u) (fun _ s'=>∃σ' H',Inv X pins σ' H' s'/\Q σ' H') X.xe s
noncomputable def FI (X:Cx) (ts:List Expr) (t:DJ):Prop:=
 ∀(pins:List (Addr×Obj)) (s:Shared) (σ:St) (H:Hp) (vs:List V) (us:List Value) (Q:St->Hp->Prop),Inv X pins σ H s->Vals vs us->t vs σ H Q->
  wpAny (model X.prog X.w) X.A (assignInOrder ((assignEach ts X.env).map (·.2)) us) (fun _ s'=>∃σ' H',Inv X pins σ' H' s'/\Q σ' H') X.xe s
noncomputable abbrev GO:=V->V->V->Hp->(Hp->Prop)->Prop
noncomputable def Kc (X:Cx) (t:GO):Prop:=
 ∀(pins:List (Addr×Obj)) (s:Shared) (σ:St) (H:Hp) (o i v:V) (ov iv u:Value) (Q:Hp->Prop),Inv X pins σ H s->RelV o ov->RelV i iv->RelV v u->t o i v H Q->
  wpAny (model X.prog X.w) X.A (setItem ov iv u) (fun _ s'=>∃H',Inv X pins σ H' s'/\Q H') X.xe s
noncomputable abbrev MC:=V->V->Hp->VK->Prop
noncomputable def NT (X:Cx) (op:Operator) (t:MC):Prop:=
 ∀(pins:List (Addr×Obj)) (s:Shared) (σ:St) (H:Hp) (x y:V) (v u:Value) (Q:VK),Inv X pins σ H s->RelV x v->RelV y u->t x y H Q->
  wpAny (model X.prog X.w) X.A (inplaceOp op v u) (EP X pins σ Q) X.xe s
section
variable {X:Cx}{pos:Pos}
noncomputable def pg (i:Nat):TG:=fun v σ H Q=>Q (σ.set i (some v)) H
theorem pR {i:Nat}{x:Str}(hN:X.N.Nodup) (hi:X.N[i]? =some x) (hx:Loc X.env.scope x) (hf:X.fn x=true\/X.env.scope.names.lookup x=some .local:=by first | exact .inl rfl | exact .inr rfl | assumption):PG X (.Name x pos) (pg i):=by
 intro pins s σ H v u Q I r h
 exact wpAny_assign_Name (qd I hN hi hx r (fun s' I'=>⟨_,H,I',h⟩) hf)
noncomputable def Ke:DJ:=fun vs σ H Q=>vs=[]/\Q σ H
noncomputable def Bd (t:TG) (u:DJ):DJ:=fun vs σ H Q=>∃v r,vs=v :: r/\t v σ H fun σ' H'=>u r σ' H' Q
theorem yJ:FI X [] Ke:=by
 intro pins s σ H vs us Q I r h
 obtain⟨e,h⟩:=h
 subst e
 cases r
 exact assignInOrder_nil ⟨σ,H,I,h⟩
theorem qj {e:Expr}{es:List Expr}{t:TG}{u:DJ}(h1:PG X e t) (h2:FI X es u)
  (hs:(assignEach (e :: es) X.env).map (·.2)=assign e X.env :: (assignEach es X.env).map (·.2):=by rfl):FI X (e :: es) (Bd t u):=by
 intro pins s σ H vs us Q I r h
 obtain⟨v,vr,e1,h⟩:=h
 subst e1
 cases r with
 | cons r rr=>
  rw[hs]
  refine assignInOrder_cons (fh (h1 pins s σ H _ _ _ I r h) fun _ s1 ⟨σ1,H1,I1,q1⟩=>?_)
  exact h2 pins s1 σ1 H1 _ _ Q I1 rr q1
noncomputable def Kf (K:PySem.W.Frag) (n:Nat) (t:DJ):TG:=fun v σ H Q=>∃a xs,v= .ref a/\tM K H a xs/\xs.length=n/\t xs σ H Q
theorem Be {es:List Expr}{k:Nat}{t:DJ}{n:Nat}(hc:X.calm=true) (h:FI X es t)
  (hn:(assignEach es X.env).length=n:=by rfl) (hst:(assignEach es X.env).findIdx? (·.1)=none:=by rfl):PG X (.Tuple es k pos) (Kf X.K n t):=by
 intro pins s σ H v u Q I r hw
 obtain⟨a,xs,e1,hq,hl,hw⟩:=hw
 subst e1
 cases r
 obtain⟨its,rv,ht,hz⟩:=I.tuple hq
 refine assign_Tuple_tuple (I.ok.hd hc) ht (by simp[hn,<-hl,rv.length]) hst fun h' hx=>?_
 have I1:Inv X pins σ H {s with heap:=h'}:=I.kept (t':=s.toks) fun b o e=>hx b o (Nat.ne_of_lt (Heap.lt_size e)) e
 exact h pins _ σ H xs _ Q I1 (by simpa using rv) hw
noncomputable def NU (to ti:TE) (t:GO):TG:=fun v σ H Q=>to σ H fun o H1=>ti σ H1 fun i H2=>t o i v H2 fun H3=>Q σ H3
theorem GP {o i:Expr}{to ti:TE}{t:GO}(ho:PE X o to) (hi:PE X i ti) (hs:Kc X t)
  (ha:∀v,assign (.Subscript o i pos) X.env v=(do
   let ov <-holding [v] (eval o X.env)
   let iv <-holding [v,ov] (eval i X.env)
   standAt pos
   holding [v,ov,iv] (setItem ov iv v)
   release [v,ov,iv] []):=by intro _;rfl):PG X (.Subscript o i pos) (NU to ti t):=by
 intro pins s σ H v u Q I r h
 rw[ha]
 refine wpAny_bind (wpAny_holding (fh (ho pins s σ H _ I h) fun ov s1 ⟨x,H1,I1,r1,q1⟩=>?_))
 refine wpAny_bind (wpAny_holding (fh (hi pins s1 σ H1 _ I1 q1) fun iv s2 ⟨y,H2,I2,r2,q2⟩=>?_))
 refine wpAny_bind (wpAny_standAt (wpAny_bind (wpAny_holding (fh (hs pins s2 σ H2 x y v ov iv u _ I2 r1 r2 r q2) fun _ s3 ⟨H3,I3,q3⟩=>?_))))
 exact wpAny_release ⟨σ,H3,I3,q3⟩
noncomputable def DK (te:TE) (g:TG):TS:=fun D σ H=>te σ H fun x H1=>g x σ H1 D.nx
theorem GQ {tg e:Expr}{te:TE}{g:TG}(he:PE X e te) (hg:PG X tg g) (hs:swapsWithSole [tg] e pos.line X.env=pure false:=by rfl) (hw:swappedStores [tg] e X.env=pure none:=by rfl)
  (h1:(assignEach [tg] X.env).map (·.2)=[assign tg X.env]:=by rfl):PS X (.Assign [tg] e pos) (DK te g):=by
 intro pins s σ H D I h
 refine wpAny_Assign_stores (fh (he pins s σ H _ I h) fun v s1 ⟨x,H1,I1,r1,q1⟩=>?_) hs hw
 rw[h1]
 exact fh (hg pins s1 σ H1 x v _ I1 r1 q1) fun _ s2 q=>q
theorem GR {i:Nat}{x:Str}{e:Expr}{te:TE}{pos':Pos}(hN:X.N.Nodup) (hi:X.N[i]? =some x) (hx:Loc X.env.scope x) (he:PE X e te) (hs:swapsWith e (some (.Name x pos')) pos.line X.env=pure false:=by rfl) (hf:X.fn x=true\/X.env.scope.names.lookup x=some .local:=by first | exact .inl rfl | exact .inr rfl | assumption):
  PS X (.Assign [.Name x pos'] e pos) (DK te (pg i)):=by
 intro pins s σ H D I h
 refine wpAny_Assign_Name (fh (he pins s σ H _ I h) fun v s1 ⟨y,H1,I1,r1,q1⟩=>?_) hs
 exact qd I1 hN hi hx r1 (fun s2 I2=>⟨_,H1,I2,q1⟩) hf
noncomputable def NV (i:Nat) (te:TE) (ti:MC):TS:=fun D σ H=>∃x,σ[i]? =some (some x)/\te σ H fun y H1=>ti x y H1 fun z H2=>D.nx (σ.set i (some z)) H2
theorem GV {i : Nat} {x : Str} {e : Expr} {te : TE} {op : Operator} {ti : MC} {pos' : Pos} (hN : X.N.Nodup) (hi : X.N[i]? = some x) (hx : Loc X.env.scope x) (he : PE X e te) (ho : NT X op ti) (hf : X.fn x = true \/ X.env.scope.names.lookup x = some .local := by first | exact .inl rfl | exact .inr rfl | assumption) :
    PS X (.AugAssign (.Name x pos') op e pos) (NV i te ti):=by
  intro pins s σ H D I h
  obtain⟨v,e1,h⟩:=h
  obtain⟨m,hn,hl⟩:=I.loc
  have vis:Ba X.env.scope x:=by rcases hx with k | k;exact .inl k;exact .inr (.inl k)
  obtain⟨u,r,l⟩:=hl i x v hi e1 vis
  refine wpAny_AugAssign_Name ?_
  have go:wpAny (model X.prog X.w) X.A (eval e X.env) (fun w s₂=>wpAny (model X.prog X.w) X.A (inplaceOp op u w) (fun r s₃=>wpAny (model X.prog X.w) X.A (storeName X.env x r) (fun _=>SP X pins D .next) X.xe s₃) X.xe s₂) X.xe s:=by
    refine fh (he pins s σ H _ I h) fun w s1 ⟨y,H1,I1,r1,q1⟩=>?_
    refine fh (ho pins s1 σ H1 v y u w _ I1 r r1 q1) fun z s2 ⟨zv,H2,I2,r2,q2⟩=>?_
    exact qd I2 hN hi hx r2 (fun s3 I3=>⟨_,H2,I3,q2⟩) hf
  rcases l with⟨hk,hm⟩ | ⟨hk,c,hc,hcell⟩
  . exact wpAny_loadName_local I.ok.kind hk hn hm go
  . rcases hk with hk | hk
    . exact wpAny_loadName_cell I.ok.kind hk hc hcell go
    . rcases hx with k | k
      . have:X.env.scope.names.lookup x=some .free:=hk
        rw[k] at this;cases this
      . have:X.env.scope.names.lookup x=some .free:=hk
        rw[k] at this;cases this
noncomputable def SE (f:Int->Int->Int):MC:=fun x y H Q=>∃i j,x= .int i/\y= .int j/\Q (.int (f i j)) H
theorem GW:NT X .Add (SE fun i j=>i+j):=by
 intro pins s σ H x y v u Q I r1 r2 h
 obtain⟨i,j,e1,e2,q⟩:=h
 subst e1;subst e2
 obtain⟨t,rfl⟩:=r1
 obtain⟨t',rfl⟩:=r2
 exact iadd_int ⟨.int _,H,I.tok _,⟨_,rfl⟩,q⟩
end
section
variable {X:Cx}{pos:Pos}
noncomputable def GX (c:TT) (tb:TS):TS:=fun D σ H=>∃W:Nat->St->Hp->Prop,(∃m,W m σ H)/\∀m σ H,W m σ H->
 c σ H fun b H1=>if b=true then ∃N:St->Hp->Prop,(∀σ' H',N σ' H'->∃m',m' < m/\W m' σ' H')/\tb {D with nx:=N,ct:=N,bk:=D.nx} σ H1 else D.nx σ H1
theorem Bg {c:Expr}{body:List Stmt}{tc:TT}{tb:TS}(hp:PassesOwn (model X.prog X.w) X.A X.env X.xe) (hc:PT X c tc) (hb:vh X body tb):PS X (.While c body [] pos) (GX tc tb):=by
 intro pins s σ H D I h
 obtain⟨W,⟨m0,w0⟩,turn⟩:=h
 refine wpAny_While (codeAny_whileLoop (fun n s'=>∃σ' H',Inv X pins σ' H' s'/\W n σ' H') ?_ m0 ⟨σ,H,I,w0⟩)
 rintro n s1 ⟨σ1,H1,I1,w1⟩
 refine wpAny_passesOwn hp (fh (hc pins s1 σ1 H1 _ I1 (turn n σ1 H1 w1)) fun b s2 ⟨H2,I2,q2⟩=>?_)
 cases b with
 | true=>
  obtain⟨N,hN,q2⟩:=q2
  rw[if_pos rfl]
  refine wpAny_passesOwn hp (fh (hb pins s2 σ1 H2 _ I2 q2) fun f s3 q3=>?_)
  cases f with
  | next=>
   obtain⟨σ3,H3,I3,n3⟩:=q3
   obtain⟨m',hm,w3⟩:=hN σ3 H3 n3
   exact⟨m',hm,σ3,H3,I3,w3⟩
  | cont=>
   obtain⟨σ3,H3,I3,n3⟩:=q3
   obtain⟨m',hm,w3⟩:=hN σ3 H3 n3
   exact⟨m',hm,σ3,H3,I3,w3⟩
  | brk=>exact q3
  | ret v=>exact q3
 | false=>
  rw[if_neg Bool.false_ne_true]
  exact wpAny_execs_nil ⟨σ1,H2,I2,q2⟩
end
structure It where
 go:Nat->Hp->Prop
 Jp:Nat->Hp->V->Hp->Prop
 stop:Nat->Hp->Prop
noncomputable def kD (X:Cx) (pins:List (Addr×Obj)) (H:Hp) (b:Addr):Prop:=
 H b=none/\b≠X.env.locals/\b∉X.fs/\(b∈X.ex\/X.s₀.heap.objs.size<=b)/\(∀x c,X.env.cells.lookup x=some c->c≠b)/\∀p∈X.pn++pins,p.1≠b
theorem Inv.vm {X:Cx}{pins:List (Addr×Obj)}{σ:St}{H H':Hp}{s:Shared}{b:Addr}(I:Inv X pins σ H s) (hb:s.heap.objs.size<=b) (hn:H' b=none):kD X pins H' b:=by
 refine⟨hn,Nat.ne_of_gt (Nat.lt_of_lt_of_le I.lt hb),I.Gx hb,.inr (Nat.le_trans I.sz hb),fun x c e z=>?_,fun p hp z=>?_⟩
 ·obtain⟨v,q⟩:=I.cell x c e
  exact absurd (Nat.lt_of_lt_of_le q.lt (by rw[z];exact hb)) (Nat.lt_irrefl _)
 ·exact absurd (Nat.lt_of_lt_of_le (Heap.lt_size (I.pin p hp).1) (by rw[z];exact hb)) (Nat.lt_irrefl _)
structure Turn (P:Program) (w:World) (K:PySem.W.Frag) (tg:Expr) (J:It) (fp:List Addr) (it:Addr) (tn:Nat->Heap->Prop):Prop where
 mem:it∈fp
 obj:∀i h,tn i h->∀b∈fp,∃o,h.get? b=some o/\∀v,o.data≠.cell v
 keep:∀i h h',tn i h->(∀b∈fp,∀o,h.get? b=some o->h'.get? b=some o)->tn i h'
 item:∀(X:Cx),X.prog=P->X.w=w->X.K=K->X.calm=true->∀(i:Nat) (pins:List (Addr×Obj)) (s:Shared) (σ:St) (H:Hp) (E:Value->Shared->Prop),Inv X pins σ H s->(∀b∈fp,kD X pins H b)->tn i s.heap->J.go i H->
  wpAny (model P w) X.A (pyNext (.ref it)) (fun r s1=>∃u,r=some u/\
   wpAny (model P w) X.A (letOwnedTupleGo tg (.ref it) u) (fun _ s2=>∃x H',Inv X pins σ H' s2/\RelV x u/\J.Jp i H x H'/\tn (i+1) s2.heap/\∀b∈fp,H' b=none) E s1) E s
 done:∀(X:Cx),X.prog=P->X.w=w->X.K=K->X.calm=true->∀(i:Nat) (pins:List (Addr×Obj)) (s:Shared) (σ:St) (H:Hp) (E:Value->Shared->Prop),Inv X pins σ H s->(∀b∈fp,kD X pins H b)->tn i s.heap->J.stop i H->
  wpAny (model P w) X.A (pyNext (.ref it)) (fun r s1=>r=none/\Inv X pins σ H s1) E s
 self:∀(A:Around) (i:Nat) (s:Shared) (Q:Value->Shared->Prop) (E:Value->Shared->Prop),tn i s.heap->Q (.ref it) s->wpAny (model P w) A (pyIter (.ref it)) Q E s
noncomputable abbrev TI:=St->Hp->(It->Hp->Prop)->Prop
noncomputable def NW (X:Cx) (pins:List (Addr×Obj)) (σ:St) (tg:Expr) (R:It->Hp->Prop) (itv:Value) (s2:Shared):Prop:=
 ∃(it:Addr) (fp:List Addr) (tn:Nat->Heap->Prop) (J:It) (H':Hp),itv= .ref it/\Inv X pins σ H' s2/\Turn X.prog X.w X.K tg J fp it tn/\tn 0 s2.heap/\(∀b∈fp,kD X pins H' b)/\R J H'
noncomputable def PI (X:Cx) (tg iter:Expr) (wi:TI):Prop:=
 ∀(pins:List (Addr×Obj)) (s:Shared) (σ:St) (H:Hp) (R:It->Hp->Prop),Inv X pins σ H s->wi σ H R->
  wpAny (model X.prog X.w) X.A (eval iter X.env) (fun v s1=>wpAny (model X.prog X.w) X.A (pyIter v) (NW X pins σ tg R) X.xe s1) X.xe s
theorem Bh {M : Model} {A : Around} {E : Value -> Shared -> Prop} {s : Shared} {tg : Expr} {it : Addr} {u : Value} {o : Obj} {n : String} {vs : Array Value} {Q : Unit -> Shared -> Prop} (ho : s.heap.get? it = some o) (hc : o.cls = .type n) (hd : o.data = .fields vs)
    (hn:["enumerate","zip","dict_itemiterator","dict_reverseitemiterator","odict_iterator","itertools.zip_longest","itertools.pairwise"].contains n=false) (hQ:Q () s):wpAny M A (letOwnedTupleGo tg (.ref it) u) Q E s:=by
  unfold letOwnedTupleGo
  cases tg <;> first
    | exact wpAny_pure hQ
    | (cases u <;> first
        | exact wpAny_pure hQ
        | (refine wpAny_bind (wpAny_load ho ?_)
           rw[hc,hd]
           show wpAny M A (if(["enumerate","zip","dict_itemiterator","dict_reverseitemiterator","odict_iterator","itertools.zip_longest","itertools.pairwise"].contains n && vs[0]? == some (rawInt _))=true then _ else _) Q E s
           rw[if_neg (by intro h;rw[hn,Bool.false_and] at h;cases h)]
           exact wpAny_pure hQ))
noncomputable def NX (K:PySem.W.Frag) (a:Addr):It:=
 ⟨fun i H=>∃xs x,mR K H a xs/\xs[i]? =some x,fun i H x H'=>H'=H/\∀xs,mR K H a xs->xs[i]? =some x,fun i H=>∃xs,mR K H a xs/\xs.length<=i⟩
noncomputable def NY (K:PySem.W.Frag) (a:Addr):It:=
 ⟨fun i H=>∃xs x,tM K H a xs/\xs[i]? =some x,fun i H x H'=>H'=H/\∀xs,tM K H a xs->xs[i]? =some x,fun i H=>∃xs,tM K H a xs/\xs.length<=i⟩
noncomputable def MD (lo:Int) (n:Nat):It:=⟨fun i _=>i < n,fun i H x H'=>H'=H/\x= .int (lo+i),fun i _=>n<=i⟩
theorem Aa {P:Program}{w:World}{K:PySem.W.Frag}{tg:Expr}(a it:Addr):Turn P w K tg (NX K a) [it] it (fun i h=>h.IsListIter it a i) where
 mem:=by simp
 obj:=fun i h st b hb=>by
  have e:b=it:=by simpa using hb
  subst e
  obtain⟨o,e,c,d⟩:=st
  exact⟨o,e,fun v z=>by rw[d] at z;cases z⟩
 keep:=fun i h h' st k=>st.at fun o e=>k it (by simp) o e
 item:=by
  intro X hP hw hK hc i pins s σ H E I hf st hg
  subst hP hw hK
  obtain⟨xs,x,hq,hx⟩:=hg
  obtain⟨its,rv,p,hz⟩:=I.list hq
  obtain⟨u,hu,ru⟩:=rv.get hx
  obtain⟨f0,f1,f2,f3,f4,f5⟩:=hf it (by simp)
  refine wpAny_pyNext_list_item st p.isList (x:=u) (by simpa using hu) fun h' st' sb=>?_
  have I1:Inv X pins σ H {s with heap:=h'}:=I.turned (t':=s.toks) (fun b o hb e=>(sb.2 b hb).trans e) f0 f1 f3 f4 f5
  obtain⟨o,e,c,d⟩:=id st'
  exact⟨u,rfl,Bh (s:={s with heap:=h'}) e c d (by decide) ⟨x,H,I1,ru,⟨rfl,fun ys hy=>by rw[I.vj hy hq];exact hx⟩,st',fun b hb=>(hf b hb).1⟩⟩
 done:=by
  intro X hP hw hK hc i pins s σ H E I hf st hg
  subst hP hw hK
  obtain⟨xs,hq,hx⟩:=hg
  obtain⟨its,rv,p,hz⟩:=I.list hq
  obtain⟨f0,f1,f2,f3,f4,f5⟩:=hf it (by simp)
  have hl:=rv.length
  exact wpAny_pyNext_list_end (I.ok.hd hc) st p.isList (by simp;omega) fun h' eb=>⟨rfl,I.turned (t':=s.toks) (fun b o hb e=>eb b o hb e) f0 f1 f3 f4 f5⟩
 self:=fun _ _ _ _ _ st h=>wpAny_pyIter_listiter st h
theorem xh {P:Program}{w:World}{K:PySem.W.Frag}{tg:Expr}(a it:Addr):Turn P w K tg (NY K a) [it] it (fun i h=>h.IsTupleIter it a i) where
 mem:=by simp
 obj:=fun i h st b hb=>by
  have e:b=it:=by simpa using hb
  subst e
  obtain⟨o,e,c,d⟩:=st
  exact⟨o,e,fun v z=>by rw[d] at z;cases z⟩
 keep:=fun i h h' st k=>st.at fun o e=>k it (by simp) o e
 item:=by
  intro X hP hw hK hc i pins s σ H E I hf st hg
  subst hP hw hK
  obtain⟨xs,x,hq,hx⟩:=hg
  obtain⟨its,rv,p,hz⟩:=I.tuple hq
  obtain⟨u,hu,ru⟩:=rv.get hx
  obtain⟨f0,f1,f2,f3,f4,f5⟩:=hf it (by simp)
  refine wpAny_pyNext_tuple_item st (show s.heap.IsTuple a its.toArray from p) (x:=u) (by simpa using hu) fun h' st' sb=>?_
  have I1:Inv X pins σ H {s with heap:=h'}:=I.turned (t':=s.toks) (fun b o hb e=>(sb.2 b hb).trans e) f0 f1 f3 f4 f5
  obtain⟨o,e,c,d⟩:=id st'
  exact⟨u,rfl,Bh (s:={s with heap:=h'}) e c d (by decide) ⟨x,H,I1,ru,⟨rfl,fun ys hy=>by rw[I.sr hy hq];exact hx⟩,st',fun b hb=>(hf b hb).1⟩⟩
 done:=by
  intro X hP hw hK hc i pins s σ H E I hf st hg
  subst hP hw hK
  obtain⟨xs,hq,hx⟩:=hg
  obtain⟨its,rv,p,hz⟩:=I.tuple hq
  obtain⟨f0,f1,f2,f3,f4,f5⟩:=hf it (by simp)
  have hl:=rv.length
  exact wpAny_pyNext_tuple_end (I.ok.hd hc) st (show s.heap.IsTuple a its.toArray from p) (by simp;omega) fun h' eb=>⟨rfl,I.turned (t':=s.toks) (fun b o hb e=>eb b o hb e) f0 f1 f3 f4 f5⟩
 self:=fun _ _ _ _ _ st h=>wpAny_pyIter_tupleiter st h
theorem xj {P:Program}{w:World}{K:PySem.W.Frag}{tg:Expr}(it:Addr) (lo:Int) (n:Nat):Turn P w K tg (MD lo n) [it] it (fun i h=>IsRangeIter h it (lo+(i:Nat) * 1) ((n:Int) - (i:Nat)) 1) where
  mem:=by simp
  obj := fun i h st b hb => by
    have e:b=it:=by simpa using hb
    subst e
    exact⟨_,st,fun v z=>by
      have z':Data.fields _=Data.cell v:=z
      cases z'⟩
  keep:=fun i h h' st k=>k it (by simp) _ st
  item:=by
    intro X hP hw hK hc i pins s σ H E I hf st hg
    subst hP hw hK
    obtain⟨f0,f1,f2,f3,f4,f5⟩:=hf it (by simp)
    have W:=Walks.range (prog:=X.prog) (w:=X.w) (I.ok.hd hc) it lo 1 n
    refine W.item i s _ _ hg st fun v h' tk hv st' kk=>?_
    obtain⟨t,rfl⟩:=hv
    have I1:Inv X pins σ H {s with heap:=h',toks:=tk}:=I.turned (fun b o hb e=>kk b o (by simpa using hb) e) f0 f1 f3 f4 f5
    refine⟨_,rfl,Bh (s:={s with heap:=h',toks:=tk}) (n:="range_iterator") st' rfl rfl (by decide) ⟨.int (lo+i),H,I1,⟨t,?_⟩,⟨rfl,rfl⟩,st',fun b hb=>(hf b hb).1⟩⟩
    rw[Int.mul_one]
  done:=by
    intro X hP hw hK hc i pins s σ H E I hf st hg
    subst hP hw hK
    obtain⟨f0,f1,f2,f3,f4,f5⟩:=hf it (by simp)
    exact wpAny_pyNext_range_end (I.ok.hd hc) st (by have:n<=i:=hg;omega) fun h' eb=>⟨rfl,I.turned (t':=s.toks) (fun b o hb e=>eb b o hb e) f0 f1 f3 f4 f5⟩
  self:=fun _ _ _ _ _ st h=>wpAny_pyIter_rangeiter st h
section
variable {X:Cx}{tg:Expr}
noncomputable def Kg (K:PySem.W.Frag) (tl:TE):TI:=fun σ H R=>tl σ H fun x H1=>∃a,x= .ref a/\(∃xs,mR K H1 a xs)/\R (NX K a) H1
noncomputable def NZ (K:PySem.W.Frag) (tl:TE):TI:=fun σ H R=>tl σ H fun x H1=>∃a,x= .ref a/\(∃xs,tM K H1 a xs)/\R (NY K a) H1
theorem yK {l:Expr}{tl:TE}(hl:PE X l tl):PI X tg l (Kg X.K tl):=by
 intro pins s σ H R I h
 refine fh (hl pins s σ H _ I h) fun v s1 ⟨x,H1,I1,r1,q1⟩=>?_
 obtain⟨a,e,⟨xs,hq⟩,q⟩:=q1
 subst e
 cases r1
 obtain⟨its,rv,p,hz⟩:=I1.list hq
 refine wpAny_pyIter_list p.isList ?_
 refine⟨s1.heap.objs.size,[s1.heap.objs.size],_,_,H1,rfl,I1.kept (t':=s1.toks) fun b o e=>Heap.get?_push_of_some _ e,Aa a _,⟨_,Heap.get?_push_size _ rfl,rfl,rfl⟩,fun b hb=>?_,q⟩
 have e:b=s1.heap.objs.size:=by simpa using hb
 subst e
 exact I1.vm (Nat.le_refl _) (I1.hok.fresh (Nat.le_refl _))
theorem Bj {l:Expr}{tl:TE}(hl:PE X l tl):PI X tg l (NZ X.K tl):=by
 intro pins s σ H R I h
 refine fh (hl pins s σ H _ I h) fun v s1 ⟨x,H1,I1,r1,q1⟩=>?_
 obtain⟨a,e,⟨xs,hq⟩,q⟩:=q1
 subst e
 cases r1
 obtain⟨its,rv,p,hz⟩:=I1.tuple hq
 refine wpAny_pyIter_tuple (show s1.heap.IsTuple a its.toArray from p) ?_
 refine⟨s1.heap.objs.size,[s1.heap.objs.size],_,_,H1,rfl,I1.kept (t':=s1.toks) fun b o e=>Heap.get?_push_of_some _ e,xh a _,⟨_,Heap.get?_push_size _ rfl,rfl,rfl⟩,fun b hb=>?_,q⟩
 have e:b=s1.heap.objs.size:=by simpa using hb
 subst e
 exact I1.vm (Nat.le_refl _) (I1.hok.fresh (Nat.le_refl _))
theorem Bk {pins:List (Addr×Obj)}{σ:St}{H:Hp}{s:Shared}{R:It->Hp->Prop}{E:Value->Shared->Prop}{lo hi:Int}{t u v:Tok}{tk:Nat}(I:Inv X pins σ H s) (h1:-(2 ^ 62)<=lo) (h2:lo < 2 ^ 62) (h3:-(2 ^ 62)<=hi) (h4:hi < 2 ^ 62)
  (q:R (MD lo (hi - lo).toNat) H):wpAny (model X.prog X.w) X.A (pyIter (.ref s.heap.objs.size)) (NW X pins σ tg R) E {s with heap:=s.heap.push {cls:=.type "range",data:=.fields #[.int lo t,.int hi u,.int 1 v]},toks:=tk}:=by
 refine wpAny_pyIter_range (IsRange.new ..) (small_one h1 h2 h3 h4) ?_
 have I1:Inv X pins σ H {s with heap:=s.heap.push {cls:=.type "range",data:=.fields #[.int lo t,.int hi u,.int 1 v]},toks:=tk}:=I.kept fun b o e=>Heap.get?_push_of_some _ e
 refine⟨(s.heap.push {cls:=.type "range",data:=.fields #[.int lo t,.int hi u,.int 1 v]}).objs.size,[(s.heap.push {cls:=.type "range",data:=.fields #[.int lo t,.int hi u,.int 1 v]}).objs.size],_,_,H,rfl,
  I1.kept (t':=tk) fun b o e=>Heap.get?_push_of_some _ e,xj _ lo (hi - lo).toNat,?_,fun b hb=>?_,q⟩
 ·have e1:lo+((0:Nat):Int) * 1=lo:=by simp
  have e2:(((hi - lo).toNat:Nat):Int) - ((0:Nat):Int)=Builtin.Range.rangeSize lo hi 1:=by rw[rangeSize_one];split <;> omega
  show IsRangeIter _ _ (lo+((0:Nat):Int) * 1) ((((hi - lo).toNat:Nat):Int) - ((0:Nat):Int)) 1
  rw[e1,e2]
  exact Heap.get?_push_size _ rfl
 ·have e:b=(s.heap.push {cls:=.type "range",data:=.fields #[.int lo t,.int hi u,.int 1 v]}).objs.size:=by simpa using hb
  subst e
  exact I1.vm (Nat.le_refl _) (I1.hok.fresh (Nat.le_refl _))
noncomputable def Kh (ta:TA):TI:=fun σ H R=>ta σ H fun vs H1=>∃j:Int,vs=[.int j]/\-(2 ^ 62)<=j/\j < 2 ^ 62/\R (MD 0 j.toNat) H1
theorem Ab {a:Expr}{ta:TA}{p pos:Pos}(hg:Gl X "range") (hm:X.mg "range" =none) (ha:PA X [a] ta) (hs:starEach [a] X.env=[(false,eval a X.env)]:=by rfl):PI X tg (.Call (.Name "range" p) [a] [] pos) (Kh ta):=by
 intro pins s σ H R I h
 refine Call_ (ow I hg hm boot_range (PyProof.Rows.callWith_type1 (fh (ha pos pins s σ H _ I h) fun us s1 ⟨vs,H1,I1,r1,q1⟩=>?_) hs rfl))
 obtain⟨j,e,q1,q2,q⟩:=q1
 subst e
 cases r1 with
 | cons r rr=>
  cases rr
  obtain⟨t,rfl⟩:=r
  exact call_range_1 (Bk I1 (by omega) (by omega) q1 q2 (by simpa using q))
noncomputable def N3 (wi:TI) (g:TG) (tb:TS):TS:=fun D σ H=>wi σ H fun J H1=>∃W:Nat->Nat->St->Hp->Prop,(∃m,W 0 m σ H1)/\∀i m σ H,W i m σ H->
 (J.stop i H/\D.nx σ H)\/(J.go i H/\∃N:St->Hp->Prop,(∀σ' H',N σ' H'->∃m',m' < m/\W (i+1) m' σ' H')/\∀x H',J.Jp i H x H'->g x σ H' fun σ2 H2=>tb {D with nx:=N,ct:=N,bk:=D.nx} σ2 H2)
noncomputable def jy (fp:List Addr) (h:Heap):List (Addr×Obj):=fp.filterMap fun b=>(h.get? b).map fun o=>(b,o)
theorem cD {fp:List Addr}{h:Heap}{b:Addr}{o:Obj}(hb:b∈fp) (e:h.get? b=some o):(b,o)∈jy fp h:=List.mem_filterMap.mpr ⟨b,hb,by rw[e];rfl⟩
theorem jF {fp:List Addr}{h:Heap}{p:Addr×Obj}(hp:p∈jy fp h):p.1∈fp/\h.get? p.1=some p.2:=by
 obtain⟨b,hb,e⟩:=List.mem_filterMap.mp hp
 cases q:h.get? b with
 | none=>rw[q] at e;cases e
 | some o=>
  rw[q] at e
  have e':(b,o)=p:=Option.some.inj e
  subst e'
  exact⟨hb,q⟩
theorem Inv.pinned {pins:List (Addr×Obj)}{σ:St}{H:Hp}{s:Shared}{fp:List Addr}(I:Inv X pins σ H s) (hf:∀b∈fp,kD X pins H b) (ho:∀b∈fp,∃o,s.heap.get? b=some o/\∀v,o.data≠.cell v):Inv X (pins++jy fp s.heap) σ H s:=
 I.yE fun p hp=>(List.mem_append.mp hp).elim (fun z=>I.pin p (List.mem_append_right _ z)) fun z=>by
  obtain⟨hb,e⟩:=jF z
  obtain⟨f0,f1,f2,_⟩:=hf p.1 hb
  obtain⟨o,e',d⟩:=ho p.1 hb
  rw[e] at e';cases e'
  exact⟨e,f0,f1,f2,d⟩
theorem Inv.iT {pins pl:List (Addr×Obj)}{σ:St}{H:Hp}{s:Shared}(I:Inv X (pins++pl) σ H s):Inv X pins σ H s:=I.yE fun p hp=>I.pin p (List.mem_append_right _ (List.mem_append_left _ hp))
theorem xm {iter:Expr}{body:List Stmt}{wi:TI}{g:TG}{tb:TS}{pos:Pos}(hp:PassesOwn (model X.prog X.w) X.A X.env X.xe) (hc:X.calm=true) (hi:PI X tg iter wi) (hg:PG X tg g) (hb:vh X body tb)
  (hs:∀x,foldedSetIterable iter X.env x=pure x:=by intro _;rfl):PS X (.For tg iter body [] pos) (N3 wi g tb):=by
 intro pins s σ H D I h
 refine wpAny_For (fh (hi pins s σ H _ I h) fun v s1 h1=>fh h1 fun itv s2 h2=>?_) hs
 obtain⟨it,fp,tn,J,H2,e,I2,T,st2,f2,W,⟨m0,w0⟩,turn⟩:=h2
 subst e
 have GY:∀{H':Hp},(∀b∈fp,H' b=none)->∀b∈fp,kD X pins H' b:=fun hn b hb=>⟨hn b hb,(f2 b hb).2⟩
 refine codeAny_forLoop_any (fun n s'=>∃i σ' H',Inv X pins σ' H' s'/\tn i s'.heap/\(∀b∈fp,H' b=none)/\W i n σ' H') ?_ m0 ⟨0,σ,H2,I2,st2,fun b hb=>(f2 b hb).1,w0⟩
 rintro n s3 ⟨i,σ3,H3,I3,st3,SG,w3⟩
 rcases turn i n σ3 H3 w3 with⟨stop,qn⟩ | ⟨go,N,hN,step⟩
 ·refine wpAny_passesOwn hp (fh (T.done X rfl rfl rfl hc i pins s3 σ3 H3 X.xe I3 (GY SG) st3 stop) fun r s4 ⟨hr,I4⟩=>?_)
  subst hr
  exact wpAny_execs_nil ⟨σ3,H3,I4,qn⟩
 ·refine wpAny_passesOwn hp (fh (T.item X rfl rfl rfl hc i pins s3 σ3 H3 X.xe I3 (GY SG) st3 go) fun r s4 ⟨u,hr,h4⟩=>?_)
  subst hr
  refine wpAny_passesOwn hp (fh h4 fun _ s5 ⟨x,H5,I5,r5,y5,Kl,Uo⟩=>?_)
  have Up:=I5.pinned (GY Uo) (T.obj _ _ Kl)
  refine wpAny_passesOwn hp (fh (hg _ s5 σ3 H5 x u _ Up r5 (step x H5 y5)) fun _ s6 ⟨Uq,H6,I6,q6⟩=>?_)
  refine wpAny_passesOwn hp (fh (hb _ s6 Uq H6 _ I6 q6) fun f s7 q7=>?_)
  have again:∀{Bl:St}{H7:Hp},Inv X (pins++jy fp s5.heap) Bl H7 s7->N Bl H7->∃m,m < n/\∃i σ' H',Inv X pins σ' H' s7/\tn i s7.heap/\(∀b∈fp,H' b=none)/\W i m σ' H':=fun {Bl H7} I7 n7=>by
   obtain⟨m',hm,w7⟩:=hN Bl H7 n7
   refine⟨m',hm,i+1,Bl,H7,I7.iT,T.keep _ _ _ Kl fun b hb o e=>(I7.pin (b,o) (List.mem_append_right _ (List.mem_append_right _ (cD hb e)))).1,fun b hb=>?_,w7⟩
   obtain⟨o,e,d⟩:=T.obj _ _ Kl b hb
   exact(I7.pin (b,o) (List.mem_append_right _ (List.mem_append_right _ (cD hb e)))).2.1
  cases f with
  | next=>obtain⟨Bl,H7,I7,n7⟩:=q7;exact again I7 n7
  | cont=>obtain⟨Bl,H7,I7,n7⟩:=q7;exact again I7 n7
  | brk=>obtain⟨Bl,H7,I7,q7⟩:=q7;exact⟨Bl,H7,I7.iT,q7⟩
  | ret v=>obtain⟨x7,Bl,H7,I7,r7,q7⟩:=q7;exact⟨x7,Bl,H7,I7.iT,r7,q7⟩
end
noncomputable abbrev R2:=V->V->Hp->VK->Prop
noncomputable def tR (X:Cx) (f:Value->Value->Sem Value) (r:R2):Prop:=
 ∀(pins:List (Addr×Obj)) (s:Shared) (σ:St) (H:Hp) (x y:V) (v u:Value) (Q:VK),Inv X pins σ H s->RelV x v->RelV y u->r x y H Q->
  wpAny (model X.prog X.w) X.A (f v u) (EP X pins σ Q) X.xe s
noncomputable def jm (X:Cx) (f:Value) (r:List V->Hp->VK->Prop):Prop:=
 ∀(pins:List (Addr×Obj)) (s:Shared) (σ:St) (H:Hp) (xs:List V) (us:List Value) (Q:VK),Inv X pins σ H s->Vals xs us->r xs H Q->
  wpAny (model X.prog X.w) X.A (call f us) (EP X pins σ Q) X.xe s
noncomputable def Jq (r:R2) (ta tb:TE):TE:=fun σ H Q=>ta σ H fun x H1=>tb σ H1 fun y H2=>r x y H2 Q
noncomputable def rI (C:Int->Int->Prop) (g:Int->Int->V):R2:=fun x y H Q=>∃i j,x= .int i/\y= .int j/\C i j/\Q (g i j) H
noncomputable def Jr (g:Int->Int->V):R2:=fun x y H Q=>∃i j,x= .int i/\y= .int j/\Q (g i j) H
section
variable {X:Cx}{a b c:Expr}{ta tb tc:TE}{pos:Pos}
theorem GZ (ha:PE X a ta) (hb:PE X b tb){pins:List (Addr×Obj)}{s:Shared}{σ:St}{H:Hp}{R:V->V->Hp->Prop}(I:Inv X pins σ H s)
  (h:ta σ H fun x H1=>tb σ H1 fun y H2=>R x y H2){Q:Value->Shared->Prop}{f:Value->Value->Sem Value}
  (hf:∀v u s2 x y H2,Inv X pins σ H2 s2->RelV x v->RelV y u->R x y H2->wpAny (model X.prog X.w) X.A (f v u) Q X.xe s2):
  wpAny (model X.prog X.w) X.A (eval a X.env) (fun v s₁=>wpAny (model X.prog X.w) X.A (eval b X.env) (fun u s₂=>wpAny (model X.prog X.w) X.A (f v u) Q X.xe s₂) X.xe s₁) X.xe s:=by
 refine fh (ha pins s σ H _ I h) fun v s1 ⟨x,H1,I1,r1,q1⟩=>?_
 refine fh (hb pins s1 σ H1 _ I1 q1) fun u s2 ⟨y,H2,I2,r2,q2⟩=>?_
 exact hf v u s2 x y H2 I2 r1 r2 q2
theorem Km {op:Operator}{r:R2}(ho:tR X (binaryOp op) r) (ha:PE X a ta) (hb:PE X b tb):PE X (.BinOp a op b pos) (Jq r ta tb):=by
 intro pins s σ H Q I h
 exact wpAny_BinOp (GZ ha hb I h fun v u s2 x y H2 I2 rx ry q=>ho pins s2 σ H2 x y v u Q I2 rx ry q)
theorem ME {f:Value->Value->Sem Value}{C:Int->Int->Prop}{g:Int->Int->Int}
  (rule:∀(i j:Int) (t u:Tok) (s:Shared) (Q:Value->Shared->Prop) (E:Value->Shared->Prop),C i j->Q (.int (g i j) s.toks) {s with toks:=s.toks+1}->wpAny (model X.prog X.w) X.A (f (.int i t) (.int j u)) Q E s):
  tR X f (rI C fun i j=>.int (g i j)):=by
 intro pins s σ H x y v u Q I rx ry h
 obtain⟨i,j,rfl,rfl,hc,q⟩:=h
 obtain⟨t,rfl⟩:=rx
 obtain⟨t',rfl⟩:=ry
 exact rule i j t t' s _ _ hc ⟨.int (g i j),H,I.tok _,⟨_,rfl⟩,q⟩
theorem N4 {f:Value->Value->Sem Value}{g:Int->Int->Int}
  (rule:∀(i j:Int) (t u:Tok) (s:Shared) (Q:Value->Shared->Prop) (E:Value->Shared->Prop),Q (.int (g i j) s.toks) {s with toks:=s.toks+1}->wpAny (model X.prog X.w) X.A (f (.int i t) (.int j u)) Q E s):
  tR X f (Jr fun i j=>.int (g i j)):=by
 intro pins s σ H x y v u Q I rx ry h
 obtain⟨i,j,rfl,rfl,q⟩:=h
 obtain⟨t,rfl⟩:=rx
 obtain⟨t',rfl⟩:=ry
 exact rule i j t t' s _ _ ⟨.int (g i j),H,I.tok _,⟨_,rfl⟩,q⟩
theorem G0 {f:Value->Value->Sem Value}{g:Int->Int->Bool}
  (rule:∀(i j:Int) (t u:Tok) (s:Shared) (Q:Value->Shared->Prop) (E:Value->Shared->Prop),Q (.bool (g i j)) s->wpAny (model X.prog X.w) X.A (f (.int i t) (.int j u)) Q E s):
  tR X f (Jr fun i j=>.bl (g i j)):=by
 intro pins s σ H x y v u Q I rx ry h
 obtain⟨i,j,rfl,rfl,q⟩:=h
 obtain⟨t,rfl⟩:=rx
 obtain⟨t',rfl⟩:=ry
 exact rule i j t t' s _ _ ⟨.bl (g i j),H,I,rfl,q⟩
noncomputable def Kn (i j:Int):Prop:=0 < j/\j < 1073741824
noncomputable def N5 (i j:Int):Prop:=0<=j/\j<=1000000/\i.natAbs < 2 ^ 64
noncomputable def G1 (i j:Int):Prop:=(-(2 ^ 64) < i/\i < 2 ^ 64)\/(-(2 ^ 64) < j/\j < 2 ^ 64)
theorem G1.ok {i j:Int}(h:G1 i j):IntMulOk i j:=by
 rcases h with⟨h1,h2⟩ | ⟨h1,h2⟩
 ·exact .of_left (intBits_le_64 h1 h2)
 ·exact .of_right (intBits_le_64 h1 h2)
theorem G2:tR X (binaryOp .Add) (Jr fun i j=>.int (i+j)):=N4 fun _ _ _ _ _ _ _ q=>add_int q
theorem G3:tR X (binaryOp .Mult) (rI G1 fun i j=>.int (i * j)):=ME fun _ _ _ _ _ _ _ hc q=>mul_int q hc.ok
theorem DL:tR X (binaryOp .FloorDiv) (rI Kn fun i j=>.int (i / j)):=ME fun i j _ _ _ _ _ hc q=>by
 have h1:(0:Int) < j:=hc.1
 have h2:j < 1073741824:=hc.2
 exact floordiv_int (by omega) (by rw[Int.fdiv_eq_ediv_of_nonneg i (by omega)];exact q) (.inl (PyProof.noPylong_small (by omega)))
theorem G4:tR X (binaryOp .Mod) (rI (fun _ j=>0 < j) fun i j=>.int (i % j)):=ME fun i j _ _ _ _ _ hc q=>by
 have h1:(0:Int) < j:=hc
 exact mod_int' (by omega) (by rw[Int.fmod_eq_emod_of_nonneg i (by omega)];exact q)
theorem G5:tR X (binaryOp .Pow) (rI N5 fun i j=>.int (i ^ j.toNat)):=ME fun _ _ _ _ _ _ _ hc q=>pow_int_small hc.1 hc.2.1 hc.2.2 q
end
section
variable {X:Cx}{a b c:Expr}{ta tb tc:TE}{pos:Pos}
theorem G6 {pins:List (Addr×Obj)}{σ:St}{H:Hp}{s:Shared}{Q:VK}{k k':Bool}(I:Inv X pins σ H s) (q:Q (.bl k) H) (e:k=k'):EP X pins σ Q (.bool k') s:=by
 subst e
 exact⟨.bl k,H,I,rfl,q⟩
theorem Ko:tR X (compareOp .Lt) (Jr fun i j=>.bl (decide (i < j))):=G0 fun _ _ _ _ _ _ _ q=>lt_int q
theorem Kp:tR X (compareOp .Gt) (Jr fun i j=>.bl (decide (j < i))):=G0 fun _ _ _ _ _ _ _ q=>gt_int q
theorem Kq:tR X (compareOp .GtE) (Jr fun i j=>.bl (decide (j<=i))):=G0 fun _ _ _ _ _ _ _ q=>ge_int q
theorem DM:tR X (compareOp .IsNot) (fun x y H Q=>y= .dg/\Q (.bl (!decide (x= .dg))) H):=by
 intro pins s σ H x y v u Q I rx ry h
 obtain⟨rfl,q⟩:=h
 cases ry
 refine isnot_none_gen (G6 I q ?_)
 cases x <;> first
  | (cases rx;rfl)
  | (obtain⟨t,rfl⟩:=rx;rfl)
theorem Bm (b:Expr){op:CmpOp}(h:op≠.In:=by decide) (h2:op≠.NotIn:=by decide):behindInMarks op b=false:=by
 have e1:(op == CmpOp.In)=false:=by cases op <;> first | rfl | exact absurd rfl h
 have e2:(op == CmpOp.NotIn)=false:=by cases op <;> first | rfl | exact absurd rfl h2
 cases b <;> simp[behindInMarks,e1,e2]
theorem DN {op:CmpOp}{r:R2}(ho:tR X (compareOp op) r) (ha:PE X a ta) (hb:PE X b tb) (hm:behindInMarks op b=false):PE X (.Compare a [op] [b] pos) (Jq r ta tb):=by
 intro pins s σ H Q I h
 exact wpAny_Compare1 (GZ ha hb I h fun v u s2 x y H2 I2 rx ry q=>ho pins s2 σ H2 x y v u Q I2 rx ry q) hm
noncomputable def Kr (t:TE):TT:=fun σ H Q=>t σ H fun x H'=>∃k,x= .bl k/\Q k H'
theorem DO {op:CmpOp}{r:R2}(ho:tR X (compareOp op) r) (ha:PE X a ta) (hb:PE X b tb) (hm:behindInMarks op b=false):PT X (.Compare a [op] [b] pos) (Kr (Jq r ta tb)):=by
 intro pins s σ H Q I h
 refine wpAny_isTrue_Compare1 (fh (ha pins s σ H _ I h) fun v s1 ⟨x,H1,I1,r1,q1⟩=>fh (hb pins s1 σ H1 _ I1 q1) fun u s2 ⟨y,H2,I2,r2,q2⟩=>
  fh (ho pins s2 σ H2 x y v u _ I2 r1 r2 q2) fun c s3 ⟨z,H3,I3,r3,k,e,q3⟩=>?_) hm
 subst e
 cases r3
 exact wpAny_truthy_bool ⟨H3,I3,q3⟩
theorem oz:(sizeLine:Nat) < 2 ^ 63:=by rw[sizeLine_eq];decide
theorem xq:tR X (binaryOp .Add) (fun x y H Q=>∃i j,x= .str i/\y= .str j/\i.length+j.length<=sizeLine/\Q (.str (i++j)) H):=by
 intro pins s σ H x y v u Q I rx ry h
 obtain⟨i,j,rfl,rfl,hz,q⟩:=h
 obtain⟨t,rfl⟩:=rx
 obtain⟨t',rfl⟩:=ry
 exact add_str (fun t' tk=>⟨.str (i++j),H,I.tok _,⟨_,rfl⟩,q⟩) hz
theorem vals1 {x:V}{us:List Value}(r:Vals [x] us):∃u,us=[u]/\RelV x u:=by
 cases r with
 | cons r1 r2=>cases r2;exact⟨_,rfl,r1⟩
end
section
variable {prog:Program}{w:World}{A:Around}{E:Value->Shared->Prop}{s:Shared}{K:PySem.W.Frag}{x dx C f:Addr}{mA:Str->Option Value}{name:Str}{v:Value}
end
theorem rF.some_of {v:V}{o:Option Value}(r:rF (some v) o):∃u,o=some u/\RelV v u:=by
 cases o with
 | none=>exact(show False from r).elim
 | some u=>exact⟨u,rfl,r⟩
section
variable {P:Program}{w:World}{H H':Hp}{h h':Heap}{a C dx:Addr}{fs fs':List (Str×V)}
end
section
variable {X:Cx}{pins:List (Addr×Obj)}{σ:St}{H:Hp}{s:Shared}{a C dx:Addr}{fs:List (Str×V)}{f:Str}{v:V}{A:Around}{E:Value->Shared->Prop}
end
section
variable {X:Cx}{o e value:Expr}{f:Str}{pos pos' tpos:Pos}{ta tv:TE}
end
section
variable {X:Cx}{pins:List (Addr×Obj)}{σ:St}{H:Hp}{s:Shared}{A:Around}{E:Value->Shared->Prop}{Q:Value->Shared->Prop}{c:Value}{b:Bool}
end
structure jG (k:Nat) (A:Around):Prop where
 hd:A.handled=none
 dp:A.depth+3 * k+5 < recursionLimit
 un:A.units+16 * k+200 < cLine
 gd:A.guards=some []
theorem jG.mono {j k:Nat}{A:Around}(r:jG k A) (h:j<=k):jG j A:=⟨r.hd,by have:=r.dp;omega,by have:=r.un;omega,r.gd⟩
theorem jG.deeper {k:Nat}{A:Around}(r:jG (k+1) A) (env:Env):jG k (A.deeper env):=
 ⟨r.hd,by have:=r.dp;show A.depth+1+3 * k+5 < _;omega,by have:=r.un;show A.units+3+16 * k+200 < _;omega,r.gd⟩
theorem jG.depth {k:Nat}{A:Around}(r:jG k A):A.depth < recursionLimit:=by have:=r.dp;omega
theorem jG.units {k:Nat}{A:Around}(r:jG k A):A.units+64 < cLine:=by have:=r.un;omega
noncomputable def Ks:TA:=fun _ H Q=>Q [] H
noncomputable def FJ (ta:TE) (tr:TA):TA:=fun σ H Q=>ta σ H fun x H1=>tr σ H1 fun xs H2=>Q (x :: xs) H2
section
variable {X:Cx}{e:Expr}{es:List Expr}{te:TE}{t:TA}{pos:Pos}
theorem oA:PA X [] Ks:=fun _ _ _ _ H Q I h=>Calls.spliced_nil ⟨[],H,I,.nil,h⟩
theorem lI (ha:PE X e te) (hr:PA X es t) (hs:starEach (e :: es) X.env=(false,eval e X.env) :: starEach es X.env:=by rfl):PA X (e :: es) (FJ te t):=by
 intro pos pins s σ H Q I h
 rw[hs]
 show wpAny _ _ (spliced ((false,eval e X.env) :: backTo pos (starEach es X.env))) _ _ s
 refine Calls.spliced_cons (fh (ha pins s σ H _ I h) fun u s1 ⟨x,H1,I1,r1,q1⟩=>?_)
 exact fh (hr pos pins s1 σ H1 _ I1 q1) fun us s2 ⟨xs,H2,I2,r2,q2⟩=>⟨x :: xs,H2,I2,.cons r1 r2,q2⟩
noncomputable def N6 (t:TA):TE:=fun σ H Q=>t σ H fun xs H1=>xs.length<=sizeLine/\∀p,H1 p=none->Q (.ref p) (upd H1 p (.tup xs))
noncomputable def N7 (t:TA):TE:=fun σ H Q=>t σ H fun xs H1=>xs.length<=sizeLine/\∀p,H1 p=none->Q (.ref p) (upd H1 p (.lst xs))
theorem G7 {x1}(h:PA X es t):PE X (.Tuple es x1 pos) (N6 t):=by
 intro pins s σ H Q I hq
 refine wpAny_Tuple_spliced (fh (h pos pins s σ H _ I hq) fun us s1 ⟨xs,H1,I1,r,z,q⟩=>⟨by rw[<-r.length];exact z,?_⟩)
 have hf:H1 s1.heap.objs.size=none:=I1.hok.fresh (Nat.le_refl _)
 refine⟨.ref s1.heap.objs.size,upd H1 s1.heap.objs.size (.tup xs),I1.laid (t':=s1.toks) (fun b u e=>Heap.get?_push_of_some _ e) (Nat.le_refl _) ?_,rfl,q _ hf⟩
 exact⟨z,us,r,⟨_,Heap.get?_push_size _ rfl,rfl,_,rfl⟩⟩
theorem Bo (h:PA X es t):PE X (.List es pos) (N7 t):=by
 intro pins s σ H Q I hq
 refine wpAny_List_spliced (fh (h pos pins s σ H _ I hq) fun us s1 ⟨xs,H1,I1,r,z,q⟩=>⟨by rw[<-r.length];exact z,?_⟩)
 have hf:H1 s1.heap.objs.size=none:=I1.hok.fresh (Nat.le_refl _)
 refine⟨.ref s1.heap.objs.size,upd H1 s1.heap.objs.size (.lst xs),I1.laid (t':=s1.toks) (fun b u e=>Heap.get?_push_of_some _ e) (Nat.le_refl _) ?_,rfl,q _ hf⟩
 exact⟨z,us,0,r,Heap.get?_push_size _ rfl⟩
end
noncomputable abbrev Sp:=List V->Hp->VK->XK->Prop
noncomputable abbrev AZ:=List Env->Hp->Shared->XK->Value->Shared->Prop
structure DP (P:Program) (w:World) (K:PySem.W.Frag) (mg:Str->Option Value) (base:Heap) (A:Around) (outer:List Env) (s:Shared) (H:Hp):Prop where
 frames:A.frames=some outer
 mod:Mod K mg base
 bs:∀b o,base.get? b=some o->s.heap.get? b=some o/\H b=none
 Dy:base.objs.size<=s.heap.objs.size
 qc:s.heap.FunFrames base outer
 Jo:∀b∈frs outer,H b=none
 hok:kG P w H s.heap
 bare:AllBare s.gens
noncomputable def CE (outer:List Env) (P:Program) (w:World) (H:Hp) (s:Shared) (Q:VK) (u:Value) (s':Shared):Prop:=
 ∃v H',s'.os=s.os/\AllBare s'.gens/\Un (frs outer) [] H H' s.heap s'.heap/\kG P w H' s'.heap/\RelV v u/\Q v H'
noncomputable def CR (CX:AZ) (outer:List Env) (P:Program) (w:World) (H:Hp) (s:Shared) (Q:VK) (E:XK) (r:Result) (s':Shared):Prop:=
 match r with
 | .ok (.ret u)=>CE outer P w H s Q u s'
 | .ok _=>False
 | .error e=>CX outer H s E e s'
structure cJ (P:Program) (w:World) (K:PySem.W.Frag) (mg:Str->Option Value) (base:Heap) (CX:AZ) (k:Nat) (f:Addr) (fd:FuncData) (ps:List Str) (sp:Sp):Prop where
 len:∀vs H Q E,sp vs H Q E->vs.length=ps.length
 run:∀(A:Around) (outer:List Env) (s:Shared) (H:Hp) (args:Args) (us:List Value) (vs:List V) (Q:VK) (E:XK),jG k A->DP P w K mg base A outer s H->BindsTo s fd args (ps.zip us)->Vals vs us->sp vs H Q E->
  codeAny (model P w) A (.call (.ref f) args) (CR CX outer P w H s Q E) s
theorem cJ.mono {P:Program}{w:World}{K:PySem.W.Frag}{mg:Str->Option Value}{base:Heap}{CX:AZ}{j k:Nat}{f:Addr}{fd:FuncData}{ps:List Str}{sp:Sp}(F:cJ P w K mg base CX j f fd ps sp) (h:j<=k):
  cJ P w K mg base CX k f fd ps sp:=⟨F.len,fun A outer s H args us vs Q E hr=>F.run A outer s H args us vs Q E (hr.mono h)⟩
section
variable {X:Cx}{pins:List (Addr×Obj)}{σ:St}{H:Hp}{s s':Shared}
theorem Inv.N8 (I:Inv X pins σ H s):DP X.prog X.w X.K X.mg X.base X.A X.stack s H:=
 ⟨I.ok.frames,I.ok.mod,I.bs,Nat.le_trans I.ok.Dy I.sz,I.stack,I.tL,I.hok,I.bare⟩
theorem Inv.after {Q:VK}{u:Value}(I:Inv X pins σ H s) (h:CE X.stack X.prog X.w H s Q u s'):EP X pins σ Q u s':=by
 obtain⟨v,H',os,bare,un,hok,r,q⟩:=h
 obtain⟨hh,g,d,t,os'⟩:=s'
 obtain rfl:os'=s.os:=os
 exact⟨v,H',I.call (h':=hh) (g':=g) (d':=d) (t':=t) (ch:=[]) un hok bare (fun b z=>absurd z (by simp)),r,q⟩
end
noncomputable def Ku (sp:Sp) (FL:List V) (E:XK) (t:TA):TE:=fun σ H Q=>t σ H fun vs H1=>sp (vs++FL) H1 Q E
noncomputable def Binds (K:PySem.W.Frag) (fd:FuncData) (ps:List Str) (ds:List Value):Prop:=
 ∀(s:Shared) (us:List Value),K.In s.heap->(us++ds).length=ps.length->BindsTo s fd ⟨us,[]⟩ (ps.zip (us++ds))
theorem Binds.all {K:PySem.W.Frag}{fd:FuncData}{ps:List Str}(h:∀us:List Value,us.length=ps.length->bindArgs fd ⟨us,[]⟩=pure (ps.zip us)):Binds K fd ps []:=fun s us _ hl=>by
 rw[List.append_nil] at hl ⊢
 exact .of_eq (h us hl)
noncomputable def Passes (CX:AZ) (X:Cx) (E:XK):Prop:=∀(pins:List (Addr×Obj)) (σ:St) (H:Hp) (s:Shared) (e:Value) (s':Shared),Inv X pins σ H s->CX X.stack H s E e s'->X.xe e s'
section
variable {X:Cx}{CX:AZ}{k:Nat}{f C:Addr}{fd:FuncData}{ps:List Str}{sp:Sp}{FL:List V}{ds:List Value}{E:XK}{x m:Str}{p pos apos:Pos}{e o:Expr}{es:List Expr}{ta:TE}{t:TA}
theorem G8 {pins:List (Addr×Obj)}{σ:St}{H:Hp}{s:Shared}{Q:VK}{us:List Value}{vs:List V}(F:cJ X.prog X.w X.K X.mg X.base CX k f fd ps sp) (hr:jG k X.A) (hb:Binds X.K fd ps ds) (hd:Vals FL ds) (hx:Passes CX X E)
  (I:Inv X pins σ H s) (r:Vals vs us) (h:sp (vs++FL) H Q E):wpAny (model X.prog X.w) X.A (call (.ref f) us) (EP X pins σ Q) X.xe s:=by
 have r2:Vals (vs++FL) (us++ds):=r.append hd
 have hl:(us++ds).length=ps.length:=by rw[<-r2.length];exact F.len _ _ _ _ h
 refine wpAny_call (codeAny_mono (F.run X.A X.stack s H ⟨us,[]⟩ (us++ds) (vs++FL) Q E hr I.N8 (hb s us I.Bb hl) r2 h) fun r s' hq=>?_)
 cases r with
 | error e=>exact hx pins σ H s e s' I hq
 | ok fl=>
  cases fl with
  | ret u=>exact I.after hq
  | next=>exact False.elim hq
  | brk=>exact False.elim hq
  | cont=>exact False.elim hq
theorem DQ (F:cJ X.prog X.w X.K X.mg X.base CX k f fd ps sp) (hr:jG k X.A) (hg:Gl X x) (hm:X.mg x=some (.ref f)) (hk:PySem.W.keepIn X.K (.ref f)=true) (hb:Binds X.K fd ps ds) (hd:Vals FL ds) (hx:Passes CX X E)
  (ha:PA X (e :: es) t) (hdb:(x == ("__debug__":Str))=false:=by decide) (he:starEach (e :: es) X.env=(false,eval e X.env) :: starEach es X.env:=by rfl) (hpl:(backTo pos (starEach es X.env)).any (·.1)=false:=by rfl):
  PE X (.Call (.Name x p) (e :: es) [] pos) (Ku sp FL E t):=by
 intro pins s σ H Q I h
 refine wpAny_Call_Name_kw (yF I hg hm ?_ hdb)
 refine PySem.W.callWith_K (h₀:=X.base) I.ok.mod.NH hk (fh (ha pos pins s σ H _ I h) fun us s1 ⟨vs,H1,I1,r,q⟩=>⟨I1.Bb,?_⟩) he hpl
 exact G8 F hr hb hd hx I1 r q
end
section
variable {X:Cx}{CX:AZ}{k:Nat}{f C:Addr}{fd:FuncData}{ps ks:List Str}{sp:Sp}{E:XK}{x m:Str}{p pos apos kpos:Pos}{e o:Expr}{es:List Expr}{kws:List Keyword}{te ta:TE}{t tk:TA}{nm:Option Str}
variable {g:List Value->List Value->List Value}{gV:List V->List V->List V}
end
structure cA (N P:List Str) (sc:Scope):Prop where
 kind:sc.kind= .function
 co:sc.isCoroutine=false
 gen:sc.isGenerator=false
 nd:N.Nodup
 pre:N.take P.length=P
 par:∀x∈P,sc.names.lookup x=some .local\/sc.names.lookup x=some .cell
 G9:∀y∈sc.names,y.2≠.free
theorem su {kindOf:Str->Option NameKind}{x:Str}:∀{binds:List (Str×Value)}{m:Str->Option Value},(∀v,(x,v)∉binds)->bindL kindOf binds m x=m x
 | [],_,_=>rfl
 | (n,v) :: r,m,h=>by
  unfold bindL
  rw[su fun w hw=>h w (List.mem_cons_of_mem _ hw)]
  split
  ·have:x≠n:=by rintro rfl;exact h v List.mem_cons_self
   simp[this]
  ·rfl
theorem sy {kindOf:Str->Option NameKind}{x:Str}:∀{binds:List (Str×Value)}{m:Str->Option Value},(∀v,(x,v)∉binds)->bindC kindOf binds m x=m x
 | [],_,_=>rfl
 | (n,v) :: r,m,h=>by
  unfold bindC
  rw[sy fun w hw=>h w (List.mem_cons_of_mem _ hw)]
  split
  ·rfl
  ·have:x≠n:=by rintro rfl;exact h v List.mem_cons_self
   simp[this]
theorem sA {kindOf:Str->Option NameKind}{x:Str}{v:Value}:∀{P:List Str}{vs:List Value}{i:Nat}{m:Str->Option Value},P.Nodup->P[i]? =some x->vs[i]? =some v->kindOf x=some .local->
  bindL kindOf (P.zip vs) m x=some v
 | [],_,_,_,_,h,_,_=>by simp at h
 | _ :: _,[],_,_,_,_,h,_=>by simp at h
 | p :: P,w :: vs,0,m,nd,h1,h2,hk=>by
  simp at h1 h2;subst h1;subst h2
  show bindL kindOf ((p,w) :: P.zip vs) m p=_
  unfold bindL
  rw[su fun v hv=>(List.nodup_cons.mp nd).1 (List.of_mem_zip hv).1,if_pos hk]
  simp
 | p :: P,w :: vs,i+1,m,nd,h1,h2,hk=>by
  show bindL kindOf ((p,w) :: P.zip vs) m x=_
  unfold bindL
  exact sA (i:=i) (List.nodup_cons.mp nd).2 (by simpa using h1) (by simpa using h2) hk
theorem sC {kindOf:Str->Option NameKind}{x:Str}{v:Value}:∀{P:List Str}{vs:List Value}{i:Nat}{m:Str->Option Value},P.Nodup->P[i]? =some x->vs[i]? =some v->kindOf x≠some .local->
  bindC kindOf (P.zip vs) m x=some v
 | [],_,_,_,_,h,_,_=>by simp at h
 | _ :: _,[],_,_,_,_,h,_=>by simp at h
 | p :: P,w :: vs,0,m,nd,h1,h2,hk=>by
  simp at h1 h2;subst h1;subst h2
  show bindC kindOf ((p,w) :: P.zip vs) m p=_
  unfold bindC
  rw[sy fun v hv=>(List.nodup_cons.mp nd).1 (List.of_mem_zip hv).1,if_neg hk]
  simp
 | p :: P,w :: vs,i+1,m,nd,h1,h2,hk=>by
  show bindC kindOf ((p,w) :: P.zip vs) m x=_
  unfold bindC
  exact sC (i:=i) (List.nodup_cons.mp nd).2 (by simpa using h1) (by simpa using h2) hk
noncomputable def start (N:List Str) (vs:List V):St:=vs.map some++List.replicate (N.length - vs.length) none
noncomputable def xr (CX:AZ) (P:Program) (w:World) (K:PySem.W.Frag) (mg:Str->Option Value) (base:Heap) (N:List Str) (qual:Str) (scope:Scope) (f:Addr) (cd:Value) (A:Around) (outer:List Env) (s:Shared) (H:Hp) (E:XK):Cx where
 prog:=P
 w:=w
 K:=K
 mg:=mg
 base:=base
 A:=A.deeper (envOfC qual scope s.heap.objs.size f cd)
 N:=N
 s₀:=s
 H₀:=H
 env:=envOfC qual scope s.heap.objs.size f cd
 outer:=outer
 stack:=envOfC qual scope s.heap.objs.size f cd :: outer
 ex:=[]
 calm:=true
 fn:=fun _=>true
 pn:=[]
 xe:=fun e s'=>wpAny (model P w) (A.deeper (envOfC qual scope s.heap.objs.size f cd)) (leaving (envOfC qual scope s.heap.objs.size f cd) e) (fun _ s''=>CX outer H s E e s'') (fun e' s''=>CX outer H s E e' s'') s'
theorem vn {sc:Scope}{n:Nat}{x:Str}(h:sc.names.lookup x=some .cell):∃c,(cellsFrom n sc.names []).lookup x=some c:=by
 have q:=PySem.W.cellsFrom_some sc.names n [] (.inl h)
 exact Option.isSome_iff_exists.mp q
theorem Ac {CX : AZ} {P : Program} {w : World} {K : PySem.W.Frag} {mg : Str -> Option Value} {base : Heap} {N ps : List Str} {qual : Str} {scope : Scope} {f : Addr} {cd : Value} {A : Around} {outer : List Env} {s s1 : Shared} {H : Hp} {E : XK} {us : List Value} {vs : List V}
    (S:cA N ps scope) (hd:A.handled=none) (e0:DP P w K mg base A outer s H) (hl:vs.length=ps.length) (r:Vals vs us)
    (x:InCallC s s.heap.objs.size (bindL (envOfC qual scope s.heap.objs.size f cd).kindOf (ps.zip us) fun _=>none) (cellsFrom (s.heap.objs.size+1) scope.names []) (bindC (envOfC qual scope s.heap.objs.size f cd).kindOf (ps.zip us) fun _=>none) s1):
    Inv (xr CX P w K mg base N qual scope f cd A outer s H E) [] (start N vs) H s1:=by
  have hpl:ps.length<=N.length:=by have:=congrArg List.length S.pre;rw[List.length_take] at this;omega
  obtain⟨h1,tk,rfl,hk⟩:=x.done
  have Kv:∀b:Addr,b∉(xr CX P w K mg base N qual scope f cd A outer s H E).ex:=fun b z=>absurd (show b∈([]:List Addr) from z) (by simp)
  refine⟨⟨e0.mod,S.kind,rfl,rfl,Nat.le_refl _,fun y z c h1 h2=>?_,fun y hy=>?_,fun y c _ h=>?_,fun _=>hd,Around.frames_deeper e0.frames,.inr ⟨rfl,rfl⟩,fun b z=>absurd z (Kv b),e0.bs,e0.Dy,fun b _ _=>Kv b,fun b z=>absurd z (Kv b),e0.qc,e0.Jo⟩,
    rfl,e0.bare,Un.kept hk,⟨_,x.toInCall.ns,fun i y v h1 h2 h3=>?_⟩,fun y c h=>⟨_,x.cell y c h⟩,e0.hok.fresh (Nat.le_refl _),fun y c h=>?_,fun p hp=>absurd (show p∈([]:List (Addr×Obj)) from hp) (by simp),e0.hok.kept hk,?_⟩
  . exact name_of_addr x.apart (PySem.mem_of_lookup h1) (PySem.mem_of_lookup h2)
  . have hy:scope.names.lookup y=some .cell\/scope.names.lookup y=some .free:=hy
    rcases hy with hy | hy
    . exact vn hy
    . exact absurd rfl (S.G9 _ (PySem.mem_of_lookup hy))
  . exact Nat.le_of_lt (x.above y c (PySem.mem_of_lookup h))
  . have hi:i < vs.length:=by
      unfold start at h2
      by_cases hi:i < vs.length
      . exact hi
      . rw[List.getElem?_append_right (by simpa using hi)] at h2
        rw[List.getElem?_replicate] at h2
        split at h2 <;> cases h2
    have ha:vs[i]? =some v:=by
      unfold start at h2
      rw[List.getElem?_append_left (by simpa using hi),List.getElem?_map] at h2
      cases e:vs[i]? with
      | none=>rw[e] at h2;cases h2
      | some a=>rw[e] at h2;cases h2;rfl
    obtain⟨u,hu,rv⟩:=r.get ha
    have hp:ps[i]? =some y:=by
      rw[<-S.pre,List.getElem?_take_of_lt (by omega)];exact h1
    have SH:ps.Nodup:=by rw[<-S.pre];exact S.nd.sublist (List.take_sublist _ _)
    refine⟨u,rv,?_⟩
    rcases S.par y (List.mem_of_getElem? hp) with k | k
    . exact .inl ⟨k,sA SH hp hu k⟩
    . obtain⟨c,e⟩:=vn (n:=s.heap.objs.size+1) k
      refine .inr ⟨.inl k,c,e,?_⟩
      have q:=x.cell y c e
      rw[sC SH hp hu (by show scope.names.lookup y≠_;rw[k];decide)] at q
      exact q
  . exact e0.hok.fresh (Nat.le_of_lt (x.above y c (PySem.mem_of_lookup h)))
  . unfold start
    show _=N.length
    rw[List.length_append,List.length_map,List.length_replicate]
    omega
theorem Kw {CX:AZ}{P:Program}{w:World}{K:PySem.W.Frag}{mg:Str->Option Value}{base:Heap}{k:Nat}{f:Addr}{name qual:Str}{params:Arguments}{body:List Stmt}{scope:Scope}{dV kV doc pm cdv ct oc:Value}{an od:Option Addr}
  {osl:Array (Option Value)}{N ps:List Str}{sp:Sp}(lk:K.lookup f=some ⟨oc,od,.func (PySem.W.fnOf name qual params body scope dV kV doc pm an cdv ct),osl⟩) (hcd:PySem.W.codeIn K cdv qual=true) (S:cA N ps scope)
  (len:∀vs H Q E,sp vs H Q E->vs.length=ps.length)
  (hbody:∀(A:Around) (outer:List Env) (s:Shared) (H:Hp) (vs:List V) (Q:VK) (E:XK),jG k (A.deeper (envOfC qual scope s.heap.objs.size f cdv))->sp vs H Q E->
   ∃t,vh (xr CX P w K mg base N qual scope f cdv A outer s H E) body t/\t {nx:=fun _ H'=>Q .dg H',rt:=Q} (start N vs) H):
  cJ P w K mg base CX (k+1) f (PySem.W.fnOf name qual params body scope dV kV doc pm an cdv ct) ps sp:=by
 refine⟨len,fun A outer s H args us vs Q E hr e0 hb r FO=>?_⟩
 have hl:=len _ _ _ _ FO
 have KX:K.In s.heap:=e0.mod.NH.keeps fun b o e=>(e0.bs b o e).1
 have lim:s.heap.NoLimit:=e0.mod.nolimit.keeps fun b o e=>(e0.bs b o e).1
 have hkind:∀y∈ps.zip us,scope.names.lookup y.1=some .local\/(scope.names.lookup y.1=some .cell/\((cellsFrom (s.heap.objs.size+1) scope.names []).lookup y.1).isSome=true):=fun⟨n,v⟩ hy=>by
  rcases S.par n (List.of_mem_zip hy).1 with q | q
  ·exact .inl q
  ·exact .inr ⟨q,PySem.W.cellsFrom_some _ _ _ (.inl q)⟩
 refine codeAny_call_function hr.depth (KX _ _ lk) rfl S.co S.gen rfl (PySem.W.codeRec_of KX hcd) (hb _ _ _ _ ?_)
 refine wpAny_newFunctionEnv_cells S.kind hkind fun env he s1 x=>?_
 subst he
 refine⟨lim.keeps x.toInCall.keep,codeAny_func ?_⟩
 obtain⟨t,ht,hq⟩:=hbody A outer s H vs Q E (hr.deeper _) FO
 have I:Inv (xr CX P w K mg base N qual scope f cdv A outer s H E) [] (start N vs) H s1:=Ac S hr.hd e0 hl r x
 refine wpAny_mono (ht [] s1 (start N vs) H _ I hq) (fun fl s' hs=>?_) fun e s' hs=>hs
 have fin:∀{σ':St}{H':Hp}{v:V}{u:Value},Inv (xr CX P w K mg base N qual scope f cdv A outer s H E) [] σ' H' s'->RelV v u->Q v H'->CE outer P w H s Q u s':=
  fun {σ' H' v u} J rv q=>⟨v,H',J.os,J.bare,J.base,J.hok,rv,q⟩
 cases fl with
 | ret u=>
  obtain⟨v,σ',H',J,rv,q⟩:=hs
  exact fin J rv q
 | next=>
  obtain⟨σ',H',J,q⟩:=hs
  exact fin (v:=V.dg) (u:=Value.none) J rfl q
 | brk=>
  obtain⟨_,_,_,q⟩:=hs
  exact False.elim q
 | cont=>
  obtain⟨_,_,_,q⟩:=hs
  exact False.elim q
section
variable {X:Cx}{x:Str}{p pos:Pos}{e:Expr}{es:List Expr}{t:TA}{id T:String}{r:List V->Hp->VK->Prop}
noncomputable def SI (r:List V->Hp->VK->Prop) (t:TA):TE:=fun σ H Q=>t σ H fun vs H1=>r vs H1 Q
theorem kK (hc:jm X (.builtin id) r) (hg:Gl X x) (hm:X.mg x=none) (hv:bootBuiltins x=some (.builtin id)) (ha:PA X (e :: es) t) (hn:x≠"__name__":=by decide) (hdb:(x == ("__debug__":Str))=false:=by decide)
  (he:starEach (e :: es) X.env=(false,eval e X.env) :: starEach es X.env:=by rfl) (hpl:(backTo pos (starEach es X.env)).any (·.1)=false:=by rfl):PE X (.Call (.Name x p) (e :: es) [] pos) (SI r t):=by
 intro pins s σ H Q I h
 refine wpAny_Call_Name_kw (ow I hg hm hv ?_ hn hdb)
 exact PyProof.Rows.callWith_builtin1 (fh (ha pos pins s σ H _ I h) fun us s1 ⟨vs,H1,I1,r1,q1⟩=>hc pins s1 σ H1 vs us Q I1 r1 q1) he hpl
theorem Ad (hc:jm X (.type T) r) (hg:Gl X x) (hm:X.mg x=none) (hv:bootBuiltins x=some (.type T)) (ha:PA X (e :: es) t) (hn:x≠"__name__":=by decide) (hdb:(x == ("__debug__":Str))=false:=by decide)
  (he:starEach (e :: es) X.env=(false,eval e X.env) :: starEach es X.env:=by rfl) (hpl:(backTo pos (starEach es X.env)).any (·.1)=false:=by rfl):PE X (.Call (.Name x p) (e :: es) [] pos) (SI r t):=by
 intro pins s σ H Q I h
 refine wpAny_Call_Name_kw (ow I hg hm hv ?_ hn hdb)
 exact PyProof.Rows.callWith_type1 (fh (ha pos pins s σ H _ I h) fun us s1 ⟨vs,H1,I1,r1,q1⟩=>hc pins s1 σ H1 vs us Q I1 r1 q1) he hpl
end
section
variable {κ:Type} [DecidableEq κ]
noncomputable def mS (kvs:List (κ×V)) (k:κ):Option V:=(kvs.find? fun kv=>decide (kv.1=k)).map (·.2)
noncomputable def putK (kvs:List (κ×V)) (k:κ) (v:V):List (κ×V):=
 if(kvs.any fun kv=>decide (kv.1=k))=true then kvs.map (fun kv=>if kv.1=k then(kv.1,v) else kv) else kvs++[(k,v)]
noncomputable def FP (kvs:List (κ×V)) (k:κ):List (κ×V):=kvs.filter fun kv=>decide (kv.1≠k)
theorem nu {p:κ×V}{r:List (κ×V)}{k:κ}(e:p.1=k):mS (p :: r) k=some p.2:=by simp[mS,List.find?_cons,e]
theorem kM {p:κ×V}{r:List (κ×V)}{k:κ}(e:¬p.1=k):mS (p :: r) k=mS r k:=by simp[mS,List.find?_cons,e]
theorem vo (k:κ):∀kvs:List (κ×V),(kvs.any fun kv=>decide (kv.1=k))=(mS kvs k).isSome
 | []=>rfl
 | p :: r=>by
  rw[List.any_cons]
  by_cases e:p.1=k
  ·simp only[nu e,decide_eq_true e,Bool.true_or,Option.isSome_some]
  ·rw[kM e,decide_eq_false e,Bool.false_or];exact vo k r
theorem pq (kvs:List (κ×V)) (k:κ) (v:V):(putK kvs k v).length<=kvs.length+1:=by
 unfold putK
 split
 ·rw[List.length_map];omega
 ·rw[List.length_append,List.length_cons,List.length_nil];omega
theorem rF.oB {o:Option V}{u:Option Value}(r:rF o u):o.isSome=u.isSome:=by
 cases o with
 | none=>cases u with
  | none=>rfl
  | some _=>exact(show False from r).elim
 | some _=>cases u with
  | none=>exact(show False from r).elim
  | some _=>rfl
theorem KV.val {kvs:List (κ×V)}{vs:List (κ×Value)}(r:KV kvs vs) (k:κ):rF (mS kvs k) (valueAt vs k):=by
 unfold KV at r
 induction r with
 | nil=>exact True.intro
 | @cons p q ps qs h t ih=>
  obtain⟨h1,h2⟩:=h
  by_cases e:p.1=k
  ·have e':q.1=k:=h1.symm.trans e
   have b:valueAt (q :: qs) k=some q.2:=by simp[valueAt,List.find?_cons,e']
   rw[nu e,b];exact h2
  ·have e':¬q.1=k:=fun z=>e (h1.trans z)
   have b:valueAt (q :: qs) k=valueAt qs k:=by simp[valueAt,List.find?_cons,e']
   rw[kM e,b];exact ih
theorem KV.any {kvs:List (κ×V)}{vs:List (κ×Value)}(r:KV kvs vs) (k:κ):(kvs.any fun kv=>decide (kv.1=k))=vs.any fun kv=>decide (kv.1=k):=by
 unfold KV at r
 induction r with
 | nil=>rfl
 | cons h t ih=>rw[List.any_cons,List.any_cons,ih,h.1]
theorem KV.repl {kvs:List (κ×V)}{vs:List (κ×Value)}(r:KV kvs vs) (k:κ){y:V}{u:Value}(ry:RelV y u):
  KV (kvs.map fun kv=>if kv.1=k then(kv.1,y) else kv) (vs.map fun kv=>if kv.1=k then(kv.1,u) else kv):=by
 unfold KV at r ⊢
 induction r with
 | nil=>exact .nil
 | @cons p q ps qs h t ih=>
  rw[List.map_cons,List.map_cons]
  refine .cons ?_ ih
  obtain⟨h1,h2⟩:=h
  by_cases e:p.1=k
  ·rw[if_pos e,if_pos (h1.symm.trans e)];exact⟨h1,ry⟩
  ·rw[if_neg e,if_neg (fun z=>e (h1.trans z))];exact⟨h1,h2⟩
theorem KV.put {kvs:List (κ×V)}{vs:List (κ×Value)}(r:KV kvs vs) (k:κ){y:V}{u:Value}(ry:RelV y u):KV (putK kvs k y) (stored vs k u):=by
 unfold putK stored
 rw[r.any k]
 by_cases e:(vs.any fun kv=>decide (kv.1=k))=true
 ·rw[if_pos e,if_pos e];exact r.repl k ry
 ·rw[if_neg e,if_neg e];exact Paired.snoc r ⟨rfl,ry⟩
theorem KV.drop {kvs:List (κ×V)}{vs:List (κ×Value)}(r:KV kvs vs) (k:κ):KV (FP kvs k) (without vs k):=by
 unfold KV at r ⊢
 unfold FP without
 induction r with
 | nil=>exact .nil
 | @cons p q ps qs h t ih=>
  obtain⟨h1,h2⟩:=h
  rw[List.filter_cons,List.filter_cons]
  by_cases e:p.1=k
  ·have a:¬decide (p.1≠k)=true:=by simp[e]
   have b:¬decide (q.1≠k)=true:=by simp[h1.symm.trans e]
   rw[if_neg a,if_neg b];exact ih
  ·have e':¬q.1=k:=fun z=>e (h1.trans z)
   have a:decide (p.1≠k)=true:=by simp[e]
   have b:decide (q.1≠k)=true:=by simp[e']
   rw[if_pos a,if_pos b];exact .cons ⟨h1,h2⟩ ih
theorem KV.length {kvs:List (κ×V)}{vs:List (κ×Value)}(r:KV kvs vs):kvs.length=vs.length:=Paired.length r
end
theorem Ky {P:Program}{w:World}{k:Key}{u:Value}(r:RelV (kV k) u):(iN P w).is k u=true:=by
 cases k with
 | inl i=>obtain⟨t,e⟩:=(show ∃t,u=Value.int i t from r);subst e;exact ve P w i t
 | inr x=>obtain⟨t,e⟩:=(show ∃t,u=Value.str x t from r);subst e;exact vf P w x t
noncomputable abbrev KT (H:Hp):List (D×V)->List (D×Addr×Value)->Prop:=Paired fun p q=>p.1=q.1/\Kd H q.2.1 p.1/\RelV p.2 q.2.2
theorem KT.val {H:Hp}{kvs:List (D×V)}{xs:List (D×Addr×Value)}(r:KT H kvs xs) (k:D):rF (mS kvs k) ((atKey xs k).map (·.2)):=by
 induction r with
 | nil=>exact True.intro
 | @cons p q ps qs h t ih=>
  obtain⟨h1,_,h2⟩:=h
  by_cases e:p.1=k
  ·have e':q.1=k:=h1.symm.trans e
   have b:atKey (q :: qs) k=some q.2:=by simp[atKey,List.find?_cons,e']
   rw[nu e,b];exact h2
  ·have e':¬q.1=k:=fun z=>e (h1.trans z)
   have b:atKey (q :: qs) k=atKey qs k:=by simp[atKey,List.find?_cons,e']
   rw[kM e,b];exact ih
theorem KT.repl {H:Hp}{kvs:List (D×V)}{xs:List (D×Addr×Value)}(r:KT H kvs xs) (k:D){y:V}{u:Value}(ry:RelV y u):
  KT H (kvs.map fun kv=>if kv.1=k then(kv.1,y) else kv) (xs.map (putAt k u)):=by
 induction r with
 | nil=>exact .nil
 | @cons p q ps qs h t ih=>
  rw[List.map_cons,List.map_cons]
  refine .cons ?_ ih
  obtain⟨h1,h2,h3⟩:=h
  unfold putAt
  by_cases e:p.1=k
  ·rw[if_pos e,if_pos (h1.symm.trans e)];exact⟨h1,h2,ry⟩
  ·rw[if_neg e,if_neg (fun z=>e (h1.trans z))];exact⟨h1,h2,h3⟩
theorem KT.put {H:Hp}{kvs:List (D×V)}{xs:List (D×Addr×Value)}(r:KT H kvs xs) (k:D){b:Addr}{y:V}{u:Value}(hb:Kd H b k) (ry:RelV y u):
  KT H (putK kvs k y) (storedH xs k b u):=by
 have e:(kvs.any fun kv=>decide (kv.1=k))=(atKey xs k).isSome:=by
  rw[vo,(r.val k).oB,Option.isSome_map]
 unfold putK storedH
 rw[e]
 by_cases q:(atKey xs k).isSome=true
 ·rw[if_pos q,if_pos q];exact r.repl k ry
 ·rw[if_neg q,if_neg q];exact Paired.snoc r ⟨rfl,hb,ry⟩
theorem KT.keeps {H H':Hp}{kvs:List (D×V)}{xs:List (D×Addr×Value)}(r:KT H kvs xs) (ht:∀b ys,H b=some (.tup ys)->H' b=some (.tup ys)):KT H' kvs xs:=
 Paired.zW r fun _ _ z=>⟨z.1,z.2.1.tups ht,z.2.2⟩
section
variable {P:Program}{w:World}{H:Hp}{h:Heap}{a:Addr}
theorem FQ {u:HO}(ok:kG P w H h) (e:Rd H a u):dX P w H h a u:=e.ok ok
theorem vp {kvs:List (Key×V)}(ok:kG P w H h) (e:Rd H a (.dK kvs)):kvs.length<=sizeLine/\(a == sysModules)=false/\∃vs,KV kvs vs/\h.DictOf (iN P w) a vs:=
 show dX P w H h a (.dK kvs) from FQ ok e
theorem Kz {kvs:List (Key×V)}(ok:kG P w H h) (e:H a=some (.dK kvs)):kvs.length<=sizeLine/\(a == sysModules)=false/\∃vs,KV kvs vs/\h.DictOf (iN P w) a vs:=vp ok (.inl e)
mutual
theorem Bp (ok : kG P w H h) : ∀ (d : D) {n : Nat} {v : V} {u : Value}, Rep H v d -> RelV v u -> gf n d = true -> rD h u (nf d)
  | .dg,n,_,_,_,_,k=>by simp[gf] at k
  | .lst _,n,_,_,_,_,k=>by simp[gf] at k
  | .bl b,n,_,_,r,q,k=>by cases r;cases q;exact .bool b
  | .int i,n,_,_,r,q,k=>by cases r;obtain⟨t,rfl⟩:=q;exact .int i t
  | .str i,n,_,_,r,q,k=>by cases r;obtain⟨t,rfl⟩:=q;exact .str i t
  | .tup ds,n,_,_,r,q,k=>by
    cases n with
    | zero=>simp[gf] at k
    | succ n=>
      cases r with
      | @tup a vs _ e rs=>
        cases q
        obtain⟨_,its,rv,o,h1,h2,m,h3⟩:=(show dX P w H h a (.tup vs) from ok a _ e)
        exact .tup ⟨o,h1,h2,m,h3⟩ (yL ok ds rs rv k)
theorem yL (ok:kG P w H h):∀(ds:List D){n:Nat}{vs:List V}{us:List Value},bD H vs ds->Vals vs us->ds.all (gf n)=true->jh h us (FE ds)
  | [],n,_,_,r,q,k=>by cases r;cases q;exact .nil
  | d :: ds, n, _, _, r, q, k => by
    rw[List.all_cons,Bool.and_eq_true] at k
    cases r with
    | cons r1 r2=>
      cases q with
      | cons q1 q2=>exact .cons (Bp ok d r1 q1 k.1) (yL ok ds r2 q2 k.2)
end
theorem qk {ks:D}(ok:kG P w H h) (e:Kd H a ks):(jE P w).is h ks a:=by
 obtain⟨d,r,hk,rfl⟩:=e
 exact⟨Bp ok d r rfl hk,yD d 8 hk⟩
theorem yM {kvs : List (D × V)} (ok : kG P w H h) (e : Rd H a (.dT kvs)) : kvs.length <= sizeLine /\ (a == sysModules) = false /\
    ∃xs,KT H kvs xs/\h.DictOfH (jE P w) a xs:=by
  obtain⟨z,y,xs,r,o,es,ep,h1,h2,h3,h4,h5⟩:=(show dX P w H h a (.dT kvs) from FQ ok e)
  refine⟨z,y,xs,r,o,es,ep,h1,h2,h3,h4,fun x hx=>?_,h5⟩
  have all:∀{l:List (D×V)}{m:List (D×Addr×Value)},KT H l m->∀x∈m,(jE P w).is h x.1 x.2.1:=by
    intro l m q
    induction q with
    | nil=>intro x hx;exact nomatch hx
    | @cons p q ps qs hq t ih=>
      intro x hx
      rcases List.mem_cons.mp hx with e | hx
      . subst e
        exact qk ok (by rw[<-hq.1];exact hq.2.1)
      . exact ih x hx
  exact all r x hx
theorem Bq {kvs:List (D×V)}(ok:kG P w H h) (e:H a=some (.dT kvs)):kvs.length<=sizeLine/\(a == sysModules)=false/\
  ∃xs,KT H kvs xs/\h.DictOfH (jE P w) a xs:=yM ok (.inl e)
end
noncomputable def Hf (y:V) (k:Key):Prop:=y=kV k\/∃b,y= .bl b/\k= .inl (bI b)
theorem Hf.is {P:Program}{w:World}{y:V}{k:Key}{u:Value}(e:Hf y k) (r:RelV y u):(iN P w).is k u=true:=by
 rcases e with rfl | ⟨b,rfl,rfl⟩
 ·exact Ky r
 ·cases r;exact decide_eq_true rfl
noncomputable def kN (H:Hp) (a:Addr) (y:V) (r:Option V):Prop:=
 (∃kvs k,Rd H a (.dK kvs)/\Hf y k/\r=mS kvs k)\/∃kvs k b,Rd H a (.dT kvs)/\y= .ref b/\Kd H b k/\r=mS kvs k
noncomputable def vq (H:Hp) (a:Addr) (y v:V) (H':Hp):Prop:=
 (∃kvs k,H a=some (.dK kvs)/\Hf y k/\kvs.length < sizeLine/\H'=upd H a (.dK (putK kvs k v)))\/
 ∃kvs k b,H a=some (.dT kvs)/\y= .ref b/\Kd H b k/\kvs.length < sizeLine/\H'=upd H a (.dT (putK kvs k v))
theorem kN.t {H:Hp}{a b:Addr}{kvs:List (D×V)}{k:D}(e:H a=some (.dT kvs)) (eb:Kd H b k):kN H a (.ref b) (mS kvs k):=.inr ⟨kvs,k,b,.inl e,rfl,eb,rfl⟩
theorem vq.t {H:Hp}{a b:Addr}{kvs:List (D×V)}{k:D}{v:V}(e:H a=some (.dT kvs)) (eb:Kd H b k) (hl:kvs.length < sizeLine):
  vq H a (.ref b) v (upd H a (.dT (putK kvs k v))):=.inr ⟨kvs,k,b,e,rfl,eb,hl,rfl⟩
section
variable {X:Cx}{pins:List (Addr×Obj)}{σ:St}{H:Hp}{s:Shared}{a:Addr}{y v:V}{u r:Value}{o:Option V}{A:Around}{E:Value->Shared->Prop}
theorem Inv.big (I:Inv X pins σ H s):sysModules < s.heap.objs.size:=by
 have h:mainGlobals < s.heap.objs.size:=(I.mod.glob.keeps I.bk).lt
 exact Nat.lt_trans (by decide) h
theorem Ae {Q:Value->Shared->Prop}(hu:A.units+20 < cLine) (I:Inv X pins σ H s) (g:kN H a y (some v)) (ry:RelV y u) (h:∀w' s',Inv X pins σ H s'->RelV v w'->Q w' s'):
  wpAny (model X.prog X.w) A (getItem (.ref a) u) Q E s:=by
 rcases g with⟨kvs,k,e,ey,l⟩ | ⟨kvs,k,b,e,ey,eb,l⟩
 ·obtain⟨z,hd,vs,rel,dd⟩:=vp I.hok e
  obtain⟨w',hw,rw'⟩:=rF.some_of (v:=v) (o:=valueAt vs k) (by rw[l];exact rel.val k)
  exact wpAny_getItem_of (ey.is ry) dd.mapOf hw (h w' _ (I.tok _) rw')
 ·subst ey
  cases(show u=Value.ref b from ry)
  obtain⟨z,hd,xs,rel,dd⟩:=yM I.hok e
  obtain⟨w',hw,rw'⟩:=rF.some_of (v:=v) (o:=(atKey xs k).map (·.2)) (by rw[l];exact rel.val k)
  obtain⟨p,hp,hp2⟩:=Option.map_eq_some_iff.mp hw
  refine wpAny_getItem_heap (jx hu) (qk I.hok eb) dd hp ?_
  rw[hp2]
  exact h w' _ (I.tok _) rw'
theorem DR {Q:Value->Shared->Prop}(hu:A.units+20 < cLine) (I:Inv X pins σ H s) (g:kN H a y o) (ry:RelV y u) (h:∀s',Inv X pins σ H s'->Q (.bool (!o.isSome)) s'):
  wpAny (model X.prog X.w) A (compareOp .NotIn u (.ref a)) Q E s:=by
 rcases g with⟨kvs,k,e,ey,l⟩ | ⟨kvs,k,b,e,ey,eb,l⟩
 ·obtain⟨z,hd,vs,rel,dd⟩:=vp I.hok e
  refine wpAny_notIn_of (ey.is ry) hd dd.mapOf ?_
  rw[<-(rel.val k).oB,<-l]
  exact h _ (I.tok _)
 ·subst ey
  cases(show u=Value.ref b from ry)
  obtain⟨z,hd,xs,rel,dd⟩:=yM I.hok e
  refine wpAny_notIn_heap (jx hu) (qk I.hok eb) hd dd ?_
  have q:=(rel.val k).oB
  rw[Option.isSome_map] at q
  rw[<-q,<-l]
  exact h _ (I.tok _)
theorem tT {h':Heap}{t':Nat}{ob:HO}(I:Inv X pins σ H s) (mu:JQ (H a)) (hs:Heap.SameBut a s.heap h') (he:∃q,h'.get? a=some q) (new:dX X.prog X.w (upd H a ob) h' a ob):
  Inv X pins σ (upd H a ob) {s with heap:=h',toks:=t'}:=
 I.write (x:=a) (e:=a) mu (.inl rfl) (fun b q hb z=>(hs.2 b hb).trans z) he new
theorem Br {P:Program}{w:World}{H':Hp}{h':Heap}{kvs:List (Key×V)}{vs:List (Key×Value)}(z:kvs.length<=sizeLine) (hd:(a == sysModules)=false) (rel:KV kvs vs) (dd:h'.DictOf (iN P w) a vs):
  dX P w H' h' a (.dK kvs):=⟨z,hd,vs,rel,dd⟩
theorem Af {H':Hp}{Q:Unit->Shared->Prop}(hu:A.units+20 < cLine) (I:Inv X pins σ H s) (g:vq H a y v H') (ry:RelV y u) (rv:RelV v r) (h:∀s',Inv X pins σ H' s'->Q () s'):
  wpAny (model X.prog X.w) A (setItem (.ref a) u r) Q E s:=by
 rcases g with⟨kvs,k,e,ey,l,eH⟩ | ⟨kvs,k,b,e,ey,eb,l,eH⟩
 ·subst eH
  obtain⟨z,hd,vs,rel,dd⟩:=Kz I.hok e
  have hz:vs.length<=sizeLine:=by rw[<-rel.length];exact z
  have hl:(putK kvs k v).length<=sizeLine:=by have:=pq kvs k v;omega
  refine wpAny_setItem_pairs (hsz:=hz) (ey.is ry) dd fun h' Js hs=>h _ ?_
  have he:∃q,h'.get? a=some q:=let⟨q,_,_,hq,_⟩:=Js;⟨q,hq⟩
  exact tT I (by rw[e];exact True.intro) hs he (Br hl hd (rel.put k rv) Js)
 ·subst ey eH
  cases(show u=Value.ref b from ry)
  obtain⟨z,hd,xs,rel,dd⟩:=Bq I.hok e
  have hz:xs.length<=sizeLine:=by rw[<-Paired.length rel];exact z
  have hl:(putK kvs k v).length<=sizeLine:=by have:=pq kvs k v;omega
  refine wpAny_setItem_heap (hsz:=hz) (jx hu) (qk I.hok eb) dd fun h' Js hs=>h _ ?_
  obtain⟨q,es,ep,hq,h2,h3,h4,_,h5⟩:=Js
  refine tT I (by rw[e];exact True.intro) hs ⟨q,hq⟩ ⟨hl,hd,_,(rel.put k eb rv).keeps fun c ys ec=>?_,q,es,ep,hq,h2,h3,h4,h5⟩
  rw[aK (FF ec e (fun z=>nomatch z))]
  exact ec
end
section
variable {X:Cx}{pins:List (Addr×Obj)}{σ:St}{H:Hp}{s:Shared}{a:Addr}{kvs:List (Key×V)}{k:Key}{u:Value}{A:Around}{E:Value->Shared->Prop}
theorem KA {Q:Value->Shared->Prop}(I:Inv X pins σ H s) (e:Rd H a (.dK kvs)) (h:∀t s',Inv X pins σ H s'->Q (.int kvs.length t) s'):wpAny (model X.prog X.w) A (call (.builtin "len") [.ref a]) Q E s:=by
 obtain⟨z,hd,vs,rel,dd⟩:=vp I.hok e
 refine call_len_dict hd dd (by rw[<-rel.length];rw[sizeLine_eq] at z;omega) ?_
 rw[<-rel.length]
 exact h _ _ (I.tok _)
end
noncomputable def KC (i:Expr):Prop:=∀ov iv,subscripted i false ov iv=operate [ov,iv] (getItem ov iv)
theorem DS {prog:Program}{w:World}{A:Around}{E:Value->Shared->Prop}{s:Shared}{env:Env}{value slice:Expr}{pos:Pos}{T id:String}{Q:Value->Shared->Prop}
  (hl:typeLookup (.type T) "__getitem__" =pure (some (.builtin id))) (hs:KC slice)
  (h:wpAny (model prog w) A (eval value env) (fun o s₁=>wpAny (model prog w) A (eval slice env) (fun i s₂=>s₂.TypeIs o T/\wpAny (model prog w) A (getItem o i) Q E s₂) E s₁) E s):
  wpAny (model prog w) A (eval (.Subscript value slice pos) env) Q E s:=by
 refine Subscript_ (wpAny_mono h (fun o s₁ h₁=>wpAny_mono h₁ (fun i s₂ h₂=>?_) fun _ _ x=>x) fun _ _ x=>x)
 obtain⟨hT,h₂⟩:=h₂
 unfold subscriptTail
 refine wpAny_bind ?_
 rw[getitemInPython_of_ne hT.not_modules]
 refine wpAny_bind (wpAny_specialOf hT hl ?_)
 have fin:wpAny (model prog w) A (subscripted slice false o i) (fun r s₃=>wpAny (model prog w) A (letTemporaryGo value o r >>= fun _=>pure r) Q E s₃) E s₂:=by
  rw[hs o i]
  exact wpAny_operating (wpAny_mono h₂ (fun r s₃ h₃=>wpAny_bind (wpAny_letTemporaryGo (wpAny_pure h₃))) fun _ _ x=>x)
 first
  | exact wpAny_pure (wpAny_bind fin)
  | exact wpAny_bind (wpAny_pure (wpAny_bind fin))
  | exact wpAny_bind fin
theorem vt {X:Cx}{pins:List (Addr×Obj)}{σ:St}{H:Hp}{s:Shared}{a:Addr}{y:V}{o:Option V}(I:Inv X pins σ H s) (g:kN H a y o):s.TypeIs (.ref a) "dict":=by
 rcases g with⟨kvs,k,e,_,_⟩ | ⟨kvs,k,b,e,_,_,_⟩
 ·obtain⟨_,_,vs,_,dd⟩:=vp I.hok e
  exact dd.typeIs
 ·obtain⟨_,_,xs,_,dd⟩:=yM I.hok e
  exact dd.typeIs
noncomputable def KD (td ty:TE):TE:=fun σ H Q=>td σ H fun x H1=>ty σ H1 fun y H2=>∃a v,x= .ref a/\kN H2 a y (some v)/\Q v H2
noncomputable def yO (ty td:TE):TE:=fun σ H Q=>ty σ H fun y H1=>td σ H1 fun x H2=>∃a o,x= .ref a/\kN H2 a y o/\Q (.bl (!o.isSome)) H2
noncomputable def KG (td ty tv:TE):TS:=fun D σ H=>tv σ H fun v H1=>td σ H1 fun x H2=>ty σ H2 fun y H3=>∃a H4,x= .ref a/\vq H3 a y v H4/\D.nx σ H4
section
variable {X:Cx}{o i e value:Expr}{pos pos' tpos:Pos}{td ty tv:TE}
theorem yP (hu:X.A.units+20 < cLine) (ho:PE X o td) (hi:PE X i ty) (hs:KC i):PE X (.Subscript o i pos) (KD td ty):=by
 intro pins s σ H Q I h
 refine DS PySem.F.slot_dict_getitem.lookup hs (fh (ho pins s σ H _ I h) fun u s1 ⟨x,H1,I1,rx,q1⟩=>fh (hi pins s1 σ H1 _ I1 q1) fun iv s2 ⟨y,H2,I2,ry,a,v,ex,g,q2⟩=>?_)
 subst ex
 obtain rfl:u=Value.ref a:=rx
 exact⟨vt I2 g,Ae hu I2 g ry fun w' s3 I3 rw'=>⟨v,H2,I3,rw',q2⟩⟩
theorem Ag (hu:X.A.units+20 < cLine) (hi:PE X i ty) (ho:PE X o td):PC X .NotIn i o (yO ty td):=by
 intro pins s σ H Q I h
 refine fh (hi pins s σ H _ I h) fun iv s1 ⟨y,H1,I1,ry,q1⟩=>fh (ho pins s1 σ H1 _ I1 q1) fun u s2 ⟨x,H2,I2,rx,a,ov,ex,g,q2⟩=>?_
 subst ex
 obtain rfl:u=Value.ref a:=rx
 exact DR hu I2 g ry fun s3 I3=>⟨.bl (!ov.isSome),H2,I3,rfl,q2⟩
theorem yQ (hu:X.A.units+20 < cLine) (ho:PE X o td) (hi:PE X i ty) (hv:PE X value tv) (hs:swapsWith value (some (.Subscript o i pos')) pos.line X.env=pure false):
  PS X (.Assign [.Subscript o i pos'] value pos) (KG td ty tv):=by
 intro pins s σ H D I h
 refine wpAny_Assign_Subscript (fh (hv pins s σ H _ I h) fun r s1 ⟨v,H1,I1,rv,q1⟩=>fh (ho pins s1 σ H1 _ I1 q1) fun u s2 ⟨x,H2,I2,rx,q2⟩=>fh (hi pins s2 σ H2 _ I2 q2) fun iv s3 ⟨y,H3,I3,ry,a,H4,ex,g,q3⟩=>?_) hs
 subst ex
 obtain rfl:u=Value.ref a:=rx
 exact Af hu I3 g ry rv fun s4 I4=>⟨σ,H4,I4,q3⟩
end
theorem Bs {P:Program}{w:World}{H:Hp}(h:Heap) (hb:sysModules < h.objs.size):dX P w H (h.push {cls:=.type "dict",data:=.dict #[]}) h.objs.size (.dK []):=
 ⟨Nat.zero_le _,beq_eq_false_iff_ne.mpr (Ne.symm (Nat.ne_of_lt hb)),[],.nil,Heap.DictOf.new h⟩
theorem vA {P:Program}{w:World}{H:Hp}(h:Heap) (hb:sysModules < h.objs.size):dX P w H (h.push {cls:=.type "dict",data:=.dict #[]}) h.objs.size (.dT []):=
 ⟨Nat.zero_le _,beq_eq_false_iff_ne.mpr (Ne.symm (Nat.ne_of_lt hb)),[],.nil,_,#[],0,Heap.get?_push_size _ rfl,⟨rfl,rfl,rfl⟩,rfl,rfl,List.nodup_nil⟩
noncomputable def Hg:TE:=fun _ H Q=>∀p,H p=none->Q (.ref p) (upd H p (.dK []))
noncomputable def Hh:TE:=fun _ H Q=>∀p,H p=none->Q (.ref p) (upd H p (.dT []))
section
variable {X:Cx}{pos:Pos}
theorem Bt:PE X (.Dict [] [] pos) Hg:=fun pins s σ H Q I h=>
 wpAny_Dict_empty ⟨.ref s.heap.objs.size,_,I.laid (a:=s.heap.objs.size) (o:=.dK []) (t':=s.toks) (fun _ _ q=>Heap.get?_push_of_some _ q) (Nat.le_refl _) (Bs s.heap I.big),rfl,h _ (I.hok.fresh (Nat.le_refl _))⟩
theorem Bu:PE X (.Dict [] [] pos) Hh:=fun pins s σ H Q I h=>
 wpAny_Dict_empty ⟨.ref s.heap.objs.size,_,I.laid (a:=s.heap.objs.size) (o:=.dT []) (t':=s.toks) (fun _ _ q=>Heap.get?_push_of_some _ q) (Nat.le_refl _) (vA s.heap I.big),rfl,h _ (I.hok.fresh (Nat.le_refl _))⟩
end
noncomputable def Bv:List (TE×TE)->St->Hp->(List (V×V)->Hp->Prop)->Prop
 | [],_,H,Q=>Q [] H
 | (tk,tv) :: r,σ,H,Q=>tk σ H fun x H1=>tv σ H1 fun y H2=>Bv r σ H2 fun ps H3=>Q ((x,y) :: ps) H3
noncomputable abbrev VV:List (V×V)->List (Value×Value)->Prop:=Paired fun p q=>RelV p.1 q.1/\RelV p.2 q.2
noncomputable def N9 (X:Cx) (pos:Pos) (keys:List (Option Expr)) (values:List Expr) (MF:List (TE×TE)):Prop:=
 ∀(pins:List (Addr×Obj)) (s:Shared) (σ:St) (H:Hp) (Q:List (V×V)->Hp->Prop),Inv X pins σ H s->Bv MF σ H Q->
  wpAny (model X.prog X.w) X.A (evalPairs (pairTrees keys values X.env pos)) (fun vs s'=>∃ps H',Inv X pins σ H' s'/\VV ps vs/\Q ps H') X.xe s
theorem DT {X:Cx}{pos:Pos}:N9 X pos [] [] []:=fun pins s σ H Q I h=>pairTrees_nil_walk ⟨[],H,I,.nil,h⟩
theorem Bw {X:Cx}{pos:Pos}{k v:Expr}{ks:List (Option Expr)}{vs:List Expr}{tk tv:TE}{MF:List (TE×TE)}(hk:PE X k tk) (hv:PE X v tv) (hr:N9 X pos ks vs MF):
  N9 X pos (some k :: ks) (v :: vs) ((tk,tv) :: MF):=fun pins s σ H Q I h=>
 pairTrees_cons_walk (fh (hk pins s σ H _ I h) fun u s1 ⟨x,H1,I1,rx,q1⟩=>fh (hv pins s1 σ H1 _ I1 q1) fun w2 s2 ⟨y,H2,I2,ry,q2⟩=>
  fh (hr pins s2 σ H2 _ I2 q2) fun ws s3 ⟨ps,H3,I3,rel,q3⟩=>⟨(x,y) :: ps,H3,I3,.cons ⟨rx,ry⟩ rel,q3⟩)
section
variable {X:Cx}{pins:List (Addr×Obj)}{σ:St}{H:Hp}{s:Shared}{a:Addr}{y d:V}{u r:Value}{o:Option V}{A:Around}{E:Value->Shared->Prop}
end
section
variable {X:Cx}{o e f:Expr}{apos cpos:Pos}{td ty tx:TE}
end
section
variable {X:Cx}{pins:List (Addr×Obj)}{σ:St}{H:Hp}{s:Shared}{a:Addr}{kvs:List (Key×V)}{A:Around}{E:Value->Shared->Prop}
end
section
variable {X:Cx}{pins:List (Addr×Obj)}{σ:St}{H:Hp}{s:Shared}{a:Addr}{y:V}{u:Value}{A:Around}{E:Value->Shared->Prop}
end
end L2
namespace HT
open PySem PyProof.Rows
section
open PySem.SeqAt
open PySem.AutoSeq1 (wpAny_loadPart')
open PySem.MeetsSeq PySem.MeetsSeq2 PySem.MeetsSeq3
end
section
variable {prog:Program}{w:World}{A:Around}{E:Value->Shared->Prop}{s:Shared}
theorem DU {t b:Addr}{vs ws:List Value}{Q:Value->Shared->Prop}(ht:IsTup s.heap t vs.toArray) (hb:IsTup s.heap b ws.toArray) (hv:vs≠[])
  (h1:ws=[]->Q (.ref t) s) (h2:ws≠[]->Q (.ref s.heap.objs.size) {s with heap:=s.heap.push {cls:=.type "tuple",data:=.seq (vs++ws).toArray}})
  (hsz:vs.length+ws.length<=sizeLine):wpAny (model prog w) A (binaryOp .Add (.ref t) (.ref b)) Q E s:=by
 obtain⟨⟨cls,dd,data,sl⟩,ho,hc,n,hd⟩:=id ht
 obtain⟨⟨Oa,dd2,data2,sl2⟩,ho2,hc2,n2,hd2⟩:=id hb
 simp only at hc hd hc2 hd2
 subst hc hd hc2 hd2
 have e:vs.toArray++ws.toArray=(vs++ws).toArray:=by simp
 by_cases hw:ws=[]
 ·exact concat_meets ⟨_,ho,rfl⟩ ⟨_,ho2,rfl⟩ noFill_tuple_add seq_tuple_add PySem.F.slot_tuple_add PySem.F.entry_tuple_add (PySem.F.args_tuple_add_2 _ _)
   (tuple_addW1 t b vs.toArray ws.toArray n n2 dd dd2 sl sl2 (by simpa using hv) (by simp[hw])) ⟨ho,ho2,h1 hw⟩
 ·refine concat_meets ⟨_,ho,rfl⟩ ⟨_,ho2,rfl⟩ noFill_tuple_add seq_tuple_add PySem.F.slot_tuple_add PySem.F.entry_tuple_add (PySem.F.args_tuple_add_2 _ _)
   (tuple_addW2 t b vs.toArray ws.toArray n n2 dd dd2 sl sl2 (by simpa using hv) (by simpa using hw) (by rw[List.size_toArray,List.size_toArray];exact hsz)) ⟨ho,ho2,?_⟩
  rw[e]
  exact h2 hw
noncomputable def xw (n d:Nat):Option Int->Nat
 | none=>d
 | some v=>if v < 0 then(v+(n:Int)).toNat else min v.toNat n
end
end HT
namespace L2
open PySem PySem.Spec PyProof.Rows
noncomputable abbrev TO:=St->Hp->(Option Int->Hp->Prop)->Prop
theorem intsAre_of {ns:List Int}:∀{us:List Value},Vals (ns.map V.int) us->IntsAre us ns:=by
 induction ns with
 | nil=>intro us r;rw[List.map_nil] at r;cases r;exact .nil
 | cons n ns ih=>
  intro us r
  rw[List.map_cons] at r
  cases r with
  | cons r1 r2=>
   obtain⟨t,e⟩:=r1
   subst e
   exact .cons n t (ih r2)
section
variable {X:Cx}{e:Expr}{te:TE}{lo hi:Option Expr}{tl th:TO}{pos p2:Pos}
noncomputable def Ur (X:Cx) (r:V->Option Int->Option Int->Hp->VK->Prop):Prop:=
 ∀(pins:List (Addr×Obj)) (s:Shared) (σ:St) (H:Hp) (x:V) (v vl vu:Value) (lo hi:Option Int) (sl:Addr) (Q:VK),Inv X pins σ H s->RelV x v->s.heap.IsSliceOf sl vl vu .none->IsPart vl lo->IsPart vu hi->r x lo hi H Q->
  ∃T id,typeLookup (.type T) "__getitem__" =pure (some (.builtin id))/\s.TypeIs v T/\wpAny (model X.prog X.w) X.A (getItem v (.ref sl)) (EP X pins σ Q) X.xe s
noncomputable def DV (xs:List V) (lo hi:Option Int):List V:=(xs.drop (HT.xw xs.length 0 lo)).take (HT.xw xs.length xs.length hi - HT.xw xs.length 0 lo)
theorem vB (xs:List V) (lo hi:Option Int):(DV xs lo hi).length<=xs.length:=by
 unfold DV
 rw[List.length_take,List.length_drop]
 omega
noncomputable def KH (K:PySem.W.Frag):R2:=fun x y H Q=>∃a b xs ys,x= .ref a/\y= .ref b/\tM K H a xs/\tM K H b ys/\xs≠[]/\xs.length+ys.length<=sizeLine/\
 (ys=[]->Q (.ref a) H)/\(ys≠[]->∀p,H p=none->Q (.ref p) (upd H p (.tup (xs++ys))))
theorem Vals.tU {xs:List V}{us:List Value}(r:Vals xs us):us=[]↔xs=[]:=by
 cases r with
 | nil=>simp
 | cons _ _=>simp
theorem DW:tR X (binaryOp .Add) (KH X.K):=by
 intro pins s σ H x y v u Q I rx ry h
 obtain⟨a,b,xs,ys,rfl,rfl,ha,hb,hx,hz,q1,q2⟩:=h
 cases rx
 cases ry
 obtain⟨its,r1,p1,_⟩:=I.tuple ha
 obtain⟨its2,r2,p2,_⟩:=I.tuple hb
 refine HT.DU p1 p2 (fun z=>hx (r1.tU.mp z)) (fun z=>⟨.ref a,H,I,rfl,q1 (r2.tU.mp z)⟩) (fun z=>?_) (by rw[<-r1.length,<-r2.length];exact hz)
 refine⟨.ref s.heap.objs.size,_,I.laid (t':=s.toks) (o:=.tup (xs++ys)) (fun b ob q=>Heap.get?_push_of_some _ q) (Nat.le_refl _) ?_,rfl,q2 (fun w=>z (r2.tU.mpr w)) _ (I.hok.fresh (Nat.le_refl _))⟩
 exact⟨by rw[List.length_append];exact hz,_,r1.append r2,IsTup.new _ _⟩
end
noncomputable def uX (n:Nat) (i:Int):Option Nat:=if 0<=i then(if i < n then some i.toNat else none) else if -(n:Int)<=i then some (i+n).toNat else none
noncomputable def dW {α:Type}(xs:List α) (i:Int):Option α:=(uX xs.length i).bind fun j=>xs[j]?
theorem yR {n:Nat}{i:Int}{j:Nat}(h:uX n i=some j):seqIndex? i n=some j/\j < n/\-(n:Int)<=i/\i < n:=by
 unfold uX at h
 by_cases h0:0<=i
 ·rw[if_pos h0] at h
  by_cases h1:i < n
  ·rw[if_pos h1] at h
   have e:i.toNat=j:=Option.some.inj h
   exact⟨by rw[seqIndex_of h0 h1,e],by omega,by omega,h1⟩
  ·rw[if_neg h1] at h;cases h
 ·rw[if_neg h0] at h
  by_cases h1:-(n:Int)<=i
  ·rw[if_pos h1] at h
   have e:(i+n).toNat=j:=Option.some.inj h
   exact⟨by rw[seqIndex_neg (by omega) h1,e],by omega,h1,by omega⟩
  ·rw[if_neg h1] at h;cases h
theorem tV {α:Type}{xs:List α}{i:Int}{v:α}(h:dW xs i=some v):∃j,seqIndex? i xs.length=some j/\xs[j]? =some v/\j < xs.length/\-(xs.length:Int)<=i/\i < xs.length:=by
 unfold dW at h
 cases e:uX xs.length i with
 | none=>rw[e] at h;cases h
 | some j=>
  rw[e] at h
  obtain⟨h1,h2,h3,h4⟩:=yR e
  exact⟨j,h1,h,h2,h3,h4⟩
theorem pS {α:Type}{xs:List α}{j:Nat}{v:α}(h:xs[j]? =some v):dW xs (j:Int)=some v:=by
 have hj:j < xs.length:=(List.getElem?_eq_some_iff.mp h).1
 have e:uX xs.length (j:Int)=some j:=by
  unfold uX
  rw[if_pos (by omega),if_pos (by omega)];simp
 unfold dW;rw[e];exact h
noncomputable def pT (b:Expr):Prop:=∀o i,subscripted b false o i=operate [o,i] (getItem o i)
noncomputable def Bx (X:Cx) (r:R2):Prop:=
 ∀(value slice:Expr) (pins:List (Addr×Obj)) (s:Shared) (σ:St) (H:Hp) (x y:V) (v u:Value) (Q:VK),Inv X pins σ H s->RelV x v->RelV y u->r x y H Q->
  subscripted slice false v u=operate [v,u] (getItem v u)->wpAny (model X.prog X.w) X.A (subscriptTail value slice v u) (EP X pins σ Q) X.xe s
noncomputable def Ob (X:Cx) (id:String) (r:V->List V->Hp->VK->Prop):Prop:=
 ∀(pins:List (Addr×Obj)) (s:Shared) (σ:St) (H:Hp) (x:V) (xs:List V) (v:Value) (us:List Value) (Q:VK),Inv X pins σ H s->RelV x v->Vals xs us->r x xs H Q->
  wpAny (model X.prog X.w) X.A (call (.builtin id) (v :: us)) (EP X pins σ Q) X.xe s
section
variable {X:Cx}{a b:Expr}{ta tb:TE}{pos:Pos}
theorem Bx.or {r r':R2}(h:Bx X r) (h':Bx X r'):Bx X (fun x y H Q=>r x y H Q\/r' x y H Q):=by
 intro value slice pins s σ H x y v u Q I rx ry q hs
 rcases q with q | q
 ·exact h value slice pins s σ H x y v u Q I rx ry q hs
 ·exact h' value slice pins s σ H x y v u Q I rx ry q hs
theorem yS {r:R2}(hr:Bx X r) (ha:PE X a ta) (hb:PE X b tb) (hs:pT b):PE X (.Subscript a b pos) (Jq r ta tb):=by
 intro pins s σ H Q I h
 exact Subscript_ (GZ ha hb I h fun v u s2 x y H2 I2 rx ry q=>hr a b pins s2 σ H2 x y v u Q I2 rx ry q (hs _ _))
noncomputable def KI (K:PySem.W.Frag):R2:=fun x y H Q=>∃p xs i v,x= .ref p/\y= .int i/\mR K H p xs/\dW xs i=some v/\Q v H
noncomputable def KJ (K:PySem.W.Frag):R2:=fun x y H Q=>∃p xs i v,x= .ref p/\y= .int i/\tM K H p xs/\dW xs i=some v/\Q v H
noncomputable def KL:R2:=fun x y H Q=>∃z i c,x= .str z/\y= .int i/\z.length<=sizeLine/\dW z.cps.toList i=some c/\Q (.str ⟨#[c]⟩) H
theorem tW:Bx X (KI X.K):=by
 intro value slice pins s σ H x y v u Q I rx ry h hs
 obtain⟨p,xs,i,z,rfl,rfl,hq,he,q⟩:=h
 cases rx
 obtain⟨t,rfl⟩:=ry
 obtain⟨its,r,pl,hz⟩:=I.list hq
 obtain⟨j,h1,h2,h3,h4,h5⟩:=tV he
 obtain⟨w,ew,rw'⟩:=r.get h2
 have hl:=r.length
 have hn:=oz
 have fin:EP X pins σ Q w s:=⟨z,H,I,rw',q⟩
 by_cases h0:0<=i
 ·have hj:i.toNat=j:=by
   rw[seqIndex_of h0 h5] at h1
   exact Option.some.inj h1
  exact item_listR pl.isList h0 (by omega) (by rw[hj];simpa using ew) fin hs
 ·have hj:(i+(its.toArray.size:Int)).toNat=j:=by
   rw[seqIndex_neg (by omega) h4] at h1
   rw[List.size_toArray,<-hl]
   exact Option.some.inj h1
  exact subscriptTail_builtinR (x:=w) pl.isList.typeIs slot_list_getitem.lookup
   (wpAny_getItem_list_neg (Q:=fun r s'=>r=w/\EP X pins σ Q r s') pl.isList (by omega) (by rw[List.size_toArray] <;> omega) (by omega) (by rw[hj];simpa using ew) ⟨rfl,fin⟩) hs
theorem By:Bx X (KJ X.K):=by
 intro value slice pins s σ H x y v u Q I rx ry h hs
 obtain⟨p,xs,i,z,rfl,rfl,hq,he,q⟩:=h
 cases rx
 obtain⟨t,rfl⟩:=ry
 obtain⟨its,r,pl,hz⟩:=I.tuple hq
 obtain⟨j,h1,h2,h3,h4,h5⟩:=tV he
 obtain⟨w,ew,rw'⟩:=r.get h2
 have hl:=r.length
 have hn:=oz
 have fin:EP X pins σ Q w s:=⟨z,H,I,rw',q⟩
 exact subscriptTail_builtinR (x:=w) pl.typeIs slot_tuple_getitem.lookup
  (getItem_tuple (j:=j) (Q:=fun r s'=>r=w/\EP X pins σ Q r s') pl (by omega) (by omega) (by rw[List.size_toArray,<-hl];exact h1) (by simpa using ew) ⟨rfl,fin⟩) hs
theorem BA:Bx X KL:=by
 intro value slice pins s σ H x y v u Q I rx ry h hs
 obtain⟨z,i,c,rfl,rfl,hz,he,q⟩:=h
 obtain⟨t,rfl⟩:=rx
 obtain⟨t',rfl⟩:=ry
 obtain⟨j,h1,h2,h3,h4,h5⟩:=tV he
 have hl:z.cps.toList.length=z.length:=by simp[Str.length]
 rw[hl] at h1 h4 h5
 have hn:=oz
 exact tail_any (typeIs_str s z t) slot_str_getitem.lookup (getItem_str (c:=c) (by
  have e1:decide (i < -(2 ^ 63:Int))=false:=decide_eq_false (by omega)
  have e2:decide (i≥2 ^ 63)=false:=decide_eq_false (by omega)
  rw[e1,e2,Bool.or_false]) (by rw[h1];simpa using h2) ⟨.str ⟨#[c]⟩,H,I.tok _,⟨_,rfl⟩,q⟩) hs
noncomputable def Us (K:PySem.W.Frag):R2:=fun x y H Q=>KI K x y H Q\/KJ K x y H Q\/KL x y H Q
theorem BB:Bx X (Us X.K):=tW.or (By.or BA)
theorem xx (its:List Value) (n j:Nat) (u:Value):Obj.mapSeq (·.setIfInBounds j u) {cls:=.type "list",data:=.seq its.toArray n}={cls:=.type "list",data:=.seq (its.set j u).toArray n}:=by
 simp[Obj.mapSeq]
theorem Inv.lst {pins:List (Addr×Obj)}{σ:St}{H:Hp}{s:Shared}{p:Addr}{xs:List V}(I:Inv X pins σ H s) (h:H p=some (.lst xs)):
  ∃(its:List Value) (n:Nat),Vals xs its/\s.heap.get? p=some {cls:=.type "list",data:=.seq its.toArray n}/\xs.length<=sizeLine:=by
 obtain⟨z,its,n,r,e⟩:=I.hok p _ h
 exact⟨its,n,r,e,z⟩
theorem Inv.Hi {pins:List (Addr×Obj)}{σ:St}{H:Hp}{s:Shared}{p:Addr}{xs ys:List V}{its its':List Value}{n n':Nat}{f:Obj->Obj}(I:Inv X pins σ H s) (h:H p=some (.lst xs))
  (ho:s.heap.get? p=some {cls:=.type "list",data:=.seq its.toArray n}) (hf:f {cls:=.type "list",data:=.seq its.toArray n}={cls:=.type "list",data:=.seq its'.toArray n'}) (r:Vals ys its') (hz:ys.length<=sizeLine) (t:Nat):
  Inv X pins σ (upd H p (.lst ys)) {s with heap:=s.heap.update p f,toks:=t}:=by
 have e:(s.heap.update p f).get? p=some {cls:=.type "list",data:=.seq its'.toArray n'}:=by
  rw[Heap.get?_update_self f ho (by rw[hf] <;> rfl),hf]
 refine I.write (x:=p) (e:=p) (by rw[h];trivial) (.inl rfl) (fun b u hb q=>(Heap.get?_update_other _ _ (Ne.symm hb)).trans q) ⟨_,e⟩ ?_
 exact⟨hz,its',n',r,e⟩
noncomputable def KN:V->V->V->Hp->(Hp->Prop)->Prop:=fun o i v H Q=>∃p xs k j,o= .ref p/\i= .int k/\H p=some (.lst xs)/\uX xs.length k=some j/\Q (upd H p (.lst (xs.set j v)))
theorem set_list:Kc X KN:=by
 intro pins s σ H o i v ov iv u Q I ro ri rv h
 obtain⟨p,xs,k,j,rfl,rfl,hp,hj,q⟩:=h
 cases ro
 obtain⟨t,rfl⟩:=ri
 obtain⟨its,n,r,ho,hz⟩:=I.lst hp
 obtain⟨h1,h2,h3,h4⟩:=yR hj
 have hl:=r.length
 have hn:=oz
 have I':Inv X pins σ (upd H p (.lst (xs.set j v))) {s with heap:=s.heap.update p (Obj.mapSeq (·.setIfInBounds j u))}:=
  I.Hi hp ho (xx its n j u) (r.set rv j) (by rw[List.length_set];exact hz) s.toks
 by_cases h0:0<=k
 ·have hk:k.toNat=j:=by
   rw[seqIndex_of h0 h4] at h1
   exact Option.some.inj h1
  exact PySem.W.ki_setAt ho h0 (by omega) (by rw[List.size_toArray,<-hl];exact h4) (by rw[hk];exact⟨_,I',q⟩)
 ·have hk:(k+(its.toArray.size:Int)).toNat=j:=by
   rw[seqIndex_neg (by omega) h3] at h1
   rw[List.size_toArray,<-hl]
   exact Option.some.inj h1
  exact PySem.W.ki_setBack ho (by omega) (by rw[List.size_toArray,<-hl];exact h3) (by omega) (by rw[hk];exact⟨_,I',q⟩)
theorem tX (lo hi:Option Int) (n:Nat):(sliceBounds lo hi none n).1=((HT.xw n 0 lo:Nat):Int)/\(sliceBounds lo hi none n).2.1=((HT.xw n n hi:Nat):Int)/\(sliceBounds lo hi none n).2.2=1:=by
 refine⟨?_,?_,rfl⟩
 ·cases lo with
  | none=>simp[sliceBounds,HT.xw]
  | some i=>
   simp only[sliceBounds,HT.xw,Option.getD_none,show(1:Int) > 0 by decide,if_true]
   by_cases h:i < 0
   ·simp only[h,if_true] <;> omega
   ·simp only[h,if_false] <;> omega
 ·cases hi with
  | none=>simp[sliceBounds,HT.xw]
  | some i=>
   simp only[sliceBounds,HT.xw,Option.getD_none,show(1:Int) > 0 by decide,if_true]
   by_cases h:i < 0
   ·simp only[h,if_true] <;> omega
   ·simp only[h,if_false] <;> omega
theorem rJ (its:List Value) (lo hi:Option Int):slicePick its.toArray lo hi none=((its.drop (HT.xw its.length 0 lo)).take (HT.xw its.length its.length hi - HT.xw its.length 0 lo)).toArray:=by
 obtain⟨h1,h2,h3⟩:=tX lo hi its.toArray.size
 unfold slicePick
 rw[h1,h2,h3]
 simp only[sliceRange_one,pick_run,List.size_toArray] <;> rfl
noncomputable def Oc (K:PySem.W.Frag):V->Option Int->Option Int->Hp->VK->Prop:=fun x lo hi H Q=>∃a xs,x= .ref a/\mR K H a xs/\∀p,H p=none->Q (.ref p) (upd H p (.lst (DV xs lo hi)))
theorem MG:Ur X (Oc X.K):=by
 intro pins s σ H x v vl vu lo hi sl Q I rx hs pl pu h
 obtain⟨a,xs,rfl,hx,q⟩:=h
 cases rx
 obtain⟨its,r,ht,hz⟩:=I.list hx
 have hlen:=r.length
 refine⟨"list",_,slot_list_getitem.lookup,ht.isList.typeIs,?_⟩
 refine wpAny_getItem_list_slice ht.isList hs pl pu .none (by simp) ?_ (by rw[List.size_toArray] <;> omega)
 rw[rJ,<-hlen]
 refine⟨.ref s.heap.objs.size,_,I.laid (t':=s.toks) (o:=.lst (DV xs lo hi)) (fun b ob q=>Heap.get?_push_of_some _ q) (Nat.le_refl _) ?_,rfl,q _ (I.hok.fresh (Nat.le_refl _))⟩
 exact⟨Nat.le_trans (vB xs lo hi) hz,_,0,(r.drop (HT.xw xs.length 0 lo)).take (HT.xw xs.length xs.length hi - HT.xw xs.length 0 lo),Heap.get?_push_size _ rfl⟩
theorem j5:jm X (.builtin "len") (fun xs H Q=>∃p ys,xs=[.ref p]/\(mR X.K H p ys\/tM X.K H p ys)/\Q (.int ys.length) H):=by
 intro pins s σ H xs us Q I r h
 obtain⟨p,ys,rfl,hq,q⟩:=h
 obtain⟨u,rfl,rx⟩:=vals1 r
 cases rx
 have hn:=oz
 rcases hq with hq | hq
 ·obtain⟨its,r',pl,hz⟩:=I.list hq
  have hlen:=r'.length
  exact Calls.call_len_list pl.isList (by simp only[List.size_toArray] <;> omega) ⟨.int ys.length,H,I.tok _,⟨s.toks+1,by rw[List.size_toArray,hlen]⟩,q⟩
 ·obtain⟨its,r',pl,hz⟩:=I.tuple hq
  have hlen:=r'.length
  exact len_tuple pl (by simp only[List.size_toArray] <;> omega) ⟨.int ys.length,H,I.tok _,⟨s.toks+1,by rw[List.size_toArray,hlen]⟩,q⟩
theorem nA:jm X (.builtin "len") (fun xs H Q=>∃z,xs=[.str z]/\z.length<=sizeLine/\Q (.int z.length) H):=by
 intro pins s σ H xs us Q I r h
 obtain⟨z,rfl,hz,q⟩:=h
 obtain⟨u,rfl,t,rfl⟩:=vals1 r
 have hn:=oz
 exact len_str (by omega) ⟨.int z.length,H,I.tok _,⟨_,rfl⟩,q⟩
theorem nB:jm X (.type "list") (fun xs H Q=>∃p ys,xs=[.ref p]/\(mR X.K H p ys\/tM X.K H p ys)/\∀l,H l=none->Q (.ref l) (upd H l (.lst ys))):=by
 intro pins s σ H xs us Q I r h
 obtain⟨p,ys,rfl,hq,q⟩:=h
 obtain⟨u,rfl,rx⟩:=vals1 r
 cases rx
 have fin:∀(its:List Value),Vals ys its->ys.length<=sizeLine->∀(h':Heap) (c':Nat),(∀b o',s.heap.get? b=some o'->h'.get? b=some o')->
   h'.get? s.heap.objs.size=some {cls:=.type "list",dict:=none,data:=.seq its.toArray c',slots:=#[]}->EP X pins σ Q (.ref s.heap.objs.size) {s with heap:=h'}:=fun its r' hz h' c' kp e=>
  ⟨.ref s.heap.objs.size,_,I.laid (t':=s.toks) kp (Nat.le_refl _) (show dX X.prog X.w _ h' _ (.lst ys) from⟨hz,its,c',r',e⟩),rfl,q _ (I.hok.fresh (Nat.le_refl _))⟩
 rcases hq with hq | hq
 ·obtain⟨its,r',pl,hz⟩:=I.list hq
  have hlen:=r'.length
  obtain⟨o,ho,hc,n,hd⟩:=pl.isList
  exact call_list_seq p (.inl rfl) ho hc hd (fun h' c' kp e=>fin its r' hz h' c' kp e) (by simp only[List.size_toArray] <;> omega)
 ·obtain⟨its,r',pl,hz⟩:=I.tuple hq
  have hlen:=r'.length
  obtain⟨o,ho,hc,n,hd⟩:=pl
  exact call_list_seq p (.inr rfl) ho hc hd (fun h' c' kp e=>fin its r' hz h' c' kp e) (by simp only[List.size_toArray] <;> omega)
theorem mG:jm X (.type "tuple") (fun xs H Q=>∃p ys,xs=[.ref p]/\((mR X.K H p ys/\∀l,H l=none->Q (.ref l) (upd H l (.tup ys)))\/(tM X.K H p ys/\Q (.ref p) H))):=by
 intro pins s σ H xs us Q I r h
 obtain⟨p,ys,rfl,h⟩:=h
 obtain⟨u,rfl,rx⟩:=vals1 r
 cases rx
 rcases h with⟨hq,q⟩ | ⟨hq,q⟩
 ·obtain⟨its,r',pl,hz⟩:=I.list hq
  have hlen:=r'.length
  refine call_tuple_list pl.isList (fun h' kp=>?_) (by simp only[List.size_toArray] <;> omega)
  have I1:Inv X pins σ H {s with heap:=h'}:=I.kept (t':=s.toks) kp
  have I2:Inv X pins σ (upd H h'.objs.size (.tup ys)) {s with heap:=h'.push {cls:=.type "tuple",data:=.seq its.toArray}}:=
   I1.laid (t':=s.toks) (fun b o e=>Heap.get?_push_of_some _ e) (Nat.le_refl _) (show dX X.prog X.w _ _ _ (.tup ys) from⟨hz,its,r',IsTup.new _ _⟩)
  exact⟨.ref h'.objs.size,_,I2,rfl,q _ (I1.hok.fresh (Nat.le_refl _))⟩
 ·obtain⟨its,r',pl,hz⟩:=I.tuple hq
  exact call_tuple_same pl ⟨.ref p,H,I,rfl,q⟩
noncomputable def SJ (K:PySem.W.Frag) (T:String) (x:V) (H:Hp):Prop:=match x with
 | .str _=>T="str"
 | .int _=>T="int"
 | .ref p=>(T="list"/\∃xs,mR K H p xs)\/(T="tuple"/\∃o,K.lookup p=some o/\o.cls= .type "tuple"/\o.dict=none)\/
   (T="dict"/\((∃kvs,H p=some (.dK kvs))\/∃kvs,H p=some (.dT kvs)))\/(T="set"/\∃S n,H p=some (.set S n))
 | _=>False
theorem Hj {pins : List (Addr × Obj)} {σ : St} {H : Hp} {s : Shared} {T : String} {x : V} {v : Value} (I : Inv X pins σ H s) (r : RelV x v) (ty : SJ X.K T x H) :
    s.TypeIs v T/\∀a,v= .ref a->∃ob,s.heap.get? a=some ob/\ob.dict=none:=by
  cases x with
  | str z=>
    obtain⟨t,rfl⟩:=r
    cases(show T="str" from ty)
    exact⟨typeIs_str s z t,fun _ e=>nomatch e⟩
  | int i=>
    obtain⟨t,rfl⟩:=r
    cases(show T="int" from ty)
    exact⟨typeIs_int s i t,fun _ e=>nomatch e⟩
  | ref p =>
    cases r
    rcases ty with⟨rfl,xs,hq⟩ | ⟨rfl,o,hk,hc,hd⟩ | ⟨rfl,hk⟩ | ⟨rfl,S,n,hk⟩
    . obtain⟨its,_,pl,_⟩:=I.list hq
      refine⟨pl.isList.typeIs,fun a e=>?_⟩
      cases e
      obtain⟨o,n,e,c,hd,_⟩:=pl
      exact⟨o,e,hd⟩
    . refine⟨⟨o,I.Bb p o hk,hc⟩,fun a e=>?_⟩
      cases e
      exact⟨o,I.Bb _ o hk,hd⟩
    . have z:∃o,s.heap.get? p=some o/\o.ExactDict:=by
        rcases hk with⟨kvs,hk⟩ | ⟨kvs,hk⟩
        . obtain⟨_,_,_,_,o,_,_,e,ex,_⟩:=I.hok p _ hk
          exact⟨o,e,ex⟩
        . obtain⟨_,_,_,_,o,_,_,e,ex,_⟩:=I.hok p _ hk
          exact⟨o,e,ex⟩
      obtain⟨o,e,ex⟩:=z
      refine⟨⟨o,e,ex.1⟩,fun a e2=>?_⟩
      cases e2
      exact⟨o,e,ex.2.1⟩
    . obtain⟨o,_,_,_,e,ex,_⟩:=I.hok p _ hk
      refine⟨⟨o,e,ex.1⟩,fun a e2=>?_⟩
      cases e2
      exact⟨o,e,ex.2.1⟩
  | _=>exact False.elim ty
noncomputable def Ut (K:PySem.W.Frag) (T:String) (r:V->List V->Hp->VK->Prop) (to:TE) (t:TA):TE:=fun σ H Q=>to σ H fun x H1=>SJ K T x H1/\t σ H1 fun xs H2=>r x xs H2 Q
variable {o e:Expr}{es:List Expr}{to:TE}{t:TA}{name:Str}{apos cpos:Pos}{T id:String}{r:V->List V->Hp->VK->Prop}
theorem FT (pa:PlainAttrs T) (slot:Slot T name id) (hty:typeOf (.builtin id)=pure (.type "method_descriptor")) (hm:Ob X id r) (ho:PE X o to) (ha:PA X (e :: es) t)
  (hbase:attributeBase o name X.env (eval o X.env)=eval o X.env:=by rfl)
  (hfew:((backTo cpos (starEach (e :: es) X.env)).all (fun x=>!x.1) && (backToKw cpos (keywordEach [] X.env)).all (fun x=>x.1.isSome)
   && decide ((e :: es).length+([]:List Keyword).length+(if([]:List Keyword).isEmpty then 0 else 1) < 30))=true:=by rfl)
  (hline:(apos.endLine == cpos.line)=true:=by rfl) (hs:starEach (e :: es) X.env=(false,eval e X.env) :: starEach es X.env:=by rfl) (hplain:(backTo cpos (starEach es X.env)).any (·.1)=false:=by rfl):
  PE X (.Call (.Attribute o name apos) (e :: es) [] cpos) (Ut X.K T r to t):=by
 intro pins s σ H Q I h
 refine wpAny_Call_method_late hbase hfew hline rfl (fh (ho pins s σ H _ I h) fun v s1 ⟨x,H1,I1,r1,ty,q1⟩=>?_)
 obtain⟨h1,h2⟩:=Hj I1 r1 ty
 refine⟨T,id,pa,slot,hty,h1,h2,?_⟩
 have hA:=ha cpos pins s1 σ H1 _ I1 q1
 rw[hs] at hA ⊢
 refine Calls.callWith_builtin (by show(false || (backTo cpos (starEach es X.env)).any (·.1))=false;rw[hplain] <;> rfl) (Calls.evalArgs_plain ?_)
 exact fh hA fun us s2 ⟨vs,H2,I2,r2,q2⟩=>hm pins s2 σ H2 x vs v us Q I2 r1 r2 q2
end
noncomputable def Uu (X:Cx) (id:String) (r:V->List V->Hp->VK->Prop):Prop:=
 ∀(pins:List (Addr×Obj)) (s:Shared) (σ:St) (H:Hp) (x:V) (xs:List V) (v:Value) (us:List Value) (Q:VK),Inv X pins σ H s->RelV x v->Vals xs us->r x xs H Q->
  wpAny (model X.prog X.w) X.A (call (.builtin id) (v :: us)) (EP X pins σ Q) X.xe s
theorem Vals.one:∀{x:V}{us:List Value},Vals [x] us->∃u,us=[u]/\RelV x u
 | _,_,.cons r .nil=>⟨_,rfl,r⟩
theorem Vals.two:∀{x y:V}{us:List Value},Vals [x,y] us->∃u v,us=[u,v]/\RelV x u/\RelV y v
 | _,_,_,.cons r (.cons q .nil)=>⟨_,_,rfl,r,q⟩
theorem Vals.dropLast {xs:List V}{us:List Value}(h:Vals xs us):Vals xs.dropLast us.dropLast:=by
 induction h with
 | nil=>exact .nil
 | cons r t ih=>
  cases t with
  | nil=>exact .nil
  | cons q t'=>exact .cons r ih
theorem foldl_rep (its:List Value):∀(k:Nat) (acc:List Value),
    List.foldl (fun x1 x2=>x1++x2) acc.toArray (List.replicate k its.toArray)=(acc++(List.replicate k its).flatten).toArray
  | 0,acc=>by simp
  | k + 1, acc => by
    have e:acc.toArray++its.toArray=(acc++its).toArray:=by simp
    have e2:(acc++its)++(List.replicate k its).flatten=acc++(List.replicate (k+1) its).flatten:=by
      rw[List.replicate_succ,List.flatten_cons,List.append_assoc]
    rw[<-e2,<-foldl_rep its k (acc++its),<-e,List.replicate_succ,List.foldl_cons]
section
variable {X:Cx}{pins:List (Addr×Obj)}{σ:St}{H:Hp}{s:Shared}{l b:Addr}{xs ys zs:List V}
theorem Inv.KO {its its':List Value}{n:Nat}{f:Array Value->Array Value}{t':Nat}(I:Inv X pins σ H s) (hH:H l=some (.lst xs))
  (e:s.heap.get? l=some {cls:=.type "list",data:=.seq its.toArray n}) (hf:f its.toArray=its'.toArray) (hv:Vals ys its') (hz:ys.length<=sizeLine):
  Inv X pins σ (upd H l (.lst ys)) {s with heap:=s.heap.update l (Obj.mapSeq f),toks:=t'}:=by
 have q:=PySem.IsL.update e f
 rw[hf] at q
 refine I.write (x:=l) (e:=l) (by rw[hH];exact trivial) (.inl rfl) (fun b' u hb hu=>(Heap.get?_update_other s.heap (Obj.mapSeq f) (Ne.symm hb)).trans hu) ⟨_,q⟩ ?_
 exact⟨hz,its',_,hv,q⟩
theorem Inv.Od {its:List Value}{t':Nat}(I:Inv X pins σ H s) (hv:Vals ys its) (hz:ys.length<=sizeLine):
  Inv X pins σ (upd H s.heap.objs.size (.lst ys)) {s with heap:=s.heap.push {cls:=.type "list",data:=.seq its.toArray},toks:=t'}:=
 I.laid (fun _ _ q=>Heap.get?_push_of_some _ q) (Nat.le_refl _) ⟨hz,its,0,hv,Heap.get?_push_size _ rfl⟩
theorem Inv.fresh (I:Inv X pins σ H s):H s.heap.objs.size=none:=I.hok.fresh (Nat.le_refl _)
theorem Inv.Ah (I:Inv X pins σ H s) (hH:H l=some (.lst xs)):xs.length<=sizeLine/\∃(its:List Value) (n:Nat),Vals xs its/\xs.length=its.length/\s.heap.get? l=some {cls:=.type "list",data:=.seq its.toArray n}:=by
 obtain⟨z,its,n,r,e⟩:=I.hok l _ hH
 exact⟨z,its,n,r,r.length,e⟩
theorem BC {n:Nat}(h:n<=sizeLine):Builtin.List.listTooLong n=false:=by
 unfold Builtin.List.listTooLong
 exact decide_eq_false (by omega)
end
section
variable {X:Cx}
noncomputable def yT:V->List V->Hp->VK->Prop:=fun x vs H Q=>∃l xs y,x= .ref l/\vs=[y]/\H l=some (.lst xs)/\xs.length < sizeLine/\Q .dg (upd H l (.lst (xs++[y])))
theorem iR:Uu X "list.append" yT:=by
 intro pins s σ H x vs v us Q I rx rv h
 obtain⟨l,xs,y,rfl,rfl,hH,hz,q⟩:=h
 cases rx
 obtain⟨u,rfl,ru⟩:=rv.one
 obtain⟨z,its,n,r,hl,e⟩:=I.Ah hH
 refine call_meets F.slot_list_append ⟨_,e,rfl⟩ F.entry_list_append (F.args_list_append_2 _ _) (PySem.list_append l its.toArray n u (by rw[List.size_toArray];omega)) ⟨e,?_⟩
 refine⟨.dg,_,I.KO (its':=its++[u]) hH e (by simp) (r.append (.cons ru .nil)) ?_,rfl,q⟩
 rw[List.length_append,List.length_singleton]
 omega
end
section
variable {prog:Program}{w:World}{A:Around}{E:Value->Shared->Prop}{s:Shared}
end
section
variable {X:Cx}
end
end L2
namespace SK
open PySem PySem.W PySem.Calls PyProof.Rows
theorem pK {P:Params}{h:Heap}:∀(ns:List Int) (vs:List Value),WellAll P h vs (ns.map WData.int)->IntsAre vs ns:=by
 intro ns
 induction ns with
 | nil=>
  intro vs w
  rw[List.map_nil] at w
  cases w
  exact .nil
 | cons n ns ih=>
  intro vs w
  rw[List.map_cons] at w
  cases w with
  | cons a b=>
   cases a
   exact .cons _ _ (ih _ b)
theorem Ai {l:OpenLaw}{n:Nat}(hn:l.most=some n){P:Params}{h:Heap}{args:List WData}{vals:List Value}
  (hpre:l.row.toRowW.claim.pre args=true) (hwl:WellAll P h vals args):
  ∃a vs ns,vals=[Value.ref a]/\args=[WData.list (ns.map WData.int)]/\h.get? a=some {cls:=.type "list",data:=.seq vs.toArray}/\IntsAre vs ns/\ns.length<=n:=by
 have hsh:WShape.hasAll [] args [.list .int]=true:=(pre_splitW hpre).1
 have hc:l.pre.holds [] {args:=args}=true:=(pre_splitW hpre).2
 obtain⟨d,r,rfl,h1,h2⟩:=hasAllW_cons hsh
 obtain rfl:=hasAllW_nil h2
 obtain⟨xs,rfl,h3⟩:=hasW_list h1
 obtain⟨ns,rfl⟩:=items_int h3
 have hlen:ns.length<=n:=by
  unfold OpenLaw.pre at hc
  have h4:(WTm.not (.lt (.lit (.int (n:Int))) (.len (.arg 0)))).holds [] {args:=[.list (ns.map .int)]}=true:=by
   have h4:=(holds_andW hc).1
   rw[hn] at h4
   exact h4
  have h5:=condW_of h4 (w_not (w_lt w_lit (w_len_list (w_arg rfl))))
  rw[List.length_map] at h5
  refine Nat.le_of_not_lt fun q=>?_
  have q':(n:Int) < ((ns.length:Nat):Int):=by omega
  first
   | (rw[decide_eq_true q'] at h5;exact absurd h5 (by decide))
   | (simp at h5;omega)
 cases hwl with
 | cons w1 w2=>
  cases w2
  cases w1 with
  | list ho hall=>exact⟨_,_,ns,rfl,rfl,ho,pK ns _ hall,hlen⟩
theorem Aj (l:OpenLaw) (args:List WData):l.row.toRowW.claim.post args (.bool true) args=true:=
 postW_of (r:=l.row.toRowW) (X:=(true == true))
  (show WShape.has [] (.bool true) .bool=true by first | rfl | decide | simp[WShape.has,WShape.arms,WShape.armsAll])
  (show(WTm.eq .res (.lit (.bool true))).value [] {args:=args,res:=some (.bool true),after:=args}=some (.bool (true == true)) from w_eq_bool (w_res rfl) w_lit) rfl
theorem vC {l:OpenLaw}{n:Nat}{q:Program}{loose:List Str}{XP:(Str->Option Value)->Heap->Prop}{YP:World->Heap->Prop}{d:DefRec}
  (hn:l.most=some n) (hdf:d.params.defaults=[])
  (call:∀(w:World) (s₀ s₁:Shared) (mg mb:Str->Option Value) (fa:Addr) (o:Obj) (pm cd doc:Value) (a:Addr) (vs:List Value) (ns:List Int),
   Ground q loose [] XP w s₀ mg mb s₁.heap->YP w s₁.heap->
   s₁.heap.get? fa=some o->o.data= .func (docDef d.name d.params d.body d.scope pm cd doc)->s₁.heap.CodeRec cd d.name->mg d.name=some (.ref fa)->
   s₁.heap.get? a=some {cls:=.type "list",data:=.seq vs.toArray}->IntsAre vs ns->ns.length<=n->s₁.gens=#[]->
   codeAny (model l.prog w) callerA (.call (.ref fa) ⟨[.ref a],[]⟩) (fun r s'=>r= .ok (.ret (.bool true))/\OldK s₁.heap s'.heap/\s'.os=s₁.os/\AllBare s'.gens) s₁):
  WalkO q loose XP YP l.row.toRowW d [] (fun f vs=>PySem.call f vs):=by
 intro w s₀ s₁ mg mb G Y fa o pm cd doc dV kV ho hd hcd hD hmg hg args vals as hpre hlay hrd hwl hlo
 obtain rfl:dV= .none:=Dflts.none hD hdf
 obtain rfl:kV= .none:=Dflts.noKw hD
 obtain⟨a,vs,ns,rfl,rfl,hobj,hints,hlen⟩:=Ai hn hpre hwl
 refine enter_call (codeAny_mono (call w s₀ s₁ mg mb fa o pm cd doc a vs ns G Y ho (fd_plain hd) hcd hmg hobj hints hlen hg) fun r s' hq=>?_)
 obtain⟨rfl,h2,h3,h4⟩:=hq
 exact⟨.inl ⟨.bool true,.bool true,[],rfl,fun _=>rfl,.bool true,Aj l _,fun _=>⟨List.Pairwise.nil,fun _ hm=>(nomatch hm)⟩⟩,h2,h3,h4⟩
section
variable {prog:Program}{w:World}{A:Around}{E:Value->Shared->Prop}{s:Shared}{K:Frag}
end
end SK
namespace L2
open PySem PySem.Spec PyProof.Rows
theorem sD:∀{vs:List Value}{ns:List Int},IntsAre vs ns->Vals (ns.map V.int) vs
 | _,_,.nil=>.nil
 | _,_,.cons n t h=>.cons ⟨t,rfl⟩ (sD h)
noncomputable def DX (H:Hp):Prop:=∀b,H b=none\/∃o xs,H b=some (.iI o (.lst xs))
theorem BD {P : Program} {w : World} {K : PySem.W.Frag} {mg mb : Str -> Option Value} {CX : AZ} {k : Nat} {fa a : Addr} {fd : FuncData} {x : Str} {sp : Sp} {s₁ : Shared} {vs : List Value} {ns : List Int}
    (KX:K.In s₁.heap) (hns:s₁.heap.Ns mainGlobals mg) (hb:s₁.heap.Ns builtinsNs mb) (Uv:∀x:Str,x≠"__name__"->mb x=bootBuiltins x) (hlim:s₁.heap.NoLimit) (hg:s₁.gens=#[])
    (ha:s₁.heap.get? a=some {cls:=.type "list",data:=.seq vs.toArray}) (hi:IntsAre vs ns) (hl:ns.length<=sizeLine) (hr:jG k callerA)
    (F:∀base:Heap,K.In base->base.Ns mainGlobals mg->cJ P w K mg base CX k fa fd [x] sp) (hbind:∀(s:Shared) (u:Value),BindsTo s fd ⟨[u],[]⟩ [(x,u)])
    (FO:∀H:Hp,DX H->mR K H a (ns.map V.int)->sp [.ref a] H (fun v _=>v= .bl true) fun _ _ _=>False)
    (Oe:∀H e s',CX [] H s₁ (fun _ _ _=>False) e s'->False):
    codeAny (model P w) callerA (.call (.ref fa) ⟨[.ref a],[]⟩) (fun r s'=>r= .ok (.ret (.bool true))/\OldK s₁.heap s'.heap/\s'.os=s₁.os/\AllBare s'.gens) s₁:=by
  have rv:=sD hi
  have lenV:=hi.length
  have core : ∀ H : Hp, DX H -> mR K H a (ns.map V.int) -> kG P w H s₁.heap -> (∀ b, H b ≠ none -> b = a) -> (H a ≠ none -> K.lookup a = none) ->
      codeAny (model P w) callerA (.call (.ref fa) ⟨[.ref a],[]⟩) (fun r s'=>r= .ok (.ret (.bool true))/\OldK s₁.heap s'.heap/\s'.os=s₁.os/\AllBare s'.gens) s₁:=by
    intro H hO hS hok hA hK
    have yU:∀{b:Addr}{o:Obj},s₁.heap.get? b=some o->H b=none->(tK s₁.heap H).get? b=some o:=fun e n=>A9 e n
    have Kv:∀{b:Addr}{o:Obj}{es:Array DictEntry}{ep:Nat},s₁.heap.get? b=some o->o.data= .dict es ep->H b=none:=fun {b o es ep} e d=>by
      cases q:H b with
      | none=>rfl
      | some u=>
        have e':b=a:=hA b (by rw[q];simp)
        subst e'
        rw[ha] at e;cases e
        have d':Data.seq vs.toArray _=Data.dict es ep:=d
        cases d'
    have MH:∀{b:Addr}{m:Str->Option Value},s₁.heap.Ns b m->(tK s₁.heap H).Ns b m:=fun {b m} ⟨o,es,ep,e,d,r⟩=>⟨o,es,ep,yU e (Kv e d),d,r⟩
    have SM:K.In (tK s₁.heap H):=fun b o e=>yU (KX b o e) (by
      cases q:H b with
      | none=>rfl
      | some u=>
        have e':b=a:=hA b (by rw[q];simp)
        subst e'
        rw[hK (by rw[q];simp)] at e;cases e)
    have hM:Mod K mg (tK s₁.heap H):=⟨SM,MH hns,⟨mb,MH hb,Uv⟩,let⟨mc,h1,h2⟩:=hlim;⟨mc,MH h1,h2⟩⟩
    have e0:DP P w K mg (tK s₁.heap H) callerA [] s₁ H:=⟨rfl,hM,fun b o e=>DE e,Nat.le_of_eq (zX _ _),trivial,fun b hb=>absurd (show b∈([]:List Addr) from hb) (by simp),hok,.of_eq hg⟩
    refine codeAny_mono ((F _ SM (MH hns)).run callerA [] s₁ H ⟨[.ref a],[]⟩ [.ref a] [.ref a] _ _ hr e0 (hbind s₁ (.ref a)) (.cons rfl .nil) (FO H hO hS)) fun r s' h=>?_
    cases r with
    | error e=>exact(Oe H e s' h).elim
    | ok fl =>
      cases fl with
      | next=>exact False.elim h
      | brk=>exact False.elim h
      | cont=>exact False.elim h
      | ret u =>
        obtain⟨v,H',os,bare,un,Of,r',q⟩:=h
        have q':v= .bl true:=q
        subst q'
        obtain rfl:u=Value.bool true:=r'
        refine⟨rfl,OldK.of_keep fun b o e=>?_,os,bare⟩
        cases q:H b with
        | none=>exact un.keep b o e q (by intro z;exact absurd (show b∈([]:List Addr) from z) (by simp)) (by simp)
        | some u=>
          rcases hO b with z | ⟨ob,xs,z⟩
          . rw[q] at z;cases z
          . have z2:=un.p9 b ob _ z
            obtain⟨e1,_⟩:=hok b _ z
            obtain⟨e2,_⟩:=Of b _ z2
            rw[e] at e1;cases e1
            exact e2
  cases hk:K.lookup a with
  | some o=>
    have e:=KX a o hk
    rw[ha] at e
    cases e
    refine core (fun _=>none) (fun _=>.inl rfl) (.inr ⟨_,vs.toArray,_,hk,rfl,rfl,rfl,by rw[List.size_toArray,lenV];exact hl,by simpa using rv⟩) (fun b u z=>by have z':(none:Option HO)=some u:=z;cases z') (fun b z=>absurd rfl z) fun z=>absurd rfl z
  | none=>
    refine core (fun b=>if b=a then some (.iI {cls:=.type "list",data:=.seq vs.toArray} (.lst (ns.map V.int))) else none) (fun b=>?_) (.inl (.inr ⟨{cls:=.type "list",data:=.seq vs.toArray},if_pos rfl⟩)) (fun b u z=>?_) (fun b z=>?_) fun _=>hk
    . by_cases hb:b=a
      . exact .inr ⟨_,_,if_pos hb⟩
      . exact .inl (if_neg hb)
    . by_cases hb:b=a
      . have z':=(if_pos hb).symm.trans z
        cases z'
        subst hb
        exact⟨ha,by rw[List.length_map];exact hl,vs,_,rv,ha⟩
      . have z':=(if_neg hb).symm.trans z
        cases z'
    . by_cases hb:b=a
      . exact hb
      . exact absurd (if_neg hb) z
noncomputable abbrev XH {K:PySem.W.Frag}{h:Heap}(_:K.In h):PySem.W.Frag:=K
theorem DY {l : PySem.W.OpenLaw} {n k : Nat} {q : Program} {loose : List Str} {XP : (Str -> Option Value) -> Heap -> Prop} {YP : World -> Heap -> Prop} {d : DefRec} {K : Params -> PySem.W.Frag} {CX : World -> AZ} {sp : World -> Sp} {x : Str}
    (hn:l.most=some n) (hn2:n<=sizeLine) (hdf:d.params.defaults=[]) (hr:jG k callerA)
    (hY:∀(w:World) (h:Heap),YP w h->(K w.params).In h)
    (F:∀(w:World) (mg:Str->Option Value) (fa:Addr) (h:Heap),(K w.params).In h->h.Ns mainGlobals mg->mg d.name=some (.ref fa)->
      ∃fd:FuncData,(∀(s:Shared) (u:Value),BindsTo s fd ⟨[u],[]⟩ [(x,u)])/\
        ∀base:Heap,(K w.params).In base->base.Ns mainGlobals mg->cJ l.prog w (K w.params) mg base (CX w) k fa fd [x] (sp w))
    (FO:∀(w:World) (H:Hp) (a:Addr) (ns:List Int),ns.length<=n->DX H->mR (K w.params) H a (ns.map V.int)->sp w [.ref a] H (fun v _=>v= .bl true) fun _ _ _=>False)
    (Oe:∀(w:World) (H:Hp) (s:Shared) (e:Value) (s':Shared),CX w [] H s (fun _ _ _=>False) e s'->False):
    PySem.W.WalkO q loose XP YP l.row.toRowW d [] (fun f vs=>PySem.call f vs):=by
  refine SK.vC hn hdf fun w s₀ s₁ mg mb fa o pm cd doc a vs ns G Y ho hd hcd hmg hobj hints hlen hg=>?_
  have KX:=hY w _ Y
  obtain⟨fd,hb,hF⟩:=F w mg fa _ KX G.T.g hmg
  exact BD KX G.T.g G.T.b G.T.builtins G.T.nolimit hg hobj hints (Nat.le_trans hlen hn2) hr hF hb (fun H hO hS=>FO w H a ns hlen hO hS) fun H e s'=>Oe w H s₁ e s'
noncomputable def bZ (s:Stmt):Arguments:=match s with
 | .FunctionDef _ a _ _ _ _ _ _ _ _=>a
 | _=>{posonlyargs:=[],args:=[],vararg:=none,kwonlyargs:=[],kw_defaults:=[],kwarg:=none,defaults:=[]}
noncomputable def bU (s:Stmt):List Stmt:=match s with
 | .FunctionDef _ _ b _ _ _ _ _ _ _=>b
 | _=>[]
noncomputable def aT (s:Stmt):Scope:=match s with
 | .FunctionDef _ _ _ _ _ _ sc _ _ _=>sc
 | _=>{kind:=.function,names:=[],isGenerator:=false,isCoroutine:=false}
noncomputable abbrev jz:AZ:=fun _ _ _ _ _ _=>False
noncomputable abbrev E0:XK:=fun _ _ _=>False
theorem KP {X:Cx}:Passes jz X E0:=fun _ _ _ _ _ _ _ h=>h.elim
structure rE (K:PySem.W.Frag) (x qual:Str) (st:Stmt) (f:Addr) (fd:FuncData):Prop where
 ex:∃(oc:Value) (od:Option Addr) (kV doc pm:Value) (an:Option Addr) (cdv ct:Value) (osl:Array (Option Value)),
  fd=PySem.W.fnOf x qual (bZ st) (bU st) (aT st) .none kV doc pm an cdv ct/\K.lookup f=some ⟨oc,od,.func fd,osl⟩/\PySem.W.codeIn K cdv qual=true
 kp:PySem.W.keepIn K (.ref f)=true
section
variable {P:Program}{w:World}{K:PySem.W.Frag}{mg:Str->Option Value}{base:Heap}
theorem rE.ok {x qual:Str}{st:Stmt}{f:Addr}{fd:FuncData}{N ps:List Str}{k:Nat}{sp:Sp}(F:rE K x qual st f fd) (S:cA N ps (aT st)) (len:∀vs H Q E,sp vs H Q E->vs.length=ps.length)
  (hbody:∀(cdv:Value) (A:Around) (outer:List Env) (s:Shared) (H:Hp) (vs:List V) (Q:VK) (E:XK),jG k (A.deeper (envOfC qual (aT st) s.heap.objs.size f cdv))->sp vs H Q E->
   ∃t,vh (xr jz P w K mg base N qual (aT st) f cdv A outer s H E).J7 (bU st) t/\t {nx:=fun _ H'=>Q .dg H',rt:=Q} (start N vs) H):cJ P w K mg base jz (k+1) f fd ps sp:=by
 obtain⟨oc,od,kV,doc,pm,an,cdv,ct,osl,rfl,lk,hcd⟩:=F.ex
 refine Kw lk hcd S len fun A outer s H vs Q E hr FO=>?_
 obtain⟨t,h,q⟩:=hbody cdv A outer s H vs Q E hr FO
 exact⟨t,h.J7,q⟩
theorem rE.binds {x qual:Str}{st:Stmt}{f:Addr}{fd:FuncData}{ps:List Str}(F:rE K x qual st f fd)
  (h:∀(kV doc pm:Value) (an:Option Addr) (cdv ct:Value) (us:List Value),us.length=ps.length->bindArgs (PySem.W.fnOf x qual (bZ st) (bU st) (aT st) .none kV doc pm an cdv ct) ⟨us,[]⟩=pure (ps.zip us)):Binds K fd ps []:=by
 obtain⟨oc,od,kV,doc,pm,an,cdv,ct,osl,rfl,lk,hcd⟩:=F.ex
 exact .all (h kV doc pm an cdv ct)
theorem fV {x qual:Str}{st:Stmt}{f:Addr}{oc:Value}{od an:Option Addr}{osl:Array (Option Value)}{kV doc pm cdv ct:Value}(l:K.lookup f=some ⟨oc,od,.func (PySem.W.fnOf x qual (bZ st) (bU st) (aT st) .none kV doc pm an cdv ct),osl⟩)
  (c:PySem.W.codeIn K cdv qual=true) (k:PySem.W.keepIn K (.ref f)=true):rE K x qual st f (PySem.W.fnOf x qual (bZ st) (bU st) (aT st) .none kV doc pm an cdv ct):=⟨⟨oc,od,kV,doc,pm,an,cdv,ct,osl,rfl,l,c⟩,k⟩
end
theorem bq {A:Around}{k:Nat}(hr:jG k A):A.units+20 < cLine:=Nat.lt_of_le_of_lt (Nat.add_le_add_left (by decide:20<=64) _) hr.units
section
variable {X:Cx}
theorem Ak:jm X (.builtin "len") (fun xs H Q=>∃a kvs,xs=[V.ref a]/\H a=some (.dK kvs)/\Q (.int kvs.length) H):=by
 intro pins s σ H xs us Q I r h
 obtain⟨a,kvs,rfl,ha,q⟩:=h
 obtain⟨u,rfl,ru⟩:=vals1 r
 cases ru
 exact KA I (.inl ha) fun t s' I'=>⟨.int kvs.length,H,I',⟨t,rfl⟩,q⟩
end
theorem xy {A B:Prop}(h:B):if false=true then A else B:=by
 rw[if_neg Bool.false_ne_true]
 exact h
theorem xA {A B:Prop}(h:A):if true=true then A else B:=by
 rw[if_pos rfl]
 exact h
section
variable {κ:Type} [DecidableEq κ]
end
theorem kG.FU {P:Program}{w:World}{H:Hp}{h:Heap}{a:Addr}{o:HO}(x:kG P w H h) (hn:H a=none) (new:dX P w (upd H a o) h a o):kG P w (upd H a o) h:=fun b u e=>by
 by_cases hb:b=a
 ·subst hb;rw[aU] at e;cases e;exact new
 ·rw[aK hb] at e
  exact(x b u e).stay (fun c v _ q=>q) (fun c q=>by rw[aK (bz q hn)];exact q) fun c xs q=>by rw[aK (bz q hn)];exact q
noncomputable def cG (X:Cx) (N':List Str) (scope:Scope) (cl:List (Str×Addr)) (C:Addr) (s:Shared) (H:Hp) (fp:List Addr):Cx:=
 {X with N:=N',s₀:=s,H₀:=H,env:=compEnvC scope cl C X.env,outer:=X.stack,stack:=X.stack,ex:=fp,fn:=fun _=>false,pn:=[],xe:=fun _ _=>False}
noncomputable def bN (cap:List Nat) (σ:St):St:=cap.map fun i=>(σ[i]?).join
structure gO (X:Cx) (x:Str) (bH:List Str) (cap:List Nat) (scope:Scope) (cl:List (Str×Addr)):Prop where
 clos:closureFor scope X.env=pure cl
 kO:∀y∈scope.names,y.2≠.cell
 kind:scope.kind= .function
 names:∀y∈scope.names,y.2= .local->scope.names.lookup y.1=some .local
 loc:scope.names.lookup x=some .local
 cells:∀n c,cl.lookup n=some c->X.env.cells.lookup n=some c
 has:∀n,((relabel scope X.env).names.lookup n=some .cell\/(relabel scope X.env).names.lookup n=some .free)->∃c,cl.lookup n=some c
 nd:(x :: bH).Nodup
 len:cap.length=bH.length
 slot:∀(j:Nat) n,bH[j]? =some n->∃i:Nat,cap[j]? =some i/\X.N[i]? =some n/\Ba X.env.scope n
 vis:∀n,n∈bH->((relabel scope X.env).names.lookup n=some .cell\/(relabel scope X.env).names.lookup n=some .free)/\(∃c,cl.lookup n=some c)/\X.env.scope.names.lookup n≠some .local
noncomputable def MI (wi:TI) (cap:List Nat) (tc:TT) (te:TE):TE:=fun σ H Q=>wi σ H fun J H1=>∃W:Nat->Nat->List V->Hp->Prop,(∃m,W 0 m [] H1)/\∀i m ys H,W i m ys H->ys.length < sizeLine/\
  ((J.stop i H/\∀p,H p=none->Q (.ref p) (upd H p (.lst ys)))\/
   (J.go i H/\∀x H',J.Jp i H x H'->tc (some x :: bN cap σ) H' fun b H2=>if b=true then te (some x :: bN cap σ) H2 fun y H3=>∃m',m' < m/\W (i+1) m' (ys++[y]) H3 else ∃m',m' < m/\W (i+1) m' ys H2))
noncomputable def KQ:TT:=fun _ H Q=>Q true H
noncomputable def DZ (X:Cx) (ifs:List Expr) (tc:TT):Prop:=
 ∀(pins:List (Addr×Obj)) (s:Shared) (σ:St) (H:Hp) (Q:Bool->Hp->Prop),Inv X pins σ H s->tc σ H Q->
  wpAny (model X.prog X.w) X.A (forIn ifs true fun c r=>if r=true then do let ok <-isTrue c X.env (eval c X.env);pure (ForInStep.yield ok) else pure (ForInStep.yield r)) (TP X pins σ Q) X.xe s
theorem yV {X:Cx}:DZ X [] KQ:=fun pins s σ H Q I h=>wpAny_tests_nil ⟨H,I,h⟩
theorem BE (ys:List Value) (y:Value):({cls:=.type "list",data:=.seq (ys.toArray.push y) (ys.length+1)}:Obj)={cls:=.type "list",data:=.seq (ys++[y]).toArray (ys++[y]).length}:=by
 rw[List.length_append,List.length_singleton,List.push_toArray]
theorem BF {X : Cx} {pins : List (Addr × Obj)} {σ : St} {H : Hp} {s s4 : Shared} {x : Str} {bH : List Str} {cap : List Nat} {scope : Scope} {cl : List (Str × Addr)} {C : Addr} {fp : List Addr} {m' : Str -> Option Value}
    (I:Inv X pins σ H s) (T:gO X x bH cap scope cl) (hfp:∀b∈fp,kD X pins H b) (hfo:∀b∈fp,∃o,s.heap.get? b=some o)
    (hC:s.heap.objs.size<=C) (hns:s4.heap.Ns C m') (hos:s4.os=s.os) (hg:s4.gens=s.gens)
    (kept:∀b o,s.heap.get? b=some o->s4.heap.get? b=some o):
    Inv (cG X (x :: bH) scope cl C s H fp) [] (none :: bN cap σ) H s4:=by
  have fr:∀b,s.heap.objs.size<=b->H b=none:=fun b hb=>I.hok.fresh hb
  refine⟨⟨I.ok.mod,T.kind,I.ok.glob,I.ok.blt,hC,fun y z c h1 h2=>I.ok.inj y z c (T.cells _ _ h1) (T.cells _ _ h2),fun y hy=>T.has y hy,fun y c h=>(by cases h),I.ok.hd,I.ok.frames,.inl rfl,fun b hb=>⟨?_,fun y c e z=>?_⟩,I.bs,Nat.le_trans I.ok.Dy I.sz,fun b o e hb=>?_,fun b hb z=>?_,I.stack,I.tL⟩,
    hos,by rw[hg];exact I.bare,Un.kept kept,⟨m',hns,fun i y v h1 h2 h3=>?_⟩,fun y c h=>?_,fr C hC,fun y c h=>I.kI y c (T.cells _ _ h),fun p hp=>?_,I.hok.kept kept,?_⟩
  . obtain⟨o,e⟩:=hfo b hb
    exact Nat.ne_of_lt (Nat.lt_of_lt_of_le (Heap.lt_size e) hC)
  . exact(hfp b hb).2.2.2.2.1 y c (T.cells _ _ e) z
  . rcases(hfp b hb).2.2.2.1 with z | z
    . exact I.ok.zY b o e z
    . exact absurd (Nat.lt_of_lt_of_le (Heap.lt_size e) (Nat.le_trans I.ok.Dy z)) (Nat.lt_irrefl _)
  . rcases List.mem_cons.mp (I.ou b z) with q | q
    . exact(hfp b hb).2.1 q
    . exact(hfp b hb).2.2.1 q
  . cases i with
    | zero=>cases h2
    | succ j=>
      have h1:bH[j]? =some y:=by simpa[cG] using h1
      have h2:(bN cap σ)[j]? =some (some v):=by simpa using h2
      obtain⟨i,e1,e2,e3⟩:=T.slot j y h1
      have e4:σ[i]? =some (some v):=by
        unfold bN at h2
        rw[List.getElem?_map,e1] at h2
        have h2:some ((σ[i]?).join)=some (some v):=h2
        have h2:=Option.some.inj h2
        cases q:σ[i]? with
        | none=>rw[q] at h2;cases h2
        | some o=>rw[q] at h2;cases h2;rfl
      obtain⟨m,hn,hl⟩:=I.loc
      obtain⟨u,r,l⟩:=hl i y v e2 e4 e3
      obtain⟨k1,⟨c,hc⟩,k3⟩:=T.vis y (List.mem_of_getElem? h1)
      refine⟨u,r,.inr ⟨k1,c,hc,?_⟩⟩
      rcases l with⟨hk,_⟩ | ⟨hk,c',hc',z⟩
      . exact absurd hk k3
      . rw[T.cells _ _ hc] at hc'
        cases hc'
        obtain⟨o,ho,hd⟩:=z
        exact⟨o,kept _ _ ho,hd⟩
  . obtain⟨v,o,ho,hd⟩:=I.cell y c (T.cells _ _ h)
    exact⟨v,o,kept _ _ ho,hd⟩
  . exact absurd (show p∈([]:List (Addr×Obj)) from hp) (by simp)
  . show(none :: bN cap σ).length=(x :: bH).length
    simp[bN,T.len]
theorem BG {α:Type}{M:Model}{A:Around}{E E':Value->Shared->Prop}{s:Shared}{t:Sem α}{Q:Unit->Shared->Prop}{Q':α->Shared->Prop}(h:wpAny M A (pure ():Sem Unit) Q E s) (k:Q () s->wpAny M A t Q' E' s):wpAny M A t Q' E' s:=
 fun Γ p hΓ=>k (h Γ p hΓ) Γ p hΓ
theorem qo {X:Cx}{elt iter:Expr}{ifs:List Expr}{x:Str}{px pos:Pos}{scope:Scope}{cl:List (Str×Addr)}{bH:List Str}{cap:List Nat}{wi:TI}{tc:TT}{te:TE}{pins:List (Addr×Obj)}{s:Shared}{σ:St}{H:Hp}{Q:VK}{use:Option (Value->Sem Unit)}{Qf:Value->Shared->Prop}{pos2:Pos}
    (T:gO X x bH cap scope cl) (hc:X.calm=true) (hi:PI X (.Name x px) iter wi)
    (ht:∀C s H fp,DZ (cG X (x :: bH) scope cl C s H fp) ifs tc) (he:∀C s H fp,PE (cG X (x :: bH) scope cl C s H fp) elt te)
    (hs:∀x,foldedSetIterable iter X.env x=pure x) (I:Inv X pins σ H s) (h:MI wi cap tc te σ H Q)
    (hend:∀(D C:Addr) (s7:Shared) (H6:Hp) (ys:List V),Inv X pins σ (upd H6 D (.lst ys)) s7->(∃m,s7.heap.Ns C m)->kD X pins (upd H6 D (.lst ys)) C->Q (.ref D) (upd H6 D (.lst ys))->compPost (model X.prog X.w) X.A X.xe use Qf (.ref D) C (.ok .next) s7):
    wpAny (model X.prog X.w) X.A (comprehension (.ListComp elt [⟨.Name x px,iter,ifs,0⟩] scope pos) scope X.env pos2 (newList []) false (eval iter X.env) use) Qf X.xe s:=by
  refine wpAny_comprehension_free (use:=use) rfl hs T.clos T.kind T.names (fh (hi pins s σ H _ I h) fun v s1 h1=>fh h1 fun itv s2 h2=>?_)
  obtain⟨it,fp,tn,J,H2,rfl,I2,rK,st2,f2,W,⟨m0,w0⟩,turn⟩:=h2
  refine wpAny_newObj_type (wpAny_newFunctionEnv T.kO (by intro y hy;simp at hy) (fun h4 tY qq=>?_) T.kind)
  dsimp only at tY qq ⊢
  generalize Hl:s2.heap.push {cls:=.type "list",dict:=none,data:=.seq ([]:List Value).toArray}=H3 at tY qq ⊢
  have eC:H3.objs.size=s2.heap.objs.size+1:=by rw[<-Hl,Heap.size_push]
  generalize Uw:H3.objs.size=C at eC tY qq ⊢
  generalize eD:s2.heap.objs.size=D at eC ⊢
  have BH:C=D+1:=eC
  have hDC:D≠C:=by rw[BH];exact Nat.ne_of_lt (Nat.lt_succ_self D)
  have hC:s2.heap.objs.size<=C:=by rw[eD,BH];exact Nat.le_succ D
  have hD:s2.heap.objs.size<=D:=by rw[eD];exact Nat.le_refl D
  have kept:∀b o,s2.heap.get? b=some o->h4.get? b=some o:=fun b o e=>qq.extBut b o (Nat.ne_of_lt (Nat.lt_of_lt_of_le (Heap.lt_size e) hC)) (Heap.get?_push_of_some _ (Hl▸Heap.get?_push_of_some _ e))
  have hacc:h4.get? D=some {cls:=.type "list",data:=.seq ([]:List Value).toArray ([]:List Value).length}:=qq.extBut _ _ hDC (Heap.get?_push_of_some _ (Hl▸eD▸Heap.get?_push_size _ rfl))
  have KR:∀b∈fp,∃o,s2.heap.get? b=some o:=fun b hb=>let⟨o,e,_⟩:=rK.obj _ _ st2 b hb;⟨o,e⟩
  have hDf:D∉fp:=fun hb=>by
    obtain⟨o,e⟩:=KR D hb
    exact absurd (Nat.lt_of_lt_of_le (Heap.lt_size e) hD) (Nat.lt_irrefl _)
  have Ho:tn 0 h4:=rK.keep _ _ _ st2 fun b _ o e=>kept b o e
  have key : ∀ s5 : Shared, s5 = { s2 with heap := h4, toks := s2.toks + ([] : List (Str × Value)).length } ->
      codeAny (model X.prog X.w) X.A (.compLoop (.ListComp elt [⟨.Name x px,iter,ifs,0⟩] scope pos) 0 (.ref it) (.ref D) (compEnvC scope cl C X.env)) (compPost (model X.prog X.w) X.A X.xe use Qf (.ref D) C) s5:=by
    rintro s5 rfl
    have I4:Inv (cG X (x :: bH) scope cl C s2 H2 fp) [] (none :: bN cap σ) H2 {s2 with heap:=h4,toks:=s2.toks+([]:List (Str×Value)).length}:=
      BF (s4:={s2 with heap:=h4,toks:=s2.toks+([]:List (Str×Value)).length}) I2 T f2 KR hC tY rfl rfl kept
    generalize hY:cG X (x :: bH) scope cl C s2 H2 fp=Y at I4
    have fD:∀{H':Hp},H' D=none->kD Y [] H' D:=fun {H'} hn=>by
      subst hY
      refine⟨hn,hDC,fun z=>(List.mem_cons.mp (I2.ou D z)).elim (fun q=>absurd (Nat.lt_of_lt_of_le (q▸I2.lt) hD) (Nat.lt_irrefl _)) fun q=>I2.Gx hD q,.inr hD,fun y c e z=>?_,fun p hp=>absurd (show p∈([]:List (Addr×Obj)) from hp) (by simp)⟩
      obtain⟨v,q⟩:=I2.cell y c (T.cells _ _ e)
      exact absurd (Nat.lt_of_lt_of_le q.lt (by rw[z];exact hD)) (Nat.lt_irrefl _)
    have fF:∀{H':Hp},(∀b∈fp,H' b=none)->∀b∈fp,kD Y [] H' b:=fun {H'} hn b hb=>by
      have q:=I4.ok.MA b (by subst hY;exact hb)
      exact⟨hn b hb,fun z=>q.1 z,I4.ok.zZ b (by subst hY;exact hb),.inl (by subst hY;exact hb),fun y c e z=>q.2 y c e z,fun p hp=>absurd (show p∈([]:List (Addr×Obj)) from(by subst hY;exact hp)) (by simp)⟩
    have eA:Y.A=X.A:=by subst hY;rfl
    have eP:Y.prog=X.prog:=by subst hY;rfl
    have eW:Y.w=X.w:=by subst hY;rfl
    have eK:Y.K=X.K:=by subst hY;rfl
    have eE:Y.env=compEnvC scope cl C X.env:=by subst hY;rfl
    have eX:Y.xe=fun _ _=>False:=by subst hY;rfl
    have eN:Y.N=x :: bH:=by subst hY;rfl
    have FW:Y.calm=true:=by subst hY;exact hc
    have Og:DZ Y ifs tc:=by subst hY;exact ht _ _ _ _
    have Oh:PE Y elt te:=by subst hY;exact he _ _ _ _
    have Oi:PG Y (.Name x px) (pg 0):=pR (by rw[eN];exact T.nd) (by rw[eN];rfl) (by rw[eE];exact .inl (lookup_relabel_local T.loc)) (.inr (by rw[eE];exact lookup_relabel_local T.loc))
    have mU:∀(E':Value->Shared->Prop) (e:Value) (s':Shared),Y.xe e s'->E' e s':=fun E' e s' z=>by rw[eX] at z;exact z.elim
    refine codeAny_compLoop_tests (fun n s'=>∃i ys us H' o,Inv Y [] (o :: bN cap σ) H' s'/\tn i s'.heap/\(∀b∈fp,H' b=none)/\H' D=none/\s'.heap.get? D=some {cls:=.type "list",data:=.seq us.toArray us.length}/\Vals ys us/\W i n ys H') ?_ m0
      ⟨0,[],[],H2,none,I4,Ho,fun b hb=>(f2 b hb).1,I2.hok.fresh hD,hacc,.nil,w0⟩
    rintro n s6 ⟨i,ys,us,H6,o6,I6,Hq,Hr,d6,a6,v6,w6⟩
    have Oj:us.length=ys.length:=v6.length.symm
    obtain⟨hz,BI⟩:=turn i n ys H6 w6
    rcases BI with⟨stop,qn⟩ | ⟨go,step⟩
    . have q := rK.done Y eP eW eK FW i [] s6 (o6 :: bN cap σ) H6 (notedBy (model X.prog X.w) X.A (compEnvC scope cl C X.env) fun e s' => compPost (model X.prog X.w) X.A X.xe use Qf (.ref D) C (.error e) s') I6 (fF Hr) Hq stop
      rw[eA] at q
      have Hs:=I6.pinned (fp:=[D]) (fun b hb=>by rw[List.mem_singleton.mp hb];exact fD d6) (fun b hb=>by rw[List.mem_singleton.mp hb];exact⟨_,a6,fun v z=>by cases z⟩)
      have q:=rK.done Y eP eW eK FW i _ s6 (o6 :: bN cap σ) H6 (notedBy (model X.prog X.w) X.A (compEnvC scope cl C X.env) fun e s'=>compPost (model X.prog X.w) X.A X.xe use Qf (.ref D) C (.error e) s') Hs (fun b hb=>?_) Hq stop
      . rw [eA] at q
        refine fh q fun r s7 ⟨hr,I7⟩=>?_
        subst hr
        have a7:s7.heap.get? D=_:=(I7.pin (D,{cls:=.type "list",data:=.seq us.toArray us.length}) (List.mem_append_right _ (List.mem_append_right _ (cD (List.mem_singleton.mpr rfl) a6)))).1
        obtain⟨m7,BJ,_⟩:=I7.loc
        rw[eE] at BJ
        have BK:H6 D=none:=d6
        have Ol:H6 C=none:=by have:=I7.free;rw[eE] at this;exact this
        have Ht:kG X.prog X.w H6 s7.heap:=by have q:=I7.hok;rw[eP,eW] at q;exact q
        have new:dX X.prog X.w (upd H6 D (.lst ys)) s7.heap D (.lst ys):=⟨Nat.le_of_lt hz,us,us.length,v6,a7⟩
        have u7:Un (frs X.stack) fp H2 H6 s2.heap s7.heap:=by have:=I7.base;subst hY;exact this
        have Om:∀b o,s2.heap.get? b=some o->b≠D:=fun b o e=>Nat.ne_of_lt (Nat.lt_of_lt_of_le (Heap.lt_size e) hD)
        have u8:Un (frs X.stack) fp H2 (upd H6 D (.lst ys)) s2.heap s7.heap:=
          ⟨u7.keep,u7.slot,fun b o e n hx=>by rw[aK (Om b o e)];exact u7.free b o e n hx,u7.there,
           fun b xs e=>by have z:=u7.tups b xs e;rw[aK (bz z BK)];exact z,fun b o u e=>by have z:=u7.p9 b o u e;rw[aK (bz z BK)];exact z,
           fun b ps e=>by obtain⟨more,z⟩:=u7.rG b ps e;exact⟨more,by rw[aK (bz z BK)];exact z⟩⟩
        have Oo:s7.os=s2.os:=by have:=I7.os;subst hY;exact this
        have I9:Inv X pins σ (upd H6 D (.lst ys)) s7:=I2.FH (ch:=fp) Oo u8 (Ht.FU BK new) I7.bare fun b hb=>⟨(f2 b hb).2.2.2.1,(f2 b hb).2.1,(f2 b hb).2.2.2.2.1,(f2 b hb).2.2.2.2.2⟩
        exact hend D C s7 H6 ys I9 ⟨m7,BJ⟩ (I2.vm hC (by rw[aK (Ne.symm hDC)];exact Ol)) (qn D BK)
      . obtain⟨f0,f1,Hu,f3,f4,f5⟩:=fF Hr b hb
        refine⟨f0,f1,Hu,f3,f4,fun p hp z=>?_⟩
        rcases List.mem_append.mp hp with q' | q'
        . exact f5 p (List.mem_append_left _ q') z
        . rcases List.mem_append.mp q' with q' | q'
          . exact absurd q' (by simp)
          . have:=(jF q').1
            rw[List.mem_singleton.mp this] at z
            exact hDf (z▸hb)
    . have Hs:=I6.pinned (fp:=[D]) (fun b hb=>by rw[List.mem_singleton.mp hb];exact fD d6) (fun b hb=>by rw[List.mem_singleton.mp hb];exact⟨_,a6,fun v z=>by cases z⟩)
      have KS:∀{H':Hp},(∀b∈fp,H' b=none)->∀b∈fp,kD Y ([]++jy [D] s6.heap) H' b:=fun {H'} hn b hb=>by
        obtain⟨f0,f1,Hu,f3,f4,f5⟩:=fF hn b hb
        refine⟨f0,f1,Hu,f3,f4,fun p hp z=>?_⟩
        rcases List.mem_append.mp hp with q' | q'
        . exact f5 p (List.mem_append_left _ q') z
        . rcases List.mem_append.mp q' with q' | q'
          . exact absurd q' (by simp)
          . have:=(jF q').1
            rw[List.mem_singleton.mp this] at z
            exact hDf (z▸hb)
      have q:=rK.item Y eP eW eK FW i _ s6 (o6 :: bN cap σ) H6 (notedBy (model X.prog X.w) X.A (compEnvC scope cl C X.env) fun e s'=>compPost (model X.prog X.w) X.A X.xe use Qf (.ref D) C (.error e) s') Hs (KS Hr) Hq go
      rw[eA] at q
      refine fh q fun r s7 ⟨u,hr,h7⟩=>?_
      subst hr
      refine BG h7 fun⟨xv,H8,I8,r8,y8,D0,Oq⟩=>?_
      have Ot:=I8.pinned (KS Oq) (rK.obj _ _ D0)
      have qa:=Oi _ s7 (o6 :: bN cap σ) H8 xv u _ Ot r8 (show pg 0 xv (o6 :: bN cap σ) H8 (fun σ' H'=>σ'=some xv :: bN cap σ/\H'=H8) from⟨rfl,rfl⟩)
      rw[eP,eW,eA,eE] at qa
      refine wpAny_mono qa (fun _ s9 h9=>?_) (mU _)
      obtain⟨Ux,H9,I9,e9,Ou⟩:=h9
      subst e9 Ou
      have qt:=Og _ s9 _ _ _ I9 (step xv _ y8)
      rw[eP,eW,eA,eE] at qt
      refine wpAny_mono qt (fun ok KU h10=>?_) (mU _)
      obtain⟨Ov,KW,D3⟩:=h10
      have back:∀{s':Shared}{H':Hp},Inv Y (([]++jy [D] s6.heap)++jy fp s7.heap) (some xv :: bN cap σ) H' s'->Inv Y [] (some xv :: bN cap σ) H' s'/\tn (i+1) s'.heap/\(∀b∈fp,H' b=none)/\H' D=none/\s'.heap.get? D=some {cls:=.type "list",data:=.seq us.toArray us.length}:=fun {s' H'} J=>by
        refine⟨J.iT.iT,rK.keep _ _ _ D0 fun b hb o e=>(J.pin (b,o) (List.mem_append_right _ (List.mem_append_right _ (cD hb e)))).1,fun b hb=>?_,?_,?_⟩
        . obtain⟨o,e,d⟩:=rK.obj _ _ D0 b hb
          exact(J.pin (b,o) (List.mem_append_right _ (List.mem_append_right _ (cD hb e)))).2.1
        . exact(J.pin (D,_) (List.mem_append_right _ (List.mem_append_left _ (List.mem_append_right _ (cD (List.mem_singleton.mpr rfl) a6))))).2.1
        . exact(J.pin (D,_) (List.mem_append_right _ (List.mem_append_left _ (List.mem_append_right _ (cD (List.mem_singleton.mpr rfl) a6))))).1
      cases ok with
      | false=>
        rw[if_neg (by decide)] at D3 ⊢
        obtain⟨m',hm,Ow⟩:=D3
        obtain⟨b1,b2,b3,b4,b5⟩:=back KW
        exact⟨m',hm,i+1,ys,us,Ov,some xv,b1,b2,b3,b4,b5,v6,Ow⟩
      | true=>
        rw[if_pos rfl] at D3 ⊢
        have qe:=Oh _ KU _ _ _ KW D3
        rw[eP,eW,eA,eE] at qe
        refine wpAny_mono qe (fun y D4 h11=>?_) (mU _)
        obtain⟨yv,KY,Ox,Oz,m',hm,OA⟩:=h11
        obtain⟨b1,b2,b3,b4,b5⟩:=back Ox
        refine append_at (hsz:=by rw[List.size_toArray,Oj];exact Nat.le_of_lt hz) b5 fun h12 Hv Hw=>?_
        have BL:∀b o,b≠D->D4.heap.get? b=some o->h12.get? b=some o:=fun b o hb e=>Hv.extBut b o hb e
        obtain⟨g0,g1,g2,g3,g4,g5⟩:=fD b4
        have OB:Inv Y [] (some xv :: bN cap σ) KY {D4 with heap:=h12}:=b1.turned (t':=D4.toks) BL g0 g1 g3 g4 g5
        refine⟨m',hm,i+1,ys++[yv],us++[y],KY,some xv,OB,rK.keep _ _ _ b2 fun b hb o e=>BL b o (fun z=>hDf (z▸hb)) e,b3,b4,Hw.trans (congrArg some (BE us y)),v6.append (.cons Oz .nil),OA⟩
  exact codeAny_compStart_list (key _ rfl) (rK.self _ 0 _ _ _ Ho (key _ rfl))
theorem BN {X:Cx}{elt iter:Expr}{ifs:List Expr}{x:Str}{px pos:Pos}{scope:Scope}{cl:List (Str×Addr)}{bH:List Str}{cap:List Nat}{wi:TI}{tc:TT}{te:TE}
  (T:gO X x bH cap scope cl) (hc:X.calm=true) (hi:PI X (.Name x px) iter wi)
  (ht:∀C s H fp,DZ (cG X (x :: bH) scope cl C s H fp) ifs tc) (he:∀C s H fp,PE (cG X (x :: bH) scope cl C s H fp) elt te)
  (hs:∀x,foldedSetIterable iter X.env x=pure x:=by intro _;rfl):
  PE X (.ListComp elt [⟨.Name x px,iter,ifs,0⟩] scope pos) (MI wi cap tc te):=by
 intro pins s σ H Q I h
 rw[eval_ListComp]
 refine qo T hc hi ht he hs I h ?_
 rintro p C s7 H6 ys I9 ⟨m7,BJ⟩ ⟨g0,g1,g2,g3,g4,g5⟩ q
 exact⟨m7,BJ,fun h' hs'=>⟨.ref p,_,I9.turned (t':=s7.toks) (fun b o hb e=>hs'.extBut b o hb e) g0 g1 g3 g4 g5,rfl,q⟩⟩
theorem vD {X:Cx}{elt iter:Expr}{ifs:List Expr}{x:Str}{px pos:Pos}{scope:Scope}{cl:List (Str×Addr)}{bH:List Str}{cap:List Nat}{wi:TI}{tc:TT}{te:TE}{i:Nat}{y:Str}{py spos:Pos}
  (T:gO X x bH cap scope cl) (hc:X.calm=true) (hi:PI X (.Name x px) iter wi)
  (ht:∀C s H fp,DZ (cG X (x :: bH) scope cl C s H fp) ifs tc) (he:∀C s H fp,PE (cG X (x :: bH) scope cl C s H fp) elt te)
  (hs:∀x,foldedSetIterable iter X.env x=pure x) (hN:X.N.Nodup) (hy:X.N[i]? =some y) (hx:Loc X.env.scope y)
  (hsw:swapsWith (.ListComp elt [⟨.Name x px,iter,ifs,0⟩] scope pos) (some (.Name y py)) spos.line X.env=pure true) (hf:X.fn y=true\/X.env.scope.names.lookup y=some .local):
  PS X (.Assign [.Name y py] (.ListComp elt [⟨.Name x px,iter,ifs,0⟩] scope pos) spos) (DK (MI wi cap tc te) (pg i)):=by
 intro pins s σ H D I h
 rw[exec_Assign_Name_used _ _ _ _ hsw]
 refine wpAny_bind (wpAny_standAt (wpAny_bind ?_))
 show wpAny _ X.A (do let _ <-comprehension (.ListComp elt [⟨.Name x px,iter,ifs,0⟩] scope pos) scope X.env _ (newList []) false (eval iter X.env) (some (assign (.Name y py) X.env))) _ _ s
 refine wpAny_bind (wpAny_mono (qo (Qf:=fun _ s'=>SP X pins D .next s') T hc hi ht he hs I h ?_) (fun _ s' hq=>wpAny_pure (wpAny_pure hq)) fun _ _ e=>e)
 rintro p C s7 H6 ys I9 ⟨m7,BJ⟩ ⟨g0,g1,g2,g3,g4,g5⟩ q
 refine wpAny_assign_Name (sf I9 hN hy hx (v:=.ref p) (show RelV (.ref p) (.ref p) from rfl) (fun s8 I8 ⟨a,hsb,ha⟩=>?_) hf)
 have hne:C≠a:=ha.elim (fun z=>by rw[z];exact g1) fun z=>Ne.symm (g4 _ _ z)
 refine⟨m7,BJ.sameBut hsb hne,fun h' hs'=>?_⟩
 exact⟨_,_,I8.turned (t':=s8.toks) (fun b o hb e=>hs'.extBut b o hb e) g0 g1 g3 g4 g5,q⟩
noncomputable def OC (z:Str):It:=⟨fun i _=>i < z.cps.size,fun i H x H'=>H'=H/\∃c,z.cps[i]? =some c/\x= .str ⟨#[c]⟩,fun i _=>z.cps.size<=i⟩
theorem BO {P:Program}{w:World}{K:PySem.W.Frag}{x:Str}{px:Pos}(z:Str) (it:Addr) (t:Tok) (ty:String) (hW:∀A':Around,A'.handled=none->Walks P w A' it [it] [it] z.cps.size (SignAt z) fun i h=>h.IsStrIter it ty z t i)
  (hself:∀(A:Around) (i:Nat) (s:Shared) (Q:Value->Shared->Prop) (E:Value->Shared->Prop),s.heap.IsStrIter it ty z t i->Q (.ref it) s->wpAny (model P w) A (pyIter (.ref it)) Q E s):
  Turn P w K (.Name x px) (OC z) [it] it (fun i h=>i<=z.cps.size/\h.IsStrIter it ty z t i) where
 mem:=by simp
 obj:=fun i h st b hb=>by
  obtain rfl:b=it:=by simpa using hb
  obtain⟨o,e,c,d⟩:=st.2
  exact⟨o,e,fun v q=>by rw[d] at q;cases q⟩
 keep:=fun i h h' st k=>by
  obtain⟨o,e,r⟩:=st.2
  exact⟨st.1,o,k it (by simp) o e,r⟩
 item:=by
  intro X hP hw hK hc i pins s σ H E I hf st hg
  subst hP hw hK
  obtain⟨f0,f1,f2,f3,f4,f5⟩:=hf it (by simp)
  refine(hW X.A (I.ok.hd hc)).item i s _ _ hg st.2 fun v h' tk hv st' kk=>?_
  obtain⟨c,u,hc',rfl⟩:=hv
  exact⟨_,rfl,wpAny_pure ⟨.str ⟨#[c]⟩,H,I.turned (fun b o hb e=>kk b o (by simpa using hb) e) f0 f1 f3 f4 f5,⟨u,rfl⟩,⟨rfl,c,hc',rfl⟩,⟨hg,st'⟩,fun b hb=>(hf b hb).1⟩⟩
 done:=by
  intro X hP hw hK hc i pins s σ H E I hf st hg
  subst hP hw hK
  obtain⟨f0,f1,f2,f3,f4,f5⟩:=hf it (by simp)
  obtain⟨s1,s2⟩:=st
  have e:i=z.cps.size:=Nat.le_antisymm s1 hg
  subst e
  exact(hW X.A (I.ok.hd hc)).done s _ _ s2 fun h' tk kk=>⟨rfl,I.turned (fun b o hb e=>kk b o (by simpa using hb) e) f0 f1 f3 f4 f5⟩
 self:=fun A i s Q E st h=>hself A i s Q E st.2 h
noncomputable def OD (tl:TE):TI:=fun σ H R=>tl σ H fun x H1=>∃z,x= .str z/\R (OC z) H1
theorem Hx {X:Cx}{x:Str}{px:Pos}{l:Expr}{tl:TE}(hl:PE X l tl):PI X (.Name x px) l (OD tl):=by
 intro pins s σ H R I h
 refine fh (hl pins s σ H _ I h) fun v s1 ⟨y,H1,I1,r1,q1⟩=>?_
 obtain⟨z,rfl,q⟩:=q1
 obtain⟨t,rfl⟩:=r1
 refine wpAny_pyIter_strU ?_
 have hst:∀ty,strIterType z=ty->(s1.heap.push {cls:=.type (strIterType z),data:=.fields #[.str z t,.int 0 0]}).IsStrIter s1.heap.objs.size ty z t 0:=fun ty e=>⟨_,Heap.get?_push_size _ rfl,by rw[<-e],rfl⟩
 have go:∀ty,strIterType z=ty->(∀A':Around,A'.handled=none->Walks X.prog X.w A' s1.heap.objs.size [s1.heap.objs.size] [s1.heap.objs.size] z.cps.size (SignAt z) fun i h=>h.IsStrIter s1.heap.objs.size ty z t i)->
   (∀(A:Around) (i:Nat) (s:Shared) (Q:Value->Shared->Prop) (E:Value->Shared->Prop),s.heap.IsStrIter s1.heap.objs.size ty z t i->Q (.ref s1.heap.objs.size) s->wpAny (model X.prog X.w) A (pyIter (.ref s1.heap.objs.size)) Q E s)->
   NW X pins σ (.Name x px) R (.ref s1.heap.objs.size) {s1 with heap:=s1.heap.push {cls:=.type (strIterType z),data:=.fields #[.str z t,.int 0 0]}}:=fun ty e hW hself=>by
  refine⟨s1.heap.objs.size,[s1.heap.objs.size],_,_,H1,rfl,I1.kept (t':=s1.toks) fun b o e=>Heap.get?_push_of_some _ e,BO z _ t ty hW hself,⟨Nat.zero_le _,hst ty e⟩,fun b hb=>?_,q⟩
  obtain rfl:b=s1.heap.objs.size:=by simpa using hb
  exact I1.vm (Nat.le_refl _) (I1.hok.fresh (Nat.le_refl _))
 cases ha:z.cps.all (· < 128)
 ·exact go "str_iterator" (by simp[strIterType,ha]) (fun A' hA=>Walks.strWide hA _ z t) fun A i s Q E st h=>wpAny_pyIter_striter_wide st h
 ·exact go "str_ascii_iterator" (by simp[strIterType,ha]) (fun A' hA=>Walks.strAscii hA _ z t) fun A i s Q E st h=>wpAny_pyIter_striter_ascii st h
theorem bD.length {H:Hp}:∀{vs:List V}{ds:List D},bD H vs ds->vs.length=ds.length
 | _,_,.nil=>rfl
 | _,_,.cons _ rs=>congrArg Nat.succ (bD.length rs)
theorem bD.get {H:Hp}:∀{vs:List V}{ds:List D}{i:Nat}{d:D},bD H vs ds->ds[i]? =some d->∃v,vs[i]? =some v/\Rep H v d
 | _,_,_,_,.nil,e=>by simp at e
 | _,_,0,_,.cons r _,e=>by simp at e;subst e;exact⟨_,rfl,r⟩
 | _,_,i+1,_,.cons _ rs,e=>by
  obtain⟨v,h1,h2⟩:=bD.get (i:=i) rs (by simpa using e)
  exact⟨v,by simpa using h1,h2⟩
theorem bD.append {H:Hp}:∀{vs ws:List V}{ds es:List D},bD H vs ds->bD H ws es->bD H (vs++ws) (ds++es)
 | _,_,_,_,.nil,s=>s
 | _,_,_,_,.cons r rs,s=>.cons r (bD.append rs s)
theorem bD.take {H:Hp}:∀{vs:List V}{ds:List D}(n:Nat),bD H vs ds->bD H (vs.take n) (ds.take n)
 | _,_,0,_=>.nil
 | _,_,_+1,.nil=>.nil
 | _,_,n+1,.cons r rs=>.cons r (bD.take n rs)
theorem bD.drop {H:Hp}:∀{vs:List V}{ds:List D}(n:Nat),bD H vs ds->bD H (vs.drop n) (ds.drop n)
 | _,_,0,rs=>rs
 | _,_,_+1,.nil=>.nil
 | _,_,n+1,.cons _ rs=>bD.drop n rs
end L2
end
section
namespace HT
open PySem PySem.Spec PyProof.Rows
section
variable {prog:Program}{w:World}{A:Around}{E:Value->Shared->Prop}{s:Shared}
end
end HT
end
section
namespace L2
open PySem PySem.Spec PyProof.Rows
section
variable {X:Cx}
theorem bD.dW {H:Hp}{vs:List V}{ds:List D}{i:Int}{d:D}(r:bD H vs ds) (h:L2.dW ds i=some d):∃v,L2.dW vs i=some v/\Rep H v d:=by
 have hl:=r.length
 unfold L2.dW at h ⊢
 rw[hl]
 cases e:uX ds.length i with
 | none=>rw[e] at h;cases h
 | some j=>
  rw[e] at h
  exact r.get h
end
theorem vE {scope:Scope}{env:Env}{n:Str}{k:NameKind}(h:(relabel scope env).names.lookup n=some k):(n,k)∈(relabel scope env).names:=PySem.mem_of_lookup h
theorem mV {X:Cx}{x:Str}{scope:Scope}(h1:∀y∈scope.names,y.2≠.free) (h2:∀y∈scope.names,y.2≠.cell) (h3:scope.kind= .function) (h4:∀y∈scope.names,y.2= .local->scope.names.lookup y.1=some .local) (h5:scope.names.lookup x=some .local):
  gO X x [] [] scope []:=by
 refine⟨closureFor_none h1,h2,h3,h4,h5,fun n c h=>(by cases h),fun n h=>?_,by simp,rfl,fun j n h=>(by simp at h),fun n h=>(by simp at h)⟩
 have no:∀k,(k=NameKind.cell\/k=NameKind.free)->(relabel scope X.env).names.lookup n≠some k:=fun k hk e=>by
  have m:=vE e
  unfold relabel at m
  obtain⟨⟨n',k'⟩,hm,q⟩:=List.mem_map.mp m
  have z:(k' == NameKind.free)=false:=by simpa using h1 _ hm
  simp only[z,Bool.false_and,if_false] at q
  have q2:k'=k:=by
   have:=congrArg Prod.snd q
   simpa using this
  rcases hk with rfl | rfl
  ·exact h2 _ hm q2
  ·exact h1 _ hm q2
 rcases h with h | h
 ·exact absurd h (no _ (.inl rfl))
 ·exact absurd h (no _ (.inr rfl))
mutual
noncomputable def Uy (n:Nat):D->Prop
 | .str z=>z.length<=n
 | .tup ds=>ds.length<=n/\Fits n ds
 | .lst ds=>ds.length<=n/\Fits n ds
 | .dg=>True
 | .bl _=>True
 | .int _=>True
noncomputable def Fits (n:Nat):List D->Prop
 | []=>True
 | d :: ds=>Uy n d/\Fits n ds
end
theorem Fits.take {n:Nat}:∀{ds:List D}(k:Nat),Fits n ds->Fits n (ds.take k)
 | _,0,_=>True.intro
 | [],_+1,_=>True.intro
 | _ :: _,k+1,h=>⟨h.1,Fits.take k h.2⟩
theorem Fits.drop {n:Nat}:∀{ds:List D}(k:Nat),Fits n ds->Fits n (ds.drop k)
 | _,0,h=>h
 | [],_+1,_=>True.intro
 | _ :: _,k+1,h=>Fits.drop k h.2
noncomputable def SN:Str:="abcdefghijklmnopqrstuvwxyz"
noncomputable def sign (c:Nat):Bool:=!(Builtin.Str.occurrences SN ⟨#[c]⟩ 0 SN.length 1).isEmpty
theorem lookup_some {α : Type} : ∀ {l : List (Str × α)} {n : Str}, n ∈ l.map (·.1) -> ∃ c, l.lookup n = some c
  | [],_,h=>by simp at h
  | (m, c) :: l, n, h => by
    rw[List.lookup_cons]
    cases e:n == m with
    | true=>exact⟨c,rfl⟩
    | false=>
      rcases List.mem_cons.mp h with h | h
      . have h:n=m:=h
        rw[h,beq_self_eq_true] at e
        cases e
      . exact lookup_some h
mutual
noncomputable def toPy:D->PyData
 | .dg=>.none
 | .bl b=>.bool b
 | .int i=>.int i
 | .str z=>.str z
 | .tup ds=>.tuple (BP ds)
 | .lst ds=>.list (BP ds)
noncomputable def BP:List D->List PyData
 | []=>[]
 | d :: ds=>toPy d :: BP ds
end
section
variable {X:Cx}{pins:List (Addr×Obj)}{σ:St}{H:Hp}{s:Shared}
end
inductive MO where
 | lst (ds:List D)
 | dct (kvs:List (Key×D))
 | iO (kvs:List (D×D))
 | ins (C:Addr) (kvs:List (Str×D))
inductive U where
 | t (d:D) | m (o:MO) | b (o:MO) | v (i:Nat) | s (ns:List Int) | f (a:Addr)
noncomputable abbrev SS:=List (Option U)
noncomputable def Sub (F H:Hp):Prop:=∀a o,F a=some o->H a=some o
noncomputable def iL {κ:Type}(F:Hp) (p:κ×V) (q:κ×D):Prop:=p.1=q.1/\Rep F p.2 q.2
noncomputable def At (F H:Hp) (a:Addr):MO->Prop
 | .lst ds=>∃vs,H a=some (.lst vs)/\bD F vs ds
 | .dct kvs=>∃ws,H a=some (.dK ws)/\Paired (iL F) ws kvs
 | .iO kvs=>∃ws,H a=some (.dT ws)/\Paired (iL F) ws kvs
 | .ins C kvs=>∃ws,(∃dx,H a=some (.ins C dx ws))/\Paired (iL F) ws kvs
noncomputable def fj:U->Bool
 | .m _=>true
 | .b _=>true
 | _=>false
noncomputable def bY (S:SS) (σ:St) (a:Addr):Prop:=∃(i:Nat) (u:U),S[i]? =some (some u)/\fj u=true/\σ[i]? =some (some (.ref a))
noncomputable def FY (K:PySem.W.Frag) (H:Hp) (a:Addr) (ns:List Int):Prop:=
 (∃o,H a=some (.iI o (.lst (ns.map V.int))))\/∃(o:Obj) (its:Array Value) (n:Nat),K.lookup a=some o/\o.cls= .type "list"/\o.dict=none/\o.data= .seq its n/\its.size<=sizeLine/\Vals (ns.map V.int) its.toList
theorem FY.sq {K:PySem.W.Frag}{H:Hp}{a:Addr}{ns:List Int}:FY K H a ns->mR K H a (ns.map V.int)
 | .inl h=>.inl (.inr h)
 | .inr h=>.inr h
noncomputable def tZ (K:PySem.W.Frag) (F H:Hp) (v:V):U->Prop
 | .t d=>Rep F v d
 | .m o=>∃a,v= .ref a/\F a=none/\At F H a o
 | .b o=>∃a,v= .ref a/\F a=none/\At F H a o
 | .v _=>False
 | .s ns=>∃a,v= .ref a/\FY K H a ns
 | .f a=>v= .ref a
structure Ext (M:Addr->Prop) (F H F' H':Hp):Prop where
 le:∀b o,F b=some o->F' b=some o
 keep:∀b o,H b=some o->¬M b->H' b=some o
 gM:∀b o,H b=some o->¬M b->F b=none->F' b=none
 there:∀b o,H b=some o->∃o',H' b=some o'
 iI:∀b o u,H b=some (.iI o u)->H' b=some (.iI o u)
structure Base where
 P:List (Option Addr)
 F:Hp
 H:Hp
noncomputable def Base.M (B:Base) (a:Addr):Prop:=some a∈B.P
structure Rel (K:PySem.W.Frag) (B:Base) (S:SS) (σ:St) (F H:Hp):Prop where
 sub:Sub F H
 len:S.length=σ.length
 rep:∀(i:Nat) u,S[i]? =some (some u)->∃v,σ[i]? =some (some v)/\tZ K F H v u
 vF:∀(i j:Nat) u w a,S[i]? =some (some u)->fj u=true->S[j]? =some (some w)->fj w=true->σ[i]? =some (some (.ref a))->σ[j]? =some (some (.ref a))->i=j
 own:∀(i:Nat) o a,S[i]? =some (some (.m o))->σ[i]? =some (some (.ref a))->B.H a=none
 bor:∀(i:Nat) o a,S[i]? =some (some (.b o))->σ[i]? =some (some (.ref a))->B.M a
 par:∀(i:Nat) a,B.P[i]? =some (some a)->σ[i]? =some (some (.ref a))/\∃o,S[i]? =some (some (.b o))
 ext:Ext B.M B.F B.H F H
structure Step (S S':SS) (σ:St) (F H F' H':Hp):Prop where
 ext:Ext (bY S σ) F H F' H'
 mu:∀a,bY S' σ a->bY S σ a
 slots:∀(i:Nat) u,S[i]? =some (some u)->∃u',S'[i]? =some (some u')
theorem Ext.refl (M:Addr->Prop) (F H:Hp):Ext M F H F H:=⟨fun _ _ h=>h,fun _ _ h _=>h,fun _ _ _ _ h=>h,fun _ o h=>⟨o,h⟩,fun _ _ _ h=>h⟩
theorem Ext.trans {M M':Addr->Prop}{F H F1 H1 F2 H2:Hp}(x:Ext M F H F1 H1) (y:Ext M' F1 H1 F2 H2) (s:∀b,M' b->M b\/H b=none):Ext M F H F2 H2 where
 le:=fun b o h=>y.le b o (x.le b o h)
 keep:=fun b o h n=>y.keep b o (x.keep b o h n) fun q=>(s b q).elim n fun z=>by rw[h] at z;cases z
 gM:=fun b o h n f=>y.gM b o (x.keep b o h n) (fun q=>(s b q).elim n fun z=>by rw[h] at z;cases z) (x.gM b o h n f)
 there:=fun b o h=>let⟨o',h'⟩:=x.there b o h;y.there b o' h'
 iI:=fun b o u h=>y.iI b o u (x.iI b o u h)
theorem Step.refl (S:SS) (σ:St) (F H:Hp):Step S S σ F H F H:=⟨Ext.refl _ _ _,fun _ h=>h,fun _ u h=>⟨u,h⟩⟩
theorem Step.trans {S S1 S2:SS}{σ:St}{F H F1 H1 F2 H2:Hp}(x:Step S S1 σ F H F1 H1) (y:Step S1 S2 σ F1 H1 F2 H2):Step S S2 σ F H F2 H2:=
 ⟨x.ext.trans y.ext fun b q=>.inl (x.mu b q),fun a q=>x.mu a (y.mu a q),fun i u h=>let⟨u',h'⟩:=x.slots i u h;y.slots i u' h'⟩
mutual
theorem Rep.le {F F':Hp}(g:∀b o,F b=some o->F' b=some o):∀{v:V}{d:D},Rep F v d->Rep F' v d
 | _,_,.dg=>.dg
 | _,_,.bl b=>.bl b
 | _,_,.int i=>.int i
 | _,_,.str z=>.str z
 | _,_,.tup e r=>.tup (g _ _ e) (bD.le g r)
 | _,_,.lst e r=>.lst (e.imp (g _ _) fun⟨o,h⟩=>⟨o,g _ _ h⟩) (bD.le g r)
theorem bD.le {F F':Hp}(g:∀b o,F b=some o->F' b=some o):∀{vs:List V}{ds:List D},bD F vs ds->bD F' vs ds
 | _,_,.nil=>.nil
 | _,_,.cons r rs=>.cons (Rep.le g r) (bD.le g rs)
end
theorem qw {κ:Type}{F F':Hp}(g:∀b o,F b=some o->F' b=some o){ws:List (κ×V)}{kvs:List (κ×D)}(r:Paired (iL F) ws kvs):Paired (iL F') ws kvs:=
 Paired.zW r fun _ _ z=>⟨z.1,z.2.le g⟩
theorem At.le {F F' H H':Hp}{a:Addr}(g:∀b o,F b=some o->F' b=some o) (k:∀o,H a=some o->H' a=some o):∀{o:MO},At F H a o->At F' H' a o
 | .lst _,⟨vs,e,r⟩=>⟨vs,k _ e,r.le g⟩
 | .dct _,⟨ws,e,r⟩=>⟨ws,k _ e,qw g r⟩
 | .iO _,⟨ws,e,r⟩=>⟨ws,k _ e,qw g r⟩
 | .ins _ _,⟨ws,⟨dx,e⟩,r⟩=>⟨ws,⟨dx,k _ e⟩,qw g r⟩
theorem At.has {F H:Hp}{a:Addr}:∀{o:MO},At F H a o->∃u,H a=some u
 | .lst _,⟨_,e,_⟩=>⟨_,e⟩
 | .dct _,⟨_,e,_⟩=>⟨_,e⟩
 | .iO _,⟨_,e,_⟩=>⟨_,e⟩
 | .ins _ _,⟨_,⟨_,e⟩,_⟩=>⟨_,e⟩
noncomputable def iU (K:PySem.W.Frag) (B:Base) (S:SS) (σ:St) (H0 F H:Hp) (v:V):U->Prop
 | .t d=>Rep F v d
 | .m o=>∃a,v= .ref a/\H0 a=none/\F a=none/\At F H a o/\¬bY S σ a/\B.H a=none
 | .v i=>σ[i]? =some (some v)/\∃u,S[i]? =some (some u)
 | .b _=>False
 | .s ns=>∃a,v= .ref a/\FY K H a ns
 | .f a=>v= .ref a
theorem PE.imp {X:Cx}{e:Expr}{t t':TE}(h:PE X e t) (k:∀σ H Q,t' σ H Q->t σ H Q):PE X e t':=fun pins s σ H Q I q=>h pins s σ H Q I (k σ H Q q)
theorem PT.imp {X:Cx}{e:Expr}{t t':TT}(h:PT X e t) (k:∀σ H Q,t' σ H Q->t σ H Q):PT X e t':=fun pins s σ H Q I q=>h pins s σ H Q I (k σ H Q q)
theorem PW.imp {X:Cx}{e:Expr}{t t':TT}(h:PW X e t) (k:∀σ H Q,t' σ H Q->t σ H Q):PW X e t':=fun w pins s σ H Q I q=>h w pins s σ H Q I (k σ H Q q)
theorem PA.imp {X:Cx}{e:List Expr}{t t':TA}(h:PA X e t) (k:∀σ H Q,t' σ H Q->t σ H Q):PA X e t':=fun p pins s σ H Q I q=>h p pins s σ H Q I (k σ H Q q)
theorem PS.imp {X:Cx}{e:Stmt}{t t':TS}(h:PS X e t) (k:∀D σ H,t' D σ H->t D σ H):PS X e t':=fun pins s σ H Q I q=>h pins s σ H Q I (k Q σ H q)
theorem vh.imp {X:Cx}{e:List Stmt}{t t':TS}(h:vh X e t) (k:∀D σ H,t' D σ H->t D σ H):vh X e t':=fun pins s σ H Q I q=>h pins s σ H Q I (k Q σ H q)
theorem PE.orelse {X:Cx}{e:Expr}{t:TE}(h:∀σ H Q,t σ H Q->∃t',PE X e t'/\t' σ H Q):PE X e t:=fun pins s σ H Q I q=>let⟨_,h1,h2⟩:=h σ H Q q;h1 pins s σ H Q I h2
theorem PS.orelse {X:Cx}{e:Stmt}{t:TS}(h:∀D σ H,t D σ H->∃t',PS X e t'/\t' D σ H):PS X e t:=fun pins s σ H Q I q=>let⟨_,h1,h2⟩:=h Q σ H q;h1 pins s σ H Q I h2
noncomputable abbrev GE:=SS->Option (U×SS)
noncomputable abbrev GD:=SS->Option (D×SS)
noncomputable abbrev GT:=SS->Option (Bool×SS)
noncomputable abbrev GA:=SS->Option (List D×SS)
inductive Out where
 | nx (S:SS) | rt (u:U) (S:SS) | bk (S:SS) | ct (S:SS)
noncomputable abbrev GS:=SS->Option Out
noncomputable def tE (K:PySem.W.Frag) (B:Base) (g:GE):TE:=fun σ H Q=>∃S F u S',Rel K B S σ F H/\g S=some (u,S')/\∀v F' H',Rel K B S' σ F' H'->Step S S' σ F H F' H'->iU K B S' σ H F' H' v u->Q v H'
noncomputable def tD (K:PySem.W.Frag) (B:Base) (g:GD):TE:=fun σ H Q=>∃S F d S',Rel K B S σ F H/\g S=some (d,S')/\∀v F' H',Rel K B S' σ F' H'->Step S S' σ F H F' H'->Rep F' v d->Q v H'
noncomputable def tQ (K:PySem.W.Frag) (B:Base) (g:GT):TT:=fun σ H Q=>∃S F b S',Rel K B S σ F H/\g S=some (b,S')/\∀F' H',Rel K B S' σ F' H'->Step S S' σ F H F' H'->Q b H'
noncomputable def SO (K:PySem.W.Frag) (B:Base) (g:GA):TA:=fun σ H Q=>∃S F ds S',Rel K B S σ F H/\g S=some (ds,S')/\∀vs F' H',Rel K B S' σ F' H'->Step S S' σ F H F' H'->bD F' vs ds->Q vs H'
noncomputable def yW (K:PySem.W.Frag) (B:Base) (F:Hp) (D:Ends):Out->Prop
 | .nx S=>∀σ' F' H',Rel K B S σ' F' H'->(∀b o,F b=some o->F' b=some o)->D.nx σ' H'
 | .bk S=>∀σ' F' H',Rel K B S σ' F' H'->(∀b o,F b=some o->F' b=some o)->D.bk σ' H'
 | .ct S=>∀σ' F' H',Rel K B S σ' F' H'->(∀b o,F b=some o->F' b=some o)->D.ct σ' H'
 | .rt u S=>∀v σ' F' H',Rel K B S σ' F' H'->(∀b o,F b=some o->F' b=some o)->iU K B S σ' B.H F' H' v u->D.rt v H'
noncomputable def tO (K:PySem.W.Frag) (B:Base) (g:GS):TS:=fun D σ H=>∃S F o,Rel K B S σ F H/\g S=some o/\yW K B F D o
structure JE (X:Cx) (e:Expr) (g:GE):Prop where
 h:∀B,PE X e (tE X.K B g)
structure JD (X:Cx) (e:Expr) (g:GD):Prop where
 h:∀B,PE X e (tD X.K B g)
structure JT (X:Cx) (e:Expr) (g:GT):Prop where
 h:∀B,PT X e (tQ X.K B g)
structure JW (X:Cx) (e:Expr) (g:GT):Prop where
 h:∀B,PW X e (tQ X.K B g)
structure JA (X:Cx) (es:List Expr) (g:GA):Prop where
 h:∀B,PA X es (SO X.K B g)
structure JS (X:Cx) (st:Stmt) (g:GS):Prop where
 h:∀B,PS X st (tO X.K B g)
structure JB (X:Cx) (st:List Stmt) (g:GS):Prop where
 h:∀B,vh X st (tO X.K B g)
noncomputable def fz:U->SS->Option (D×SS)
 | .t d,S=>some (d,S)
 | .m (.lst ds),S=>some (.lst ds,S)
 | .v i,S=>match S[i]? with
  | some (some (.t d))=>some (d,S)
  | some (some (.m (.lst ds)))=>some (.lst ds,S.set i (some (.t (.lst ds))))
  | _=>none
 | _,_=>none
theorem get_set {α:Type}{l:List α}{i j:Nat}{x y:α}(h:(l.set i x)[j]? =some y):(i=j/\x=y/\i < l.length)\/(i≠j/\l[j]? =some y):=by
 by_cases e:i=j
 ·subst e
  by_cases hl:i < l.length
  ·rw[List.getElem?_set_self hl] at h;exact .inl ⟨rfl,Option.some.inj h,hl⟩
  ·rw[List.getElem?_eq_none (by simpa using hl)] at h;cases h
 ·rw[List.getElem?_set_ne e] at h;exact .inr ⟨e,h⟩
theorem Sub.iI {F H:Hp}{a:Addr}{o:HO}(s:Sub F H) (h:H a=some o):Sub (upd F a o) H:=fun b u e=>by
 by_cases hb:b=a
 ·subst hb;rw[aU] at e;cases e;exact h
 ·rw[aK hb] at e;exact s b u e
theorem Sub.fresh {F H:Hp}{p:Addr}(s:Sub F H) (h:H p=Option.none):F p=Option.none:=by
 cases e:F p with
 | none=>rfl
 | some o=>have q:=s p o e;rw[h] at q;cases q
theorem j6 {F:Hp}{a:Addr}{o:HO}(h:F a=none):∀b u,F b=some u->upd F a o b=some u:=fun b u e=>by rw[aK (bz e h)];exact e
theorem FY.le {K:PySem.W.Frag}{H H':Hp}{a:Addr}{ns:List Int}(k:∀b o u,H b=some (.iI o u)->H' b=some (.iI o u)):FY K H a ns->FY K H' a ns
 | .inl ⟨o,h⟩=>.inl ⟨o,k _ _ _ h⟩
 | .inr h=>.inr h
theorem tZ.le {K:PySem.W.Frag}{F F' H H':Hp}{v:V}(g:∀b o,F b=some o->F' b=some o) (kf:∀b o u,H b=some (.iI o u)->H' b=some (.iI o u)):∀{u:U},tZ K F H v u->(∀a,fj u=true->v= .ref a->(∀o,H a=some o->H' a=some o)/\F' a=none)->tZ K F' H' v u
 | .t _,h,_=>Rep.le g h
 | .m _,⟨a,e,_,h⟩,k=>let⟨k1,k2⟩:=k a rfl e;⟨a,e,k2,h.le g k1⟩
 | .b _,⟨a,e,_,h⟩,k=>let⟨k1,k2⟩:=k a rfl e;⟨a,e,k2,h.le g k1⟩
 | .v _,h,_=>h
 | .s _,⟨a,e,h⟩,_=>⟨a,e,h.le kf⟩
 | .f _,h,_=>h
theorem BQ {K : PySem.W.Frag} {B : Base} {S S' : SS} {σ : St} {H0 F0 F H : Hp} {v : V} {u : U} {d : D} {S0 : SS} (R : Rel K B S σ F H) (st : Step S0 S σ F0 H0 F H) (r : iU K B S σ H0 F H v u) (e : fz u S = some (d, S')) :
    ∃F',Rel K B S' σ F' H/\Step S0 S' σ F0 H0 F' H/\Rep F' v d:=by
  cases u with
  | t d'=>cases e;exact⟨F,R,st,r⟩
  | b o=>cases r
  | s o=>cases e
  | f o=>cases e
  | m o =>
    cases o with
    | dct kvs=>cases e
    | iO kvs=>cases e
    | ins C kvs=>cases e
    | lst ds=>
      cases e
      obtain⟨a,rfl,h0,hf,⟨vs,ha,rs⟩,nm,hB⟩:=r
      have g:=j6 (o:=.lst vs) hf
      refine⟨upd F a (.lst vs),⟨R.sub.iI ha,R.len,fun i u h=>?_,R.vF,R.own,R.bor,R.par,?_⟩,⟨⟨fun b o h=>g b o (st.ext.le b o h),st.ext.keep,fun b o h n f=>?_,st.ext.there,st.ext.iI⟩,st.mu,st.slots⟩,.lst (.inl aU) (rs.le g)⟩
      . obtain⟨w,h1,h2⟩:=R.rep i u h
        refine⟨w,h1,h2.le g (fun _ _ _ z=>z) fun c hm hc=>⟨fun o q=>q,?_⟩⟩
        have hca:c≠a:=fun z=>nm ⟨i,u,h,hm,by rw[h1,hc,z]⟩
        rw[aK hca]
        cases u with
        | m o=>obtain⟨c',e',f',_⟩:=h2;rw[hc] at e';cases e';exact f'
        | b o=>obtain⟨c',e',f',_⟩:=h2;rw[hc] at e';cases e';exact f'
        | t d=>cases hm
        | v j=>cases hm
        | s j=>cases hm
        | f j=>cases hm
      . exact⟨fun b o h=>g b o (R.ext.le b o h),R.ext.keep,fun b o h n f=>by rw[aK (fun z=>by rw[z,hB] at h;cases h)];exact R.ext.gM b o h n f,R.ext.there,R.ext.iI⟩
      . rw[aK (fun z=>by rw[z,h0] at h;cases h)]
        exact st.ext.gM b o h n f
  | v i =>
    obtain⟨hv,u,hu⟩:=r
    unfold fz at e
    simp only[hu] at e
    cases u with
    | t d'=>
      cases e
      obtain⟨w,h1,h2⟩:=R.rep i _ hu
      rw[hv] at h1
      cases h1
      exact⟨F,R,st,h2⟩
    | b o=>cases e
    | v j=>cases e
    | s j=>cases e
    | f j=>cases e
    | m o =>
      cases o with
      | dct kvs=>cases e
      | iO kvs=>cases e
      | ins C kvs=>cases e
      | lst ds =>
        cases e
        obtain⟨w,h1,a,rfl,hf,⟨vs,ha,rs⟩⟩:=R.rep i _ hu
        have hiv:σ[i]? =some (some (.ref a)):=h1
        rw[hv] at h1
        cases h1
        have hB:=R.own i _ a hu hiv
        have g:=j6 (o:=.lst vs) hf
        have back:∀j w,(S.set i (some (.t (.lst ds))))[j]? =some (some w)->fj w=true->i≠j/\S[j]? =some (some w):=fun j w h hm=>by
          rcases get_set h with⟨_,q,_⟩ | q
          . cases q;cases hm
          . exact q
        have mu:∀c,bY (S.set i (some (.t (.lst ds)))) σ c->bY S σ c:=fun c ⟨j,w,h,hm,z⟩=>⟨j,w,(back j w h hm).2,hm,z⟩
        refine⟨upd F a (.lst vs),⟨R.sub.iI ha,by rw[List.length_set];exact R.len,fun j u h=>?_,fun j k u w c h1 m1 h2 m2=>R.vF j k u w c (back j u h1 m1).2 m1 (back k w h2 m2).2 m2,fun j o c h=>R.own j o c (back j _ h rfl).2,fun j o c h=>R.bor j o c (back j _ h rfl).2,fun j c h=>?_,?_⟩,
          ⟨⟨fun b o h=>g b o (st.ext.le b o h),st.ext.keep,fun b o h n f=>?_,st.ext.there,st.ext.iI⟩,fun c q=>st.mu c (mu c q),fun j u h=>?_⟩,.lst (.inl aU) (rs.le g)⟩
        . rcases get_set h with⟨rfl,q,_⟩ | ⟨ne,q⟩
          . cases q
            exact⟨.ref a,hiv,.lst (.inl aU) (rs.le g)⟩
          . obtain⟨w,h1,h2⟩:=R.rep j u q
            refine⟨w,h1,h2.le g (fun _ _ _ z=>z) fun c hm hc=>⟨fun o q=>q,?_⟩⟩
            have hca:c≠a:=fun z=>ne (R.vF i j _ u a hu rfl q hm hiv (by rw[h1,hc,z]))
            rw[aK hca]
            cases u with
            | m o=>obtain⟨c',e',f',_⟩:=h2;rw[hc] at e';cases e';exact f'
            | b o=>obtain⟨c',e',f',_⟩:=h2;rw[hc] at e';cases e';exact f'
            | t d=>cases hm
            | v j=>cases hm
            | s j=>cases hm
            | f j=>cases hm
        . obtain⟨h1,o,h2⟩:=R.par j c h
          refine⟨h1,o,?_⟩
          have ne:i≠j:=fun z=>by subst z;rw[hu] at h2;cases h2
          rw[List.getElem?_set_ne ne]
          exact h2
        . exact⟨fun b o h=>g b o (R.ext.le b o h),R.ext.keep,fun b o h n f=>by rw[aK (fun z=>by rw[z,hB] at h;cases h)];exact R.ext.gM b o h n f,R.ext.there,R.ext.iI⟩
        . have hb:b≠a:=fun z=>n (st.mu b ⟨i,_,hu,rfl,by rw[z];exact hiv⟩)
          rw[aK hb]
          exact st.ext.gM b o h n f
        . obtain⟨u',h'⟩:=st.slots j u h
          by_cases hj:i=j
          . subst hj
            exact⟨.t (.lst ds),List.getElem?_set_self (List.getElem?_eq_some_iff.mp h').1⟩
          . exact⟨u',by rw[List.getElem?_set_ne hj];exact h'⟩
noncomputable def eF (g:GE):GD:=fun S=>(g S).bind fun p=>fz p.1 p.2
theorem JE.d {X:Cx}{e:Expr}{g:GE}(h:JE X e g):JD X e (eF g):=⟨fun B=>(h.h B).imp fun σ H Q ⟨S,F,d,S',R,hg,q⟩=>by
 unfold eF at hg
 cases e1:g S with
 | none=>rw[e1] at hg;cases hg
 | some p=>
  obtain⟨u,S1⟩:=p
  rw[e1] at hg
  refine⟨S,F,u,S1,R,e1,fun v F1 H1 R1 st1 r1=>?_⟩
  obtain⟨F2,R2,st2,r2⟩:=BQ R1 st1 r1 hg
  exact q v F2 H1 R2 st2 r2⟩
noncomputable def eT (g:GD):GE:=fun S=>(g S).map fun p=>(.t p.1,p.2)
theorem JD.e {X:Cx}{e:Expr}{g:GD}(h:JD X e g):JE X e (eT g):=⟨fun B=>(h.h B).imp fun σ H Q ⟨S,F,u,S',R,hg,q⟩=>by
 unfold eT at hg
 cases e1:g S with
 | none=>rw[e1] at hg;cases hg
 | some p=>
  obtain⟨d,S1⟩:=p
  rw[e1] at hg
  cases hg
  exact⟨S,F,d,S1,R,e1,fun v F1 H1 R1 st1 r1=>q v F1 H1 R1 st1 r1⟩⟩
structure gT (F H F' H':Hp):Prop where
 le:∀b o,F b=some o->F' b=some o
 same:∀b o,H b=some o->H' b=some o
 gM:∀b o,H b=some o->F b=none->F' b=none
theorem gT.refl (F H:Hp):gT F H F H:=⟨fun _ _ h=>h,fun _ _ h=>h,fun _ _ _ h=>h⟩
theorem gT.trans {F H F1 H1 F2 H2:Hp}(x:gT F H F1 H1) (y:gT F1 H1 F2 H2):gT F H F2 H2:=
 ⟨fun b o h=>y.le b o (x.le b o h),fun b o h=>y.same b o (x.same b o h),fun b o h f=>y.gM b o (x.same b o h) (x.gM b o h f)⟩
theorem gT.step {S:SS}{σ:St}{F H F' H':Hp}(n:gT F H F' H'):Step S S σ F H F' H':=
 ⟨⟨n.le,fun b o h _=>n.same b o h,fun b o h _ f=>n.gM b o h f,fun b o h=>⟨o,n.same b o h⟩,fun b o u h=>n.same b _ h⟩,fun _ h=>h,fun _ u h=>⟨u,h⟩⟩
theorem gT.obj {F H:Hp}{p:Addr}(h:H p=none) (o:HO):gT F H F (upd H p o):=
 ⟨fun _ _ q=>q,fun b u q=>by rw[aK (bz q h)];exact q,fun _ _ _ q=>q⟩
theorem Rd.same {H H':Hp}{a:Addr}{u:HO}(k:∀b o,H b=some o->H' b=some o):Rd H a u->Rd H' a u
 | .inl h=>.inl (k _ _ h)
 | .inr ⟨o,h⟩=>.inr ⟨o,k _ _ h⟩
theorem Sub.same {F H H':Hp}(s:Sub F H) (k:∀b o,H b=some o->H' b=some o):Sub F H':=fun a o e=>k a o (s a o e)
theorem Sub.mW {F H:Hp}{p:Addr}{o:HO}(s:Sub F H) (h:H p=none):Sub (upd F p o) (upd H p o):=fun b u e=>by
 by_cases hb:b=p
 ·subst hb;rw[aU] at e;cases e;exact aU
 ·rw[aK hb] at e;have q:=s b u e;rw[aK (bz q h)];exact q
theorem gT.root {F H:Hp}{p:Addr}(s:Sub F H) (h:H p=none) (o:HO):gT F H (upd F p o) (upd H p o):=
 ⟨j6 (s.fresh h),fun b u q=>by rw[aK (bz q h)];exact q,fun b u q f=>by rw[aK (bz q h)];exact f⟩
theorem Rel.has {K:PySem.W.Frag}{B:Base}{S:SS}{σ:St}{F H:Hp}(R:Rel K B S σ F H){a:Addr}(m:bY S σ a):∃o,H a=some o:=by
 obtain⟨i,u,h,hm,hv⟩:=m
 obtain⟨v,h1,h2⟩:=R.rep i u h
 rw[hv] at h1
 cases h1
 cases u with
 | t d=>cases hm
 | v j=>cases hm
 | s j=>cases hm
 | f j=>cases hm
 | m o=>obtain⟨b,e,_,h⟩:=h2;cases e;exact h.has
 | b o=>obtain⟨b,e,_,h⟩:=h2;cases e;exact h.has
theorem Rel.new {K:PySem.W.Frag}{B:Base}{S:SS}{σ:St}{F H F' H':Hp}(R:Rel K B S σ F H) (n:gT F H F' H') (s:Sub F' H'):Rel K B S σ F' H' where
 sub:=s
 len:=R.len
 rep:=fun i u h=>by
  obtain⟨v,h1,h2⟩:=R.rep i u h
  refine⟨v,h1,h2.le n.le (fun b o u z=>n.same b _ z) fun a hm ha=>⟨fun o q=>n.same a o q,?_⟩⟩
  obtain⟨o,ho⟩:=R.has ⟨i,u,h,hm,by rw[h1,ha]⟩
  refine n.gM a o ho ?_
  cases u with
  | t d=>cases hm
  | v j=>cases hm
  | s j=>cases hm
  | f j=>cases hm
  | m o=>obtain⟨b,e,f,_⟩:=h2;rw[ha] at e;cases e;exact f
  | b o=>obtain⟨b,e,f,_⟩:=h2;rw[ha] at e;cases e;exact f
 vF:=R.vF
 own:=R.own
 bor:=R.bor
 par:=R.par
 ext:=⟨fun b o h=>n.le b o (R.ext.le b o h),fun b o h m=>n.same b o (R.ext.keep b o h m),fun b o h m f=>n.gM b o (R.ext.keep b o h m) (R.ext.gM b o h m f),fun b o h=>let⟨o',h'⟩:=R.ext.there b o h;⟨o',n.same b o' h'⟩,fun b o u h=>n.same b _ (R.ext.iI b o u h)⟩
noncomputable def BR (H0 F H:Hp) (v:V):U->Prop
 | .t d=>Rep F v d
 | .m o=>∃a,v= .ref a/\H0 a=none/\F a=none/\At F H a o
 | _=>False
theorem none_of {H H':Hp}{a:Addr}(t:∀b o,H b=some o->∃o',H' b=some o') (h:H' a=none):H a=none:=by
 cases e:H a with
 | none=>rfl
 | some o=>obtain⟨o',h'⟩:=t a o e;rw[h] at h';cases h'
theorem BR.Hy {K:PySem.W.Frag}{B:Base}{S S0:SS}{σ:St}{H0 F0 F1 H1 F H:Hp}{v:V}{u:U}(R:Rel K B S σ F1 H1) (st:Step S0 S σ F0 H0 F1 H1) (r:BR H1 F H v u):iU K B S σ H0 F H v u:=by
 cases u with
 | t d=>exact r
 | b o=>cases r
 | v i=>cases r
 | s i=>cases r
 | f i=>cases r
 | m o=>
  obtain⟨a,e,h0,f,h⟩:=r
  refine⟨a,e,none_of st.ext.there h0,f,h,fun m=>?_,none_of R.ext.there h0⟩
  obtain⟨o,ho⟩:=R.has m
  rw[h0] at ho
  cases ho
noncomputable def rP (f:List D->Option U):List V->Hp->VK->Prop:=fun xs H Q=>∃F ds u,Sub F H/\bD F xs ds/\f ds=some u/\∀v F' H',gT F H F' H'->Sub F' H'->BR H F' H' v u->Q v H'
noncomputable def sE:D->Bool
 | .tup _=>false
 | .lst _=>false
 | _=>true
noncomputable def toV:D->V
 | .bl b=>.bl b
 | .int i=>.int i
 | .str z=>.str z
 | _=>.dg
theorem vG {F:Hp}:∀{d:D},sE d=true->Rep F (toV d) d
 | .dg,_=>.dg
 | .bl b,_=>.bl b
 | .int i,_=>.int i
 | .str z,_=>.str z
 | .tup _,h=>by cases h
 | .lst _,h=>by cases h
noncomputable def ak (i:Nat):GE:=fun S=>match S[i]? with
 | some (some (.t d))=>some (.t d,S)
 | some (some (.s d))=>some (.s d,S) | some (some (.f d))=>some (.f d,S)
 | some (some _)=>some (.v i,S)
 | _=>none
noncomputable def eC (d:D):GD:=fun S=>some (d,S)
noncomputable def aC:GA:=fun S=>some ([],S)
noncomputable def aa (g:GD) (ga:GA):GA:=fun S=>(g S).bind fun p=>(ga p.2).map fun q=>(p.1 :: q.1,q.2)
noncomputable def eP (f:List D->Option U) (ga:GA):GE:=fun S=>(ga S).bind fun p=>(f p.1).map fun u=>(u,p.2)
section
variable {X:Cx}{a b c e:Expr}{es:List Expr}{pos p p2:Pos}{x:Str}{g ga gb gc:GD}{gA:GA}{f f':List D->Option U}
theorem ah (i:Nat) (hN:X.N[i]? =some x:=by rfl) (hv:Ba X.env.scope x:=by first | exact Or.inl rfl | exact Or.inr (Or.inl rfl) | exact Or.inr (Or.inr rfl)) (hd:(x == ("__debug__":Str))=false:=by decide)
  (hcd:(x == ("__classdict__":Str))=false:=by decide):JE X (.Name x pos) (ak i):=⟨fun B=>(iJ hN hv hd hcd).imp fun σ H Q ⟨S,F,u,S',R,hg,q⟩=>by
 unfold ak at hg
 cases hs:S[i]? with
 | none=>rw[hs] at hg;cases hg
 | some o=>
  cases o with
  | none=>rw[hs] at hg;cases hg
  | some w=>
   rw[hs] at hg
   obtain⟨v,h1,h2⟩:=R.rep i w hs
   refine⟨v,h1,?_⟩
   cases w with
   | t d=>cases hg;exact q v F H R (Step.refl ..) h2
   | m o=>cases hg;exact q v F H R (Step.refl ..) ⟨h1,_,hs⟩
   | b o=>cases hg;exact q v F H R (Step.refl ..) ⟨h1,_,hs⟩
   | s j=>cases hg;exact q v F H R (Step.refl ..) h2
   | f j=>cases hg;exact q v F H R (Step.refl ..) h2
   | v j=>cases hg;exact q v F H R (Step.refl ..) ⟨h1,_,hs⟩⟩
theorem BS {d:D}(hf:sE d=true) (h:PE X e (tC (toV d))):JD X e (eC d):=⟨fun B=>h.imp fun σ H Q ⟨S,F,u,S',R,hg,q⟩=>by
 cases hg
 exact q _ F H R (Step.refl ..) (vG hf)⟩
theorem aB {i j}:JD X (.Constant (.int i) j pos) (eC (.int i)):=BS rfl Gz
theorem mH {i j}:JD X (.Constant (.bool i) j pos) (eC (.bl i)):=BS rfl J0
theorem BU {j}:JD X (.Constant .none j pos) (eC .dg):=BS rfl GC
theorem bV {i j}:JD X (.Constant (.str i) j pos) (eC (.str i)):=BS rfl GF
theorem aL:JA X [] aC:=⟨fun B=>oA.imp fun σ H Q ⟨S,F,u,S',R,hg,q⟩=>by
 cases hg
 exact q [] F H R (Step.refl ..) .nil⟩
theorem aj {α β:Type}{o:Option α}{f:α->Option β}{y:β}(h:o.bind f=some y):∃z,o=some z/\f z=some y:=by
 cases o with
 | none=>cases h
 | some z=>exact⟨z,rfl,h⟩
theorem aE {α β:Type}{o:Option α}{f:α->β}{y:β}(h:o.map f=some y):∃z,o=some z/\f z=y:=by
 cases o with
 | none=>cases h
 | some z=>exact⟨z,rfl,Option.some.inj h⟩
theorem aq (h:JD X e g) (hr:JA X es gA) (hs:starEach (e :: es) X.env=(false,eval e X.env) :: starEach es X.env:=by rfl):JA X (e :: es) (aa g gA):=
 ⟨fun B=>(lI (h.h B) (hr.h B) hs).imp fun σ H Q ⟨S,F,u,S',R,hg,q⟩=>by
 obtain⟨⟨d,S1⟩,h1,hg⟩:=aj hg
 obtain⟨⟨ds,S2⟩,h2,hg⟩:=aE hg
 cases hg
 exact⟨S,F,d,S1,R,h1,fun v F1 H1 R1 st1 r1=>⟨S1,F1,ds,S2,R1,h2,fun vs F2 H2 R2 st2 r2=>q _ F2 H2 R2 (st1.trans st2) (.cons (r1.le st2.ext.le) r2)⟩⟩⟩
theorem j7 {K:PySem.W.Frag}{B:Base}{σ:St}{H:Hp}{Q:VK}{r:List V->Hp->VK->Prop}(hr:∀vs H1 Q1,rP f vs H1 Q1->r vs H1 Q1) (h:tE K B (eP f gA) σ H Q):SO K B gA σ H fun vs H1=>r vs H1 Q:=by
 obtain⟨S,F,u,S',R,hg,q⟩:=h
 obtain⟨⟨ds,S1⟩,h1,hg⟩:=aj hg
 obtain⟨u',h2,hg⟩:=aE hg
 cases hg
 exact⟨S,F,ds,S1,R,h1,fun vs F1 H1 R1 st1 r1=>hr _ _ _ ⟨F1,ds,_,R1.sub,r1,h2,fun v F2 H2 n s2 r2=>q v F2 H2 (R1.new n s2) (st1.trans n.step) (r2.Hy R1 st1)⟩⟩
theorem jH {id:String}(hc:jm X (.builtin id) (rP f)) (hg:Gl X x) (hm:X.mg x=none) (hv:bootBuiltins x=some (.builtin id)) (ha:JA X (e :: es) gA) (hn:x≠"__name__":=by decide) (hdb:(x == ("__debug__":Str))=false:=by decide)
  (he:starEach (e :: es) X.env=(false,eval e X.env) :: starEach es X.env:=by rfl) (hpl:(backTo pos (starEach es X.env)).any (·.1)=false:=by rfl):JE X (.Call (.Name x p) (e :: es) [] pos) (eP f gA):=
 ⟨fun B=>(kK hc hg hm hv (ha.h B) hn hdb he hpl).imp fun σ H Q h=>j7 (fun _ _ _ z=>z) h⟩
theorem eO {T:String}(hc:jm X (.type T) (rP f)) (hg:Gl X x) (hm:X.mg x=none) (hv:bootBuiltins x=some (.type T)) (ha:JA X (e :: es) gA) (hn:x≠"__name__":=by decide) (hdb:(x == ("__debug__":Str))=false:=by decide)
  (he:starEach (e :: es) X.env=(false,eval e X.env) :: starEach es X.env:=by rfl) (hpl:(backTo pos (starEach es X.env)).any (·.1)=false:=by rfl):JE X (.Call (.Name x p) (e :: es) [] pos) (eP f gA):=
 ⟨fun B=>(Ad hc hg hm hv (ha.h B) hn hdb he hpl).imp fun σ H Q h=>j7 (fun _ _ _ z=>z) h⟩
noncomputable abbrev wY (X:Cx) (o:Value->Value->Sem Value) (f:List D->Option U):Prop:=tR X o (fun x y H Q=>rP f [x,y] H Q)
theorem nC {K:PySem.W.Frag}{B:Base}{σ:St}{H:Hp}{Q:VK}(h:tE K B (eP f (aa ga (aa gb aC))) σ H Q):Jq (fun x y H Q=>rP f [x,y] H Q) (tD K B ga) (tD K B gb) σ H Q:=by
 obtain⟨S,F,u,S',R,hg,q⟩:=h
 obtain⟨⟨ds,S1⟩,h1,hg⟩:=aj hg
 obtain⟨u',h2,hg⟩:=aE hg
 cases hg
 obtain⟨⟨d1,T1⟩,k1,h1⟩:=aj h1
 obtain⟨⟨XI,T2⟩,k2,h1⟩:=aE h1
 cases h1
 obtain⟨⟨d2,T3⟩,k3,k2⟩:=aj k2
 obtain⟨⟨XJ,T4⟩,k4,k2⟩:=aE k2
 cases k2
 cases k4
 exact⟨S,F,d1,T1,R,k1,fun v1 F1 H1 R1 st1 r1=>⟨T1,F1,d2,_,R1,k3,fun v2 F2 H2 R2 st2 r2=>⟨F2,_,_,R2.sub,.cons (r1.le st2.ext.le) (.cons r2 .nil),h2,fun v F3 H3 n s3 r3=>q v F3 H3 (R2.new n s3) ((st1.trans st2).trans n.step) (r3.Hy R2 (st1.trans st2))⟩⟩⟩
theorem dh {op:Operator}(ho:wY X (binaryOp op) f) (ha:JD X a ga) (hb:JD X b gb):JE X (.BinOp a op b pos) (eP f (aa ga (aa gb aC))):=
 ⟨fun B=>(Km ho (ha.h B) (hb.h B)).imp fun σ H Q h=>nC h⟩
theorem uc {op:CmpOp}(ho:wY X (compareOp op) f) (ha:JD X a ga) (hb:JD X b gb) (hm:behindInMarks op b=false:=by first | exact Bm _ | rfl):JE X (.Compare a [op] [b] pos) (eP f (aa ga (aa gb aC))):=
 ⟨fun B=>(DN ho (ha.h B) (hb.h B) hm).imp fun σ H Q h=>nC h⟩
theorem vH (hr:Bx X (fun x y H Q=>rP f [x,y] H Q)) (ha:JD X a ga) (hb:JD X b gb) (hs:pT b):JE X (.Subscript a b pos) (eP f (aa ga (aa gb aC))):=
 ⟨fun B=>(yS hr (ha.h B) (hb.h B) hs).imp fun σ H Q h=>nC h⟩
noncomputable def dF:List D->Option U:=fun ds=>if ds.length<=100000 then some (.t (.tup ds)) else none
noncomputable def iK:List D->Option U:=fun ds=>if ds.length<=100000 then some (.m (.lst ds)) else none
theorem jo {n:Nat}(h:n<=100000):n<=sizeLine:=Nat.le_trans h (by decide)
end
section
variable {X:Cx}{a b c e:Expr}{es:List Expr}{pos p p2:Pos}{x:Str}{g ga gb gc:GD}{gA:GA}{f f':List D->Option U}
theorem bW {x1}(h:JA X es gA):JE X (.Tuple es x1 pos) (eP dF gA):=
 ⟨fun B=>(G7 (h.h B)).imp fun σ H Q z=>j7 (r:=fun xs H1 Q=>xs.length<=sizeLine/\∀p,H1 p=none->Q (.ref p) (upd H1 p (.tup xs))) (fun vs H1 Q1 ⟨F,ds,u,sb,rs,hf,q⟩=>by
 unfold dF at hf
 split at hf
 ·rename_i hl
  cases hf
  refine⟨by rw[rs.length];exact jo hl,fun p hp=>?_⟩
  exact q _ _ _ (gT.root sb hp _) (sb.mW hp) (.tup aU (rs.le (j6 (sb.fresh hp))))
 ·cases hf) z⟩
theorem gW (h:JA X es gA):JE X (.List es pos) (eP iK gA):=
 ⟨fun B=>(Bo (h.h B)).imp fun σ H Q z=>j7 (r:=fun xs H1 Q=>xs.length<=sizeLine/\∀p,H1 p=none->Q (.ref p) (upd H1 p (.lst xs))) (fun vs H1 Q1 ⟨F,ds,u,sb,rs,hf,q⟩=>by
 unfold iK at hf
 split at hf
 ·rename_i hl
  cases hf
  refine⟨by rw[rs.length];exact jo hl,fun p hp=>?_⟩
  exact q _ F _ (gT.obj hp _) (sb.same (gT.obj (F:=F) hp _).same) ⟨p,rfl,hp,sb.fresh hp,vs,aU,rs⟩
 ·cases hf) z⟩
noncomputable def qB (g:GD):GT:=fun S=>(g S).bind fun p=>match p.1 with
 | .bl k=>some (k,p.2)
 | _=>none
noncomputable def Al (g:GT):GT:=fun S=>(g S).map fun p=>(!p.1,p.2)
noncomputable def ue (g h:GT):GT:=fun S=>(g S).bind fun p=>if p.1 then h p.2 else some (false,p.2)
noncomputable def OE (g h:GT):GT:=fun S=>(g S).bind fun p=>if p.1 then some (true,p.2) else h p.2
noncomputable def eQ (g:GT):GD:=fun S=>(g S).map fun p=>(.bl p.1,p.2)
theorem lJ {S:SS}{k:Bool}{S':SS}(h:qB g S=some (k,S')):g S=some (.bl k,S'):=by
 obtain⟨⟨d,S1⟩,h1,h⟩:=aj h
 cases d <;> cases h
 exact h1
theorem oE {F:Hp}{v:V}{k:Bool}(r:Rep F v (.bl k)):v= .bl k:=by cases r;rfl
theorem iP {F:Hp}{v:V}{i:Int}(r:Rep F v (.int i)):v= .int i:=by cases r;rfl
theorem yX {F:Hp}{v:V}{i:Str}(r:Rep F v (.str i)):v= .str i:=by cases r;rfl
theorem KZ {K:PySem.W.Frag}{B:Base}{gE:GE}{σ:St}{H:Hp}{Q:VK}(h:tD K B (eF gE) σ H Q):tE K B gE σ H Q:=by
 obtain⟨S,F,d,S',R,hg,q⟩:=h
 obtain⟨⟨u,S1⟩,h1,hg⟩:=aj hg
 refine⟨S,F,u,S1,R,h1,fun v F1 H1 R1 st1 r1=>?_⟩
 obtain⟨F2,R2,st2,r2⟩:=BQ R1 st1 r1 hg
 exact q v F2 H1 R2 st2 r2
theorem dP {op:CmpOp}(ho:wY X (compareOp op) f) (ha:JD X a ga) (hb:JD X b gb) (hm:behindInMarks op b=false:=by first | exact Bm _ | rfl):JT X (.Compare a [op] [b] pos) (qB (eF (eP f (aa ga (aa gb aC))))):=
 ⟨fun B=>(DO ho (ha.h B) (hb.h B) hm).imp fun σ H Q ⟨S,F,k,S',R,hg,q⟩=>nC (KZ ⟨S,F,.bl k,S',R,lJ hg,fun v F' H' R' st r=>⟨k,oE r,q F' H' R' st⟩⟩)⟩
theorem xB {q1:GT}(h:JT X a q1):JW X (.BoolOp .And [a] pos) q1:=⟨fun B=>pw_and1 (h.h B)⟩
theorem Hz {r:List Expr}{q1 q2:GT}(h:JT X a q1) (hr:JW X (.BoolOp .And (b :: r) pos) q2):JW X (.BoolOp .And (a :: b :: r) pos) (ue q1 q2):=
 ⟨fun B=>(pw_and (h.h B) (hr.h B)).imp fun σ H Q ⟨S,F,k,S',R,hg,q⟩=>by
 obtain⟨⟨d,S1⟩,h1,hg⟩:=aj hg
 refine⟨S,F,d,S1,R,h1,fun F1 H1 R1 st1=>?_⟩
 cases d with
 | true=>exact xA ⟨S1,F1,k,S',R1,hg,fun F2 H2 R2 st2=>q F2 H2 R2 (st1.trans st2)⟩
 | false=>cases hg;exact xy (q F1 H1 R1 st1)⟩
theorem JW.t {q1:GT}(h:JW X e q1):JT X e q1:=⟨fun B=>(h.h B).pt⟩
theorem uf {op}(h:JD X a g):JD X (.BoolOp op [a] pos) (eQ (qB g)):=⟨fun B=>(GH (h.h B)).imp fun σ H Q ⟨S,F,k,S',R,hg,q⟩=>by
 obtain⟨⟨d,S1⟩,h1,hg⟩:=aE hg
 cases hg
 exact⟨S,F,.bl d,_,R,lJ h1,q⟩⟩
theorem xC {r:List Expr}{q2:GT}(h:JD X a g) (hr:JD X (.BoolOp .And (b :: r) pos) (eQ q2)):JD X (.BoolOp .And (a :: b :: r) pos) (eQ (ue (qB g) q2)):=
 ⟨fun B=>(GJ (h.h B) (hr.h B)).imp fun σ H Q ⟨S,F,k,S',R,hg,q⟩=>by
 obtain⟨⟨d,S1⟩,h1,hg⟩:=aE hg
 cases hg
 obtain⟨⟨d1,S2⟩,h1,h2⟩:=aj h1
 refine⟨S,F,.bl d1,S2,R,lJ h1,fun v F1 H1 R1 st1 r1=>⟨d1,oE r1,?_⟩⟩
 cases d1 with
 | true=>
  have h2:q2 S2=some (d,S1):=h2
  exact xA ⟨S2,F1,.bl d,S1,R1,by show(q2 S2).map _=_;rw[h2];rfl,fun v F2 H2 R2 st2 r2=>q v F2 H2 R2 (st1.trans st2) r2⟩
 | false=>cases h2;exact xy (q _ F1 H1 R1 st1 (.bl false))⟩
theorem K0 {r:List Expr}{q2:GT}(h:JD X a g) (hr:JD X (.BoolOp .Or (b :: r) pos) (eQ q2)):JD X (.BoolOp .Or (a :: b :: r) pos) (eQ (OE (qB g) q2)):=
 ⟨fun B=>(J6 (h.h B) (hr.h B)).imp fun σ H Q ⟨S,F,k,S',R,hg,q⟩=>by
 obtain⟨⟨d,S1⟩,h1,hg⟩:=aE hg
 cases hg
 obtain⟨⟨d1,S2⟩,h1,h2⟩:=aj h1
 refine⟨S,F,.bl d1,S2,R,lJ h1,fun v F1 H1 R1 st1 r1=>⟨d1,oE r1,?_⟩⟩
 cases d1 with
 | false=>
  have h2:q2 S2=some (d,S1):=h2
  exact xy ⟨S2,F1,.bl d,S1,R1,by show(q2 S2).map _=_;rw[h2];rfl,fun v F2 H2 R2 st2 r2=>q v F2 H2 R2 (st1.trans st2) r2⟩
 | true=>cases h2;exact xA (q _ F1 H1 R1 st1 (.bl true))⟩
theorem BV (h:JD X a g):JD X (.UnaryOp .Not a pos) (eQ (Al (qB g))):=⟨fun B=>(GK (h.h B)).imp fun σ H Q ⟨S,F,k,S',R,hg,q⟩=>by
 obtain⟨⟨d,S1⟩,h1,hg⟩:=aE hg
 cases hg
 obtain⟨⟨d1,S2⟩,h3,h2⟩:=aE h1
 cases h2
 exact⟨S,F,.bl d1,_,R,lJ h3,fun v F1 H1 R1 st1 r1=>⟨d1,oE r1,q _ F1 H1 R1 st1 (.bl _)⟩⟩⟩
theorem iU.weak {K:PySem.W.Frag}{B:Base}{S:SS}{σ:St}{H0 H1 F H:Hp}{v:V}(t:∀b o,H0 b=some o->∃o',H1 b=some o'):∀{u:U},iU K B S σ H1 F H v u->iU K B S σ H0 F H v u
 | .t _,h=>h
 | .s _,h=>h
 | .f _,h=>h
 | .m _,⟨a,e,h0,h⟩=>⟨a,e,none_of t h0,h⟩
 | .v _,h=>h
 | .b _,h=>h
end
theorem dj {α:Type}{c:Prop}{i:Decidable c}{x w:α}(h:(@ite _ c i (some x) none)=some w):c/\x=w:=by
 by_cases hc:c
 ·rw[if_pos hc] at h;exact⟨hc,Option.some.inj h⟩
 ·rw[if_neg hc] at h;cases h
theorem jI {α:Type}{c:Prop}{i:Decidable c}{x:Option α}{w:α}(h:(@ite _ c i x none)=some w):c/\x=some w:=by
 by_cases hc:c
 ·rw[if_pos hc] at h;exact⟨hc,h⟩
 ·rw[if_neg hc] at h;cases h
theorem FZ {F:Hp}{x:V}{ds:List D}(r:bD F [x] ds):∃d,ds=[d]/\Rep F x d:=by
 cases r with
 | cons r rs=>cases rs;exact⟨_,rfl,r⟩
theorem qx {F:Hp}{x y:V}{ds:List D}(r:bD F [x,y] ds):∃d e,ds=[d,e]/\Rep F x d/\Rep F y e:=by
 cases r with
 | cons r rs=>obtain⟨e,rfl,r2⟩:=FZ rs;exact⟨_,e,rfl,r,r2⟩
noncomputable def Dz (C:Int->Int->Bool) (h:Int->Int->D):List D->Option U
 | [.int i,.int j]=>if C i j then some (.t (h i j)) else none
 | _=>none
section
variable {X:Cx}
theorem qy {o:Value->Value->Sem Value}{C:Int->Int->Bool}{h:Int->Int->D}{r:R2}(hr:tR X o r) (k:∀i j H Q,C i j=true->Q (toV (h i j)) H->r (.int i) (.int j) H Q) (hf:∀i j,sE (h i j)=true):wY X o (Dz C h):=by
 intro pins s σ H x y v u Q I rx ry ⟨F,ds,w,sb,rs,hw,q⟩
 obtain⟨d,e,rfl,r1,r2⟩:=qx rs
 cases r1 <;> cases r2 <;> try (simp[Dz] at hw;done)
 rename_i i j
 obtain⟨hc,rfl⟩:=dj hw
 exact hr pins s σ H _ _ v u Q I rx ry (k i j H Q hc (q _ F H (gT.refl ..) sb (vG (hf i j))))
noncomputable abbrev D5:=Dz (fun _ _=>true) fun i j=>.bl (decide (i < j))
noncomputable abbrev MJ:=Dz (fun _ _=>true) fun i j=>.bl (decide (j < i))
noncomputable abbrev Jt:=Dz (fun _ _=>true) fun i j=>.bl (decide (j<=i))
noncomputable abbrev BW:=Dz (fun _ j=>decide (0 < j) && decide (j < 1073741824)) fun i j=>.int (i / j)
noncomputable abbrev vI:=Dz (fun _ j=>decide (0 < j)) fun i j=>.int (i % j)
noncomputable abbrev K1:=Dz (fun i j=>decide (0<=j) && (decide (j<=1000) && decide (i.natAbs < 2 ^ 64))) fun i j=>.int (i ^ j.toNat)
theorem BX:wY X (compareOp .Lt) D5:=qy Ko (fun i j H Q _ q=>⟨i,j,rfl,rfl,q⟩) fun _ _=>rfl
theorem BY:wY X (compareOp .Gt) MJ:=qy Kp (fun i j H Q _ q=>⟨i,j,rfl,rfl,q⟩) fun _ _=>rfl
theorem xD:wY X (compareOp .GtE) Jt:=qy Kq (fun i j H Q _ q=>⟨i,j,rfl,rfl,q⟩) fun _ _=>rfl
theorem pU:wY X (binaryOp .FloorDiv) BW:=qy DL (fun i j H Q c q=>⟨i,j,rfl,rfl,by simpa[Kn] using c,q⟩) fun _ _=>rfl
theorem j8:wY X (binaryOp .Mod) vI:=qy G4 (fun i j H Q c q=>⟨i,j,rfl,rfl,by simpa using c,q⟩) fun _ _=>rfl
theorem D6:wY X (binaryOp .Pow) K1:=qy G5 (fun i j H Q c q=>⟨i,j,rfl,rfl,by
 simp only[Bool.and_eq_true,decide_eq_true_eq] at c
 exact⟨c.1,Int.le_trans c.2.1 (by decide),c.2.2⟩,q⟩) fun _ _=>rfl
theorem Sub.iV {F H:Hp}{v:V}{ds:List D}(s:Sub F H) (r:Rep F v (.tup ds)):∃a vs,v= .ref a/\F a=some (.tup vs)/\Rd H a (.tup vs)/\bD F vs ds:=by
 cases r with
 | tup e rs=>exact⟨_,_,rfl,e,Rd.of (s _ _ e),rs⟩
theorem Sub.jq {F H:Hp}{v:V}{ds:List D}(s:Sub F H) (r:Rep F v (.lst ds)):∃a vs,v= .ref a/\Rd F a (.lst vs)/\Rd H a (.lst vs)/\bD F vs ds:=by
 cases r with
 | lst e rs=>exact⟨_,_,rfl,e,e.imp (s _ _) fun⟨o,h⟩=>⟨o,s _ _ h⟩,rs⟩
theorem _root_.L2.Rd.Ah {pins:List (Addr×Obj)}{σ:St}{H:Hp}{s:Shared}(I:Inv X pins σ H s){l:Addr}{xs:List V}(h:Rd H l (.lst xs)):
  xs.length<=sizeLine/\∃its n,Vals xs its/\xs.length=its.length/\s.heap.get? l=some {cls:=.type "list",data:=.seq its.toArray n}:=by
 obtain⟨z,its,n,r,e⟩:=(h.ok I.hok:dX X.prog X.w H s.heap l (.lst xs))
 exact⟨z,its,n,r,r.length,e⟩
noncomputable def ji:List D->Option U
 | [.int i,.int j]=>some (.t (.int (i+j)))
 | [.str i,.str j]=>if i.length+j.length<=100000 then some (.t (.str (i++j))) else none
 | [.tup i,.tup j]=>if i.length+j.length<=100000 then some (.t (.tup (i++j))) else none
 | [.lst i,.lst j]=>if i.length+j.length<=100000 then some (.m (.lst (i++j))) else none
 | _=>none
theorem gP : wY X (binaryOp .Add) ji := by
  intro pins s σ H x y v u Q I rx ry ⟨F,ds,w,sb,rs,hw,q⟩
  obtain⟨d,e,rfl,r1,r2⟩:=qx rs
  cases d <;> cases e <;> try (simp[ji] at hw;done)
  . rename_i i j
    cases hw
    cases r1
    cases r2
    exact G2 pins s σ H _ _ v u Q I rx ry ⟨i,j,rfl,rfl,q _ F H (gT.refl ..) sb (.int _)⟩
  . rename_i i j
    obtain⟨hl,rfl⟩:=dj hw
    cases r1
    cases r2
    exact xq pins s σ H _ _ v u Q I rx ry ⟨i,j,rfl,rfl,jo hl,q _ F H (gT.refl ..) sb (.str _)⟩
  . rename_i i j
    obtain⟨hl,rfl⟩:=dj hw
    have Uz:=r2
    have UA:=r1
    obtain⟨a,xs,rfl,fa,ha,mq⟩:=sb.iV r1
    obtain⟨b,ys,rfl,fb,hb,BZ⟩:=sb.iV r2
    by_cases hx:xs=[]
    . subst hx
      cases mq
      cases rx
      cases ry
      obtain⟨its,r1',p1,_⟩:=I.tuple (.inl ha)
      obtain⟨its2,r2',p2,_⟩:=I.tuple (.inl hb)
      cases r1'
      obtain⟨⟨cls,dd,data,sl⟩,ho,hc,n,hd⟩:=id p1
      obtain⟨⟨Oa,dd2,data2,sl2⟩,ho2,hc2,n2,hd2⟩:=id p2
      simp only at hc hd hc2 hd2
      subst hc hd hc2 hd2
      exact concat_meets ⟨_,ho,rfl⟩ ⟨_,ho2,rfl⟩ noFill_tuple_add seq_tuple_add PySem.F.slot_tuple_add PySem.F.entry_tuple_add (PySem.F.args_tuple_add_2 _ _)
        (tuple_addW0 a b _ _ n n2 dd dd2 sl sl2 (by simp)) ⟨ho,ho2,⟨.ref b,H,I,rfl,q _ F H (gT.refl ..) sb Uz⟩⟩
    . refine DW pins s σ H (.ref a) (.ref b) v u Q I rx ry ⟨a,b,xs,ys,rfl,rfl,.inl ha,.inl hb,hx,?_,fun hy=>?_,fun hy p hp=>?_⟩
      . rw[mq.length,BZ.length];exact jo hl
      . subst hy
        cases BZ
        exact q _ F H (gT.refl ..) sb (by show Rep F (.ref a) (.tup (i++[]));rw[List.append_nil];exact UA)
      . exact q _ _ _ (gT.root sb hp _) (sb.mW hp) (.tup aU ((mq.append BZ).le (j6 (sb.fresh hp))))
  . rename_i i j
    obtain⟨hl,rfl⟩:=dj hw
    obtain⟨a,xs,rfl,fa,ha,mq⟩:=sb.jq r1
    obtain⟨b,ys,rfl,fb,hb,BZ⟩:=sb.jq r2
    cases rx
    cases ry
    obtain⟨z,its,n,r,hl1,e⟩:=Rd.Ah I ha
    obtain⟨z2,its2,n2,r2,hl2,e2⟩:=Rd.Ah I hb
    have hlen:xs.length+ys.length<=sizeLine:=by rw[mq.length,BZ.length];exact jo hl
    refine PySem.P.add_list e e2 ?_ (by rw[List.size_toArray,List.size_toArray];omega)
    have ea:its.toArray++its2.toArray=(its++its2).toArray:=by simp
    rw[ea]
    have hp:H s.heap.objs.size=none:=I.fresh
    refine⟨.ref _,_,I.Od (t':=s.toks) (r.append r2) (by rw[List.length_append];omega),rfl,?_⟩
    exact q _ F _ (gT.obj hp _) (sb.same (gT.obj (F:=F) hp _).same) ⟨_,rfl,hp,sb.fresh hp,_,aU,mq.append BZ⟩
noncomputable def xE:List D->Option U:=Dz (fun i j=>(decide (-(2 ^ 64) < i) && decide (i < 2 ^ 64)) || (decide (-(2 ^ 64) < j) && decide (j < 2 ^ 64))) fun i j=>.int (i * j)
theorem nD:wY X (binaryOp .Mult) xE:=qy G3 (fun i j H Q c q=>⟨i,j,rfl,rfl,by
 simp only[Bool.or_eq_true,Bool.and_eq_true,decide_eq_true_eq] at c
 exact c,q⟩) fun _ _=>rfl
noncomputable def xF:List D->Option U
 | [.tup ds,.int i]=>(dW ds i).map .t
 | [.lst ds,.int i]=>(dW ds i).map .t
 | [.str z,.int i]=>if z.length<=100000 then(dW z.cps.toList i).map fun c=>.t (.str ⟨#[c]⟩) else none
 | _=>none
theorem B0:Bx X (fun x y H Q=>rP xF [x,y] H Q):=by
 intro value slice pins s σ H x y v u Q I rx ry ⟨F,ds,w,sb,rs,hw,q⟩ hsb
 obtain⟨d,e,rfl,r1,r2⟩:=qx rs
 cases d <;> cases e <;> try (simp[xF] at hw;done)
 ·rename_i z i
  obtain⟨hl,hw⟩:=jI hw
  obtain⟨c,hc,hw⟩:=aE hw
  subst hw
  cases r1
  cases r2
  exact BA value slice pins s σ H _ _ v u Q I rx ry ⟨z,i,c,rfl,rfl,jo hl,hc,q _ F H (gT.refl ..) sb (.str _)⟩ hsb
 ·rename_i ds i
  obtain⟨c,hc,hw⟩:=aE (show(dW ds i).map U.t=some w from hw)
  subst hw
  obtain⟨a,xs,rfl,fa,ha,mq⟩:=sb.iV r1
  cases r2
  obtain⟨w',h1,h2⟩:=mq.dW hc
  exact By value slice pins s σ H _ _ v u Q I rx ry ⟨a,xs,i,w',rfl,rfl,.inl ha,h1,q _ F H (gT.refl ..) sb h2⟩ hsb
 ·rename_i ds i
  obtain⟨c,hc,hw⟩:=aE (show(dW ds i).map U.t=some w from hw)
  subst hw
  obtain⟨a,xs,rfl,fa,ha,mq⟩:=sb.jq r1
  cases r2
  obtain⟨w',h1,h2⟩:=mq.dW hc
  exact tW value slice pins s σ H _ _ v u Q I rx ry ⟨a,xs,i,w',rfl,rfl,.inl ha,h1,q _ F H (gT.refl ..) sb h2⟩ hsb
noncomputable def rL:List D->Option U
 | [.tup ds]=>some (.t (.int ds.length))
 | [.lst ds]=>some (.t (.int ds.length))
 | [.str z]=>if z.length<=100000 then some (.t (.int z.length)) else none
 | _=>none
theorem oF:jm X (.builtin "len") (rP rL):=by
 intro pins s σ H xs us Q I r ⟨F,ds,w,sb,rs,hw,q⟩
 match xs,ds,rs with
 | [],[],_=>exact absurd hw (by simp[rL])
 | [x],_,rs=>
  obtain⟨d,rfl,r1⟩:=FZ rs
  cases d <;> try (simp[rL] at hw;done)
  ·rename_i z
   obtain⟨hl,rfl⟩:=dj hw
   cases r1
   exact nA pins s σ H _ us Q I r ⟨z,rfl,jo hl,q _ F H (gT.refl ..) sb (.int _)⟩
  ·cases hw
   obtain⟨a,xs,rfl,fa,ha,mq⟩:=sb.iV r1
   exact j5 pins s σ H _ us Q I r ⟨a,xs,rfl,.inr (.inl ha),by rw[mq.length];exact q _ F H (gT.refl ..) sb (.int _)⟩
  ·cases hw
   obtain⟨a,xs,rfl,fa,ha,mq⟩:=sb.jq r1
   exact j5 pins s σ H _ us Q I r ⟨a,xs,rfl,.inl (.inl ha),by rw[mq.length];exact q _ F H (gT.refl ..) sb (.int _)⟩
 | _ :: _ :: _,[],rs=>cases rs
 | _ :: _ :: _,[_],rs=>cases rs with | cons _ rs=>cases rs
 | _ :: _ :: _,_ :: _ :: _,_=>exact absurd hw (by simp[rL])
end
noncomputable def mw (i:Nat) (u:U) (S:SS):Option SS:=match S[i]? with
 | some (some (.b _))=>none
 | some _=>some (S.set i (some u))
 | none=>none
theorem Am {i:Nat}{u:U}{S S':SS}(h:mw i u S=some S'):S'=S.set i (some u)/\i < S.length/\∀o,S[i]?≠some (some (.b o)):=by
 unfold mw at h
 cases e:S[i]? with
 | none=>rw[e] at h;cases h
 | some w=>
  have hl:i < S.length:=(List.getElem?_eq_some_iff.mp e).1
  rw[e] at h
  cases w with
  | none=>cases h;exact⟨rfl,hl,fun o z=>by cases z⟩
  | some w=>
   cases w with
   | b o=>cases h
   | t d=>cases h;exact⟨rfl,hl,fun o z=>by cases z⟩
   | m d=>cases h;exact⟨rfl,hl,fun o z=>by cases z⟩
   | v d=>cases h;exact⟨rfl,hl,fun o z=>by cases z⟩
   | s d=>cases h;exact⟨rfl,hl,fun o z=>by cases z⟩
   | f d=>cases h;exact⟨rfl,hl,fun o z=>by cases z⟩
noncomputable def Ga (B:Base) (S:SS) (σ:St) (F H:Hp) (v:V):U->Prop
 | .t d=>Rep F v d
 | .m o=>∃a,v= .ref a/\F a=none/\At F H a o/\¬bY S σ a/\B.H a=none
 | _=>False
theorem Rel.put {K : PySem.W.Frag} {B : Base} {S S' : SS} {σ : St} {F H : Hp} {i : Nat} {u : U} {v : V} (R : Rel K B S σ F H) (h : mw i u S = some S') (p : Ga B S σ F H v u) : Rel K B S' (σ.set i (some v)) F H := by
  obtain⟨rfl,hl,nb⟩:=Am h
  have hl':i < σ.length:=by rw[<-R.len];exact hl
  have out:∀{j:Nat},i≠j->(σ.set i (some v))[j]? =σ[j]?:=fun ne=>List.getElem?_set_ne ne
  have pW:(σ.set i (some v))[i]? =some (some v):=List.getElem?_set_self hl'
  have Gb:∀j w a,i≠j->S[j]? =some (some w)->fj w=true->fj u=true->σ[j]? =some (some (.ref a))->v≠.ref a:=fun j w a ne hj hm hu hv z=>by
    cases u with
    | t d=>cases hu
    | v k=>cases hu
    | s k=>cases hu
    | f k=>cases hu
    | b o=>exact p
    | m o=>
      obtain⟨c,e,_,_,nm,_⟩:=p
      rw[z] at e
      cases e
      exact nm ⟨j,w,hj,hm,hv⟩
  refine⟨R.sub,by rw[List.length_set,List.length_set];exact R.len,fun j w hj=>?_,fun j k w1 w2 a h1 m1 h2 m2 v1 v2=>?_,fun j o a hj hv=>?_,fun j o a hj hv=>?_,fun j a hj=>?_,R.ext⟩
  . rcases get_set hj with⟨rfl,q,_⟩ | ⟨ne,q⟩
    . cases q
      refine⟨v,pW,?_⟩
      cases u with
      | t d=>exact p
      | m o=>obtain⟨a,e,f,h,_⟩:=p;exact⟨a,e,f,h⟩
      | b o=>cases p
      | v k=>cases p
      | s k=>cases p
      | f k=>cases p
    . rw[out ne];exact R.rep j w q
  . rcases get_set h1 with⟨rfl,q1,_⟩ | ⟨ne1,q1⟩
    . rcases get_set h2 with⟨rfl,q2,_⟩ | ⟨ne2,q2⟩
      . rfl
      . cases q1
        rw[pW] at v1
        rw[out ne2] at v2
        cases v1
        exact absurd rfl (Gb k w2 a ne2 q2 m2 m1 v2)
    . rcases get_set h2 with⟨rfl,q2,_⟩ | ⟨ne2,q2⟩
      . cases q2
        rw[pW] at v2
        rw[out ne1] at v1
        cases v2
        exact absurd rfl (Gb j w1 a ne1 q1 m1 m2 v1)
      . rw[out ne1] at v1
        rw[out ne2] at v2
        exact R.vF j k w1 w2 a q1 m1 q2 m2 v1 v2
  . rcases get_set hj with⟨rfl,q,_⟩ | ⟨ne,q⟩
    . cases q
      rw[pW] at hv
      cases hv
      obtain⟨c,e,_,_,_,hB⟩:=p
      cases e
      exact hB
    . rw[out ne] at hv;exact R.own j o a q hv
  . rcases get_set hj with⟨rfl,q,_⟩ | ⟨ne,q⟩
    . cases q;cases p
    . rw[out ne] at hv;exact R.bor j o a q hv
  . obtain⟨h1,o,h2⟩:=R.par j a hj
    have ne:i≠j:=fun z=>by subst z;exact nb o h2
    exact⟨by rw[out ne];exact h1,o,by rw[List.getElem?_set_ne ne];exact h2⟩
noncomputable def gX:GS:=fun S=>some (.nx S)
noncomputable def aZ (a b:GS):GS:=fun S=>(a S).bind fun o=>match o with
 | .nx S1=>b S1
 | o=>some o
noncomputable def bJ (i:Nat) (g:GE):GS:=fun S=>(g S).bind fun p=>match p.1 with
 | .m o=>(mw i (.m o) p.2).map .nx
 | u=>(fz u p.2).bind fun q=>(mw i (.t q.1) q.2).map .nx
noncomputable def pA (g:GE):GS:=fun S=>(g S).map fun p=>.nx p.2
noncomputable def cT (g:GE):GS:=fun S=>(g S).bind fun p=>match p.1 with
 | .v i=>match p.2[i]? with
  | some (some (.t d))=>some (.rt (.t d) p.2)
  | some (some (.m o))=>some (.rt (.m o) (p.2.set i none))
  | _=>none
 | .s _=>none
 | .f _=>none
 | u=>some (.rt u p.2)
noncomputable def oG (q:GT) (a b:GS):GS:=fun S=>(q S).bind fun p=>if p.1 then a p.2 else b p.2
theorem yW.mono {K:PySem.W.Frag}{B:Base}{F F1:Hp}{D:Ends}(g:∀b o,F b=some o->F1 b=some o):∀{o:Out},yW K B F D o->yW K B F1 D o
 | .nx _,h=>fun σ' F' H' R le=>h σ' F' H' R fun b o z=>le b o (g b o z)
 | .bk _,h=>fun σ' F' H' R le=>h σ' F' H' R fun b o z=>le b o (g b o z)
 | .ct _,h=>fun σ' F' H' R le=>h σ' F' H' R fun b o z=>le b o (g b o z)
 | .rt _ _,h=>fun v σ' F' H' R le=>h v σ' F' H' R fun b o z=>le b o (g b o z)
section
variable {X:Cx}{a b c e:Expr}{pos p p2:Pos}{x:Str}{st:Stmt}{rest b1 b2 body:List Stmt}{g:GE}{s1 s2:GS}{q1:GT}
theorem dQ:JB X [] gX:=⟨fun B=>DI.imp fun D σ H ⟨S,F,o,R,h,k⟩=>by cases h;exact k σ F H R fun _ _ z=>z⟩
theorem aG (h1:JS X st s1) (h2:JB X rest s2):JB X (st :: rest) (aZ s1 s2):=⟨fun B=>(qg (h1.h B) (h2.h B)).imp fun D σ H ⟨S,F,o,R,h,k⟩=>by
 obtain⟨o1,e1,h⟩:=aj h
 refine⟨S,F,o1,R,e1,?_⟩
 cases o1 with
 | nx S1=>exact fun σ' F' H' R' le=>⟨S1,F',o,R',h,k.mono le⟩
 | rt u S1=>cases h;exact k
 | bk S1=>cases h;exact k
 | ct S1=>cases h;exact k⟩
theorem bx (h1:JS X st s1):JB X [st] s1:=⟨fun B=>yG (h1.h B)⟩
theorem iU.put {K:PySem.W.Frag}{B:Base}{S:SS}{σ:St}{H0 F H:Hp}{v:V}{o:MO}(r:iU K B S σ H0 F H v (.m o)):Ga B S σ F H v (.m o):=by
 obtain⟨a,e,_,f,h,n,hB⟩:=r
 exact⟨a,e,f,h,n,hB⟩
theorem yY {i:Nat}{K:PySem.W.Frag}{B:Base}{D:Ends}{σ:St}{H:Hp}(h:tO K B (bJ i g) D σ H):DK (tE K B g) (pg i) D σ H:=by
 obtain⟨S,F,o,R,h,k⟩:=h
 obtain⟨⟨u,S1⟩,h1,h⟩:=aj h
 refine⟨S,F,u,S1,R,h1,fun v F1 H1 R1 st1 r1=>?_⟩
 have go:(∀o',u≠.m o')->(fz u S1).bind (fun q=>(mw i (.t q.1) q.2).map Out.nx)=some o->D.nx (σ.set i (some v)) H1:=fun _ h=>by
  obtain⟨⟨d,S2⟩,h2,h⟩:=aj h
  obtain⟨S3,h3,h⟩:=aE h
  subst h
  obtain⟨F2,R2,st2,r2⟩:=BQ R1 st1 r1 h2
  exact k _ F2 H1 (R2.put h3 r2) st2.ext.le
 cases u with
 | m o'=>
  obtain⟨S3,h3,h⟩:=aE (show(mw i (.m o') S1).map Out.nx=some o from h)
  subst h
  exact k _ F1 H1 (R1.put h3 r1.put) st1.ext.le
 | t d=>exact go (fun _ z=>by cases z) h
 | b d=>exact go (fun _ z=>by cases z) h
 | s d=>exact go (fun _ z=>by cases z) h
 | f d=>exact go (fun _ z=>by cases z) h
 | v d=>exact go (fun _ z=>by cases z) h
theorem bC {i:Nat}{pos':Pos}(hN:X.N.Nodup) (hi:X.N[i]? =some x) (hx:Loc X.env.scope x) (he:JE X e g) (hs:swapsWith e (some (.Name x pos')) pos.line X.env=pure false:=by rfl)
  (hf:X.fn x=true\/X.env.scope.names.lookup x=some .local:=by first | exact .inl rfl | exact .inr rfl | assumption):JS X (.Assign [.Name x pos'] e pos) (bJ i g):=
 ⟨fun B=>(GR hN hi hx (he.h B) hs hf).imp fun D σ H h=>yY h⟩
theorem lK (he:JE X e g) (hs:swapsWith e none pos.line X.env=pure false:=by rfl):JS X (.Expr e pos) (pA g):=⟨fun B=>(yH (he.h B) hs).imp fun D σ H ⟨S,F,o,R,h,k⟩=>by
 obtain⟨⟨u,S1⟩,h1,h⟩:=aE h
 subst h
 exact⟨S,F,u,S1,R,h1,fun v F1 H1 R1 st1 r1=>k σ F1 H1 R1 st1.ext.le⟩⟩
theorem Rel.drop {K:PySem.W.Frag}{B:Base}{S:SS}{σ:St}{F H:Hp}{i:Nat}{o:MO}(R:Rel K B S σ F H) (h:S[i]? =some (some (.m o))):Rel K B (S.set i none) σ F H:=by
 have back:∀{j w},(S.set i none)[j]? =some (some w)->i≠j/\S[j]? =some (some w):=fun {j w} z=>by
  rcases get_set z with⟨_,q,_⟩ | q
  ·cases q
  ·exact q
 refine⟨R.sub,by rw[List.length_set];exact R.len,fun j w z=>R.rep j w (back z).2,fun j k w1 w2 a h1 m1 h2 m2=>R.vF j k w1 w2 a (back h1).2 m1 (back h2).2 m2,fun j o a z=>R.own j o a (back z).2,fun j o a z=>R.bor j o a (back z).2,fun j a z=>?_,R.ext⟩
 obtain⟨k1,o',k2⟩:=R.par j a z
 have ne:i≠j:=fun z=>by subst z;rw[h] at k2;cases k2
 exact⟨k1,o',by rw[List.getElem?_set_ne ne];exact k2⟩
theorem bO (he:JE X e g):JS X (.Return (some e) pos) (cT g):=⟨fun B=>(GL (he.h B)).imp fun D σ H ⟨S,F,o,R,h,k⟩=>by
  obtain⟨⟨u,S1⟩,h1,h⟩:=aj h
  refine⟨S,F,u,S1,R,h1,fun v F1 H1 R1 st1 r1=>?_⟩
  cases u with
  | t d=>cases h;exact k v σ F1 H1 R1 st1.ext.le r1
  | b d=>cases h;cases r1
  | s d=>cases h
  | f d=>cases h
  | m o'=>cases h;exact k v σ F1 H1 R1 st1.ext.le (by obtain⟨a,e,h0,f,h,n,hB⟩:=r1;exact⟨a,e,hB,f,h,n,hB⟩)
  | v i =>
    obtain⟨hv,w,hw⟩:=r1
    dsimp only at h
    rw[hw] at h
    obtain⟨v',z1,z2⟩:=R1.rep i w hw
    rw[hv] at z1
    cases z1
    cases w with
    | t d=>cases h;exact k v σ F1 H1 R1 st1.ext.le z2
    | b d=>cases h
    | v d=>cases h
    | s d=>cases h
    | f d=>cases h
    | m o'=>
      cases h
      obtain⟨a,rfl,f,ha⟩:=z2
      have hB:=R1.own i o' a hw hv
      refine k _ σ F1 H1 (R1.drop hw) st1.ext.le ⟨a,rfl,hB,f,ha,fun⟨j,w,z,hm,hj⟩=>?_,hB⟩
      rcases get_set z with⟨_,q,_⟩ | ⟨ne,q⟩
      . cases q
      . exact ne (R1.vF i j _ w a hw rfl q hm hv hj)⟩
theorem gG (hc:JT X c q1) (ha:JB X b1 s1) (hb:JB X b2 s2):JS X (.If c b1 b2 pos) (oG q1 s1 s2):=⟨fun B=>(Ka (hc.h B) (ha.h B) (hb.h B)).imp fun D σ H ⟨S,F,o,R,h,k⟩=>by
 obtain⟨⟨d,S1⟩,h1,h⟩:=aj h
 refine⟨S,F,d,S1,R,h1,fun F1 H1 R1 st1=>?_⟩
 cases d with
 | true=>exact xA ⟨S1,F1,o,R1,h,k.mono st1.ext.le⟩
 | false=>exact xy ⟨S1,F1,o,R1,h,k.mono st1.ext.le⟩⟩
noncomputable abbrev GB:=D->SS->Option SS
noncomputable def SQ (K:PySem.W.Frag) (B:Base) (bd:GB):TG:=fun v σ H Q=>∃S F d S',Rel K B S σ F H/\Rep F v d/\bd d S=some S'/\∀σ',Rel K B S' σ' F H->Q σ' H
structure JG (X:Cx) (tg:Expr) (bd:GB):Prop where
 h:∀B,PG X tg (SQ X.K B bd)
noncomputable abbrev DA:=List D->SS->Option SS
noncomputable def OF (K:PySem.W.Frag) (B:Base) (bd:DA):DJ:=fun vs σ H Q=>∃S F ds S',Rel K B S σ F H/\bD F vs ds/\bd ds S=some S'/\∀σ',Rel K B S' σ' F H->Q σ' H
structure MK (X:Cx) (B3:List Expr) (bd:DA):Prop where
 h:∀B,FI X B3 (OF X.K B bd)
theorem PG.imp {tg:Expr}{t t':TG}(h:PG X tg t) (k:∀v σ H Q,t' v σ H Q->t v σ H Q):PG X tg t':=fun pins s σ H v u Q I r q=>h pins s σ H v u Q I r (k v σ H Q q)
theorem FI.imp {tg:List Expr}{t t':DJ}(h:FI X tg t) (k:∀v σ H Q,t' v σ H Q->t v σ H Q):FI X tg t':=fun pins s σ H v u Q I r q=>h pins s σ H v u Q I r (k v σ H Q q)
noncomputable def bName (i:Nat):GB:=fun d S=>mw i (.t d) S
theorem fL {i:Nat}(hN:X.N.Nodup) (hi:X.N[i]? =some x) (hx:Loc X.env.scope x) (hf:X.fn x=true\/X.env.scope.names.lookup x=some .local:=by first | exact .inl rfl | exact .inr rfl | assumption):JG X (.Name x pos) (bName i):=
 ⟨fun B=>(pR hN hi hx hf).imp fun v σ H Q ⟨S,F,d,S',R,r,h,k⟩=>k _ (R.put h r)⟩
noncomputable def pL:DA:=fun ds S=>match ds with
 | []=>some S
 | _=>none
noncomputable def fU (b:GB) (bs:DA):DA:=fun ds S=>match ds with
 | d :: r=>(b d S).bind fun S1=>bs r S1
 | []=>none
theorem ug:MK X [] pL:=⟨fun B=>yJ.imp fun vs σ H Q ⟨S,F,ds,S',R,r,h,k⟩=>by
 cases r with
 | nil=>cases h;exact⟨rfl,k σ R⟩
 | cons _ _=>cases h⟩
theorem jJ {tg:Expr}{B3:List Expr}{bd:GB}{K2:DA}(h1:JG X tg bd) (h2:MK X B3 K2) (hs:(assignEach (tg :: B3) X.env).map (·.2)=assign tg X.env :: (assignEach B3 X.env).map (·.2):=by rfl):MK X (tg :: B3) (fU bd K2):=
 ⟨fun B=>(qj (h1.h B) (h2.h B) hs).imp fun vs σ H Q ⟨S,F,ds,S',R,r,h,k⟩=>by
 cases r with
 | nil=>cases h
 | cons r rs=>
  obtain⟨S1,e1,h⟩:=aj h
  exact⟨_,_,rfl,S,F,_,S1,R,r,e1,fun σ1 R1=>⟨S1,F,_,S',R1,rs,h,k⟩⟩⟩
noncomputable def oH (n:Nat) (bs:DA):GB:=fun d S=>match d with
 | .tup ds=>if ds.length=n then bs ds S else none
 | _=>none
theorem xG {B3:List Expr}{k0:Nat}{K2:DA}{n:Nat}(hc:X.calm=true) (h:MK X B3 K2) (hn:(assignEach B3 X.env).length=n:=by rfl) (hst:(assignEach B3 X.env).findIdx? (·.1)=none:=by rfl):JG X (.Tuple B3 k0 pos) (oH n K2):=
 ⟨fun B=>(Be hc (h.h B) hn hst).imp fun v σ H Q ⟨S,F,d,S',R,r,h,k⟩=>by
 cases d <;> try (cases h)
 rename_i ds
 unfold oH at h
 dsimp only at h
 split at h
 ·rename_i hl
  obtain⟨a,vs,rfl,fa,ha,rs⟩:=R.sub.iV r
  exact⟨a,vs,rfl,.inl ha,by rw[rs.length];exact hl,S,F,ds,S',R,rs,h,k⟩
 ·cases h⟩
noncomputable def Walk (J:It) (F:Hp) (ds:List D):Prop:=∀F' H',(∀b o,F b=some o->F' b=some o)->Sub F' H'->∀i,(∀d,ds[i]? =some d->J.go i H'/\∀x H2,J.Jp i H' x H2->H2=H'/\Rep F' x d)/\(ds.length<=i->J.stop i H')
noncomputable abbrev GI:=SS->Option (List D×SS)
noncomputable def SR (K:PySem.W.Frag) (B:Base) (gi:GI):TI:=fun σ H R=>∃S F ds S',Rel K B S σ F H/\gi S=some (ds,S')/\∀J F' H',Rel K B S' σ F' H'->Step S S' σ F H F' H'->Walk J F' ds->R J H'
structure JI (X:Cx) (tg e:Expr) (gi:GI):Prop where
 h:∀B,PI X tg e (SR X.K B gi)
theorem PI.orelse {tg:Expr}{wi:TI}(h:∀σ H R,wi σ H R->∃wi',PI X tg e wi'/\wi' σ H R):PI X tg e wi:=fun pins s σ H R I q=>let⟨_,h1,h2⟩:=h σ H R q;h1 pins s σ H R I h2
noncomputable def D7 (g:GD):GI:=fun S=>(g S).bind fun p=>match p.1 with
 | .tup ds=>some (ds,p.2)
 | .lst ds=>some (ds,p.2)
 | _=>none
noncomputable def cU (g:GD):GI:=fun S=>(g S).bind fun p=>match p.1 with
 | .tup ds=>some (ds,p.2)
 | .lst ds=>some (ds,p.2)
 | .str z=>some (z.cps.toList.map fun c=>.str ⟨#[c]⟩,p.2)
 | _=>none
theorem sF {K:PySem.W.Frag}{F:Hp}{a:Addr}{vs:List V}{ds:List D}(fa:Rd F a (.lst vs)) (rs:bD F vs ds):Walk (NX K a) F ds:=fun F' H' le sb i=>by
 have ha:mR K H' a vs:=.inl (fa.imp (fun z=>sb a _ (le _ _ z)) fun⟨o,z⟩=>⟨o,sb a _ (le _ _ z)⟩)
 refine⟨fun d hd=>?_,fun hl=>⟨vs,ha,by rw[rs.length];exact hl⟩⟩
 obtain⟨v,h1,h2⟩:=rs.get hd
 refine⟨⟨vs,v,ha,h1⟩,fun x H2 y=>⟨y.1,?_⟩⟩
 have:=y.2 vs ha
 rw[h1] at this
 cases this
 exact h2.le le
theorem vJ {K:PySem.W.Frag}{F:Hp}{a:Addr}{vs:List V}{ds:List D}(fa:F a=some (.tup vs)) (rs:bD F vs ds):Walk (NY K a) F ds:=fun F' H' le sb i=>by
 have ha:tM K H' a vs:=.inl (Rd.of (sb a _ (le _ _ fa)))
 refine⟨fun d hd=>?_,fun hl=>⟨vs,ha,by rw[rs.length];exact hl⟩⟩
 obtain⟨v,h1,h2⟩:=rs.get hd
 refine⟨⟨vs,v,ha,h1⟩,fun x H2 y=>⟨y.1,?_⟩⟩
 have:=y.2 vs ha
 rw[h1] at this
 cases this
 exact h2.le le
theorem B4 {F:Hp}{z:Str}:Walk (OC z) F (z.cps.toList.map fun c=>.str ⟨#[c]⟩):=fun F' H' le sb i=>by
 refine⟨fun d hd=>?_,fun hl=>(show z.cps.size<=i by simpa using hl)⟩
 rw[List.getElem?_map] at hd
 obtain⟨c,hc,rfl⟩:=aE hd
 have hc':z.cps[i]? =some c:=by rw[<-Array.getElem?_toList];exact hc
 refine⟨(Array.getElem?_eq_some_iff.mp hc').1,fun x H2 y=>⟨y.1,?_⟩⟩
 obtain⟨c2,k1,rfl⟩:=y.2
 rw[hc'] at k1
 cases k1
 exact .str _
theorem HA {tg:Expr}{gd:GD}(h:JD X e gd):JI X tg e (D7 gd):=⟨fun B=>PI.orelse fun σ H R0 ⟨S,F,ds,S',R,hg,k⟩=>by
 obtain⟨⟨d,S1⟩,h1,hg⟩:=aj hg
 cases d <;> try (cases hg)
 ·refine⟨_,Bj (h.h B),S,F,_,_,R,h1,fun v F1 H1 R1 st1 r1=>?_⟩
  obtain⟨a,vs,rfl,fa,ha,rs⟩:=R1.sub.iV r1
  exact⟨a,rfl,⟨vs,.inl ha⟩,k _ F1 H1 R1 st1 (vJ fa rs)⟩
 ·refine⟨_,yK (h.h B),S,F,_,_,R,h1,fun v F1 H1 R1 st1 r1=>?_⟩
  obtain⟨a,vs,rfl,fa,ha,rs⟩:=R1.sub.jq r1
  exact⟨a,rfl,⟨vs,.inl ha⟩,k _ F1 H1 R1 st1 (sF fa rs)⟩⟩
theorem d8 {gd:GD}(h:JD X e gd):JI X (.Name x pos) e (cU gd):=⟨fun B=>PI.orelse fun σ H R0 ⟨S,F,ds,S',R,hg,k⟩=>by
 obtain⟨⟨d,S1⟩,h1,hg⟩:=aj hg
 cases d <;> try (cases hg)
 ·refine⟨_,Hx (h.h B),S,F,_,_,R,h1,fun v F1 H1 R1 st1 r1=>?_⟩
  exact⟨_,yX r1,k _ F1 H1 R1 st1 B4⟩
 ·refine⟨_,Bj (h.h B),S,F,_,_,R,h1,fun v F1 H1 R1 st1 r1=>?_⟩
  obtain⟨a,vs,rfl,fa,ha,rs⟩:=R1.sub.iV r1
  exact⟨a,rfl,⟨vs,.inl ha⟩,k _ F1 H1 R1 st1 (vJ fa rs)⟩
 ·refine⟨_,yK (h.h B),S,F,_,_,R,h1,fun v F1 H1 R1 st1 r1=>?_⟩
  obtain⟨a,vs,rfl,fa,ha,rs⟩:=R1.sub.jq r1
  exact⟨a,rfl,⟨vs,.inl ha⟩,k _ F1 H1 R1 st1 (sF fa rs)⟩⟩
noncomputable def mF (lo:Int) (n:Nat):List D:=(List.range n).map fun(k:Nat)=>D.int (lo+(k:Int))
noncomputable def iW (gA:GA):GI:=fun S=>(gA S).bind fun p=>match p.1 with
 | [.int j]=>if j < 1000000/\-1000000 < j then some (mF 0 j.toNat,p.2) else none
 | _=>none
theorem B5 {F:Hp}{lo:Int}{n:Nat}:Walk (MD lo n) F (mF lo n):=fun F' H' le sb i=>by
 refine⟨fun d hd=>?_,fun hl=>(show n<=i by simpa[mF] using hl)⟩
 unfold mF at hd
 rw[List.getElem?_map] at hd
 obtain⟨c,hc,rfl⟩:=aE hd
 obtain⟨hl,e⟩:=List.getElem?_eq_some_iff.mp hc
 rw[List.getElem_range] at e
 subst e
 refine⟨show i < n by simpa using hl,fun x H2 y=>⟨y.1,?_⟩⟩
 rw[y.2]
 exact .int _
theorem jK {tg : Expr} {gA : GA} (hg : Gl X "range") (hm : X.mg "range" = none) (ha : JA X [a] gA) (hs : starEach [a] X.env = [(false, eval a X.env)] := by rfl) : JI X tg (.Call (.Name "range" p) [a] [] pos) (iW gA) :=
  ⟨fun B=>PI.orelse fun σ H R0 ⟨S,F,ds,S',R,hg',k⟩=>by
  obtain⟨⟨d,S1⟩,h1,hg'⟩:=aj hg'
  refine⟨_,Ab hg hm (ha.h B) hs,S,F,d,S1,R,h1,fun vs F1 H1 R1 st1 r1=>?_⟩
  dsimp only at hg'
  split at hg'
  . split at hg'
    . rename_i j hj
      cases hg'
      cases r1 with
      | cons r rs=>
        cases rs
        exact⟨j,by rw[iP r],by omega,by omega,k _ F1 H1 R1 st1 B5⟩
    . cases hg'
  . cases hg'⟩
noncomputable def loop (bd:GB) (body:GS):List D->SS->Option Out
 | [],S=>some (.nx S)
 | d :: ds,S=>(bd d S).bind fun S1=>(body S1).bind fun o=>match o with
  | .nx S2=>loop bd body ds S2
  | .ct S2=>loop bd body ds S2
  | .bk S2=>some (.nx S2)
  | .rt u S2=>some (.rt u S2)
noncomputable def j9 (bd:GB) (gi:GI) (body:GS):GS:=fun S=>(gi S).bind fun p=>loop bd body p.1 p.2
theorem mX {tg iter:Expr}{bd:GB}{gi:GI}(hp:PassesOwn (model X.prog X.w) X.A X.env X.xe) (hc:X.calm=true) (hi:JI X tg iter gi) (hg:JG X tg bd) (hb:JB X body s1) (hs:∀x,foldedSetIterable iter X.env x=pure x:=by intro _;rfl):
  JS X (.For tg iter body [] pos) (j9 bd gi s1):=⟨fun B=>(xm hp hc (hi.h B) (hg.h B) (hb.h B) hs).imp fun D σ H ⟨S,F,o,R,h,k⟩=>by
 obtain⟨⟨ds,S1⟩,h1,h⟩:=aj h
 refine⟨S,F,ds,S1,R,h1,fun J F1 H1 R1 st1 w=>?_⟩
 refine⟨fun i m σ' H'=>∃S' F',Rel X.K B S' σ' F' H'/\(∀b o,F1 b=some o->F' b=some o)/\i<=ds.length/\m=ds.length - i/\loop bd s1 (ds.drop i) S'=some o,⟨_,S1,F1,R1,fun _ _ z=>z,Nat.zero_le _,rfl,h⟩,?_⟩
 rintro i m σ' H' ⟨S',F',R',le,hl,rfl,dI⟩
 have w':=w F' H' le R'.sub i
 by_cases hlt:i < ds.length
 ·have hd:ds[i]? =some ds[i]:=List.getElem?_eq_getElem hlt
  obtain⟨go,yl⟩:=w'.1 _ hd
  rw[List.drop_eq_getElem_cons hlt] at dI
  obtain⟨S2,e2,dI⟩:=aj dI
  obtain⟨o2,e3,dI⟩:=aj dI
  refine .inr ⟨go,_,fun σ2 H2 n=>⟨ds.length - (i+1),by omega,n⟩,fun x H2 y=>?_⟩
  obtain⟨rfl,rx⟩:=yl x H2 y
  refine⟨S',F',_,S2,R',rx,e2,fun σ3 R3=>⟨S2,F',o2,R3,e3,?_⟩⟩
  cases o2 with
  | nx S3=>exact fun uY F4 H4 R4 pM=>⟨S3,F4,R4,fun b o z=>pM b o (le b o z),hlt,rfl,dI⟩
  | ct S3=>exact fun uY F4 H4 R4 pM=>⟨S3,F4,R4,fun b o z=>pM b o (le b o z),hlt,rfl,dI⟩
  | bk S3=>cases dI;exact fun uY F4 H4 R4 pM=>k uY F4 H4 R4 fun b o z=>pM b o (le b o (st1.ext.le b o z))
  | rt u S3=>cases dI;exact fun v uY F4 H4 R4 pM=>k v uY F4 H4 R4 fun b o z=>pM b o (le b o (st1.ext.le b o z))
 ·have e:i=ds.length:=by omega
  subst e
  rw[List.drop_length] at dI
  cases dI
  exact .inl ⟨w'.2 (Nat.le_refl _),k σ' F' H' R' fun b o z=>le b o (st1.ext.le b o z)⟩⟩
noncomputable def kP (q:GT) (body:GS):Nat->SS->Option Out
 | 0,_=>none
 | n+1,S=>(q S).bind fun p=>if p.1 then(body p.2).bind fun o=>match o with
  | .nx S2=>kP q body n S2
  | .ct S2=>kP q body n S2
  | .bk S2=>some (.nx S2)
  | .rt u S2=>some (.rt u S2)
 else some (.nx p.2)
noncomputable def mY (fuel:Nat) (q:GT) (body:GS):GS:=fun S=>kP q body fuel S
theorem qz {fuel:Nat}(hp:PassesOwn (model X.prog X.w) X.A X.env X.xe) (hc:JT X c q1) (hb:JB X body s1):JS X (.While c body [] pos) (mY fuel q1 s1):=⟨fun B=>(Bg hp (hc.h B) (hb.h B)).imp fun D σ H ⟨S,F,o,R,h,k⟩=>by
 refine⟨fun m σ' H'=>∃S' F',Rel X.K B S' σ' F' H'/\(∀b o,F b=some o->F' b=some o)/\kP q1 s1 m S'=some o,⟨fuel,S,F,R,fun _ _ z=>z,h⟩,?_⟩
 rintro m σ' H' ⟨S',F',R',le,h⟩
 cases m with
 | zero=>cases h
 | succ m=>
  obtain⟨⟨d,S1⟩,h1,h⟩:=aj h
  refine⟨S',F',d,S1,R',h1,fun F1 H1 R1 st1=>?_⟩
  cases d with
  | false=>
   cases h
   exact xy (k σ' F1 H1 R1 fun b o z=>st1.ext.le b o (le b o z))
  | true=>
   obtain⟨o2,e3,h⟩:=aj (show(s1 S1).bind _=some o from h)
   refine xA ⟨_,fun σ2 H2 n=>⟨m,Nat.lt_succ_self m,n⟩,S1,F1,o2,R1,e3,?_⟩
   have ML:∀b o,F b=some o->F1 b=some o:=fun b o z=>st1.ext.le b o (le b o z)
   cases o2 with
   | nx S3=>exact fun uY F4 H4 R4 pM=>⟨S3,F4,R4,fun b o z=>pM b o (ML b o z),h⟩
   | ct S3=>exact fun uY F4 H4 R4 pM=>⟨S3,F4,R4,fun b o z=>pM b o (ML b o z),h⟩
   | bk S3=>cases h;exact fun uY F4 H4 R4 pM=>k uY F4 H4 R4 fun b o z=>pM b o (ML b o z)
   | rt u S3=>cases h;exact fun v uY F4 H4 R4 pM=>k v uY F4 H4 R4 fun b o z=>pM b o (ML b o z)⟩
end
noncomputable def Ju:U->MO->Option U
 | .m _,o=>some (.m o)
 | .b _,o=>some (.b o)
 | _,_=>none
noncomputable def Jv:U->Option MO
 | .m o=>some o
 | .b o=>some o
 | _=>none
noncomputable def kg (S:SS) (i:Nat) (f:MO->Option (D×MO)):Option (D×SS):=match S[i]? with
 | some (some (.m o))=>(f o).map fun r=>(r.1,S.set i (some (.m r.2)))
 | some (some (.b o))=>(f o).map fun r=>(r.1,S.set i (some (.b r.2)))
 | _=>none
theorem At.K3 {F H:Hp}{a:Addr}{o:MO}{ob:Obj}{u:HO}(h:At F H a o):H a≠some (.iI ob u):=fun z=>by
 cases o with
 | lst ds=>obtain⟨vs,e,_⟩:=h;rw[z] at e;cases e
 | dct ds=>obtain⟨vs,e,_⟩:=h;rw[z] at e;cases e
 | iO ds=>obtain⟨vs,e,_⟩:=h;rw[z] at e;cases e
 | ins C ds=>obtain⟨vs,⟨dx,e⟩,_⟩:=h;rw[z] at e;cases e
theorem tZ.bY {K:PySem.W.Frag}{F H:Hp}{v:V}{u:U}(r:tZ K F H v u) (hm:fj u=true):∃a o,v= .ref a/\F a=none/\Jv u=some o/\At F H a o:=by
 cases u with
 | t d=>cases hm
 | v d=>cases hm
 | s d=>cases hm
 | f d=>cases hm
 | m o=>obtain⟨a,e,f,h⟩:=r;exact⟨a,o,e,f,rfl,h⟩
 | b o=>obtain⟨a,e,f,h⟩:=r;exact⟨a,o,e,f,rfl,h⟩
theorem Rel.write {K : PySem.W.Frag} {B : Base} {S : SS} {σ : St} {F H : Hp} {i : Nat} {u u' : U} {a : Addr} {ho : HO} {o : MO} (R : Rel K B S σ F H) (hS : S[i]? = some (some u)) (hu : Ju u o = some u') (hv : σ[i]? = some (some (.ref a))) (ha : At F (upd H a ho) a o) :
    Rel K B (S.set i (some u')) σ F (upd H a ho)/\Step S (S.set i (some u')) σ F H F (upd H a ho):=by
  have hm:fj u=true/\fj u'=true:=by cases u <;> cases hu <;> exact⟨rfl,rfl⟩
  have K4:F a=none/\∀b ob w,H b=some (.iI ob w)->b≠a:=by
    obtain⟨v,h1,h2⟩:=R.rep i u hS
    rw[hv] at h1
    cases h1
    obtain⟨b,_,e,f,_,k⟩:=h2.bY hm.1
    cases e
    exact⟨f,fun b ob w z e=>k.K3 (by rw[e] at z;exact z)⟩
  have K5:=K4.1
  have Gd:∀b ob w,H b=some (.iI ob w)->upd H a ho b=some (.iI ob w):=fun b ob w z=>by rw[aK (K4.2 b ob w z)];exact z
  have UB:L2.bY S σ a:=⟨i,u,hS,hm.1,hv⟩
  have hl:i < S.length:=(List.getElem?_eq_some_iff.mp hS).1
  have kb:∀{j w},(S.set i (some u'))[j]? =some (some w)->(i=j/\u'=w)\/(i≠j/\S[j]? =some (some w)):=fun {j w} z=>by
    rcases get_set z with⟨e,q,_⟩ | q
    . exact .inl ⟨e,Option.some.inj q⟩
    . exact .inr q
  have orig:∀{j w},(S.set i (some u'))[j]? =some (some w)->fj w=true->∃w0,S[j]? =some (some w0)/\fj w0=true:=fun {j w} z hw=>by
    rcases kb z with⟨rfl,rfl⟩ | ⟨_,q⟩
    . exact⟨u,hS,hm.1⟩
    . exact⟨w,q,hw⟩
  have keepR:∀b o,b≠a->Rd H b o->Rd (upd H a ho) b o:=fun b o ne r=>by
    rcases r with r | ⟨ob,r⟩
    . exact .inl (by rw[aK ne];exact r)
    . exact .inr ⟨ob,by rw[aK ne];exact r⟩
  refine⟨⟨fun b o z=>by rw[aK (fun e=>by rw[e,K5] at z;cases z)];exact R.sub b o z,by rw[List.length_set];exact R.len,fun j w z=>?_,fun j k w1 w2 c z1 m1 z2 m2=>?_,fun j o' c z hc=>?_,fun j o' c z hc=>?_,fun j c z=>?_,?_⟩,⟨?_,fun c ⟨j,w,z,hw,hc⟩=>?_,fun j w z=>?_⟩⟩
  . rcases kb z with⟨rfl,rfl⟩ | ⟨ne,q⟩
    . refine⟨.ref a,hv,?_⟩
      cases u <;> cases hu
      . exact⟨a,rfl,K5,ha⟩
      . exact⟨a,rfl,K5,ha⟩
    . obtain⟨v,h1,h2⟩:=R.rep j w q
      refine⟨v,h1,?_⟩
      by_cases hw:fj w=true
      . obtain⟨c,o',rfl,f,e,h⟩:=h2.bY hw
        have hca:c≠a:=fun z=>ne (R.vF i j u w a hS hm.1 q hw hv (by rw[h1,z]))
        have h':At F (upd H a ho) c o':=h.le (fun _ _ z=>z) fun o z=>by rw[aK hca];exact z
        cases w <;> cases hw <;> cases e
        . exact⟨c,rfl,f,h'⟩
        . exact⟨c,rfl,f,h'⟩
      . cases w with
        | t d=>exact h2
        | v d=>exact h2
        | s d=>obtain⟨c,e,h⟩:=h2;exact⟨c,e,h.le Gd⟩
        | f d=>exact h2
        | m o=>exact absurd rfl hw
        | b o=>exact absurd rfl hw
  . obtain⟨OG,q1,n1⟩:=orig z1 m1
    obtain⟨OH,q2,n2⟩:=orig z2 m2
    exact R.vF j k OG OH c q1 n1 q2 n2
  . rcases kb z with⟨rfl,rfl⟩ | ⟨_,q⟩
    . cases u <;> cases hu
      exact R.own _ _ c hS hc
    . exact R.own j o' c q hc
  . rcases kb z with⟨rfl,rfl⟩ | ⟨_,q⟩
    . cases u <;> cases hu
      exact R.bor _ _ c hS hc
    . exact R.bor j o' c q hc
  . obtain⟨k1,o',k2⟩:=R.par j c z
    refine⟨k1,?_⟩
    by_cases e:i=j
    . subst e
      rw[hS] at k2
      cases k2
      cases hu
      exact⟨o,List.getElem?_set_self hl⟩
    . exact⟨o',by rw[List.getElem?_set_ne e];exact k2⟩
  . refine⟨R.ext.le,fun b o z n=>?_,R.ext.gM,fun b o z=>?_,fun b o w z=>Gd b o w (R.ext.iI b o w z)⟩
    . have hb:b≠a:=fun e=>by
        subst e
        cases u with
        | m o'=>rw[R.own i o' b hS hv] at z;cases z
        | b o'=>exact n (R.bor i o' b hS hv)
        | t d=>cases hu
        | v d=>cases hu
        | s d=>cases hu
        | f d=>cases hu
      rw[aK hb]
      exact R.ext.keep b o z n
    . by_cases hb:b=a
      . exact⟨ho,by rw[hb,aU]⟩
      . rw[aK hb];exact R.ext.there b o z
  . refine⟨fun _ _ z=>z,fun b o z n=>?_,fun _ _ _ _ z=>z,fun b o z=>?_,Gd⟩
    . rw[aK (fun e=>n (by rw[e];exact UB))];exact z
    . by_cases hb:b=a
      . exact⟨ho,by rw[hb,aU]⟩
      . exact⟨o,by rw[aK hb];exact z⟩
  . obtain⟨w0,q,n⟩:=orig z hw
    exact⟨j,w0,q,n,hc⟩
  . by_cases e:i=j
    . subst e;exact⟨u',List.getElem?_set_self hl⟩
    . exact⟨w,by rw[List.getElem?_set_ne e];exact z⟩
theorem sG {S S':SS}{i:Nat}{f:MO->Option (D×MO)}{d:D}(h:kg S i f=some (d,S')):∃u u' o o',S[i]? =some (some u)/\fj u=true/\Jv u=some o/\f o=some (d,o')/\Ju u o'=some u'/\S'=S.set i (some u'):=by
 unfold kg at h
 split at h
 ·rename_i o e
  obtain⟨⟨d',o'⟩,h1,h⟩:=aE h
  cases h
  exact⟨_,_,o,o',e,rfl,rfl,h1,rfl,rfl⟩
 ·rename_i o e
  obtain⟨⟨d',o'⟩,h1,h⟩:=aE h
  cases h
  exact⟨_,_,o,o',e,rfl,rfl,h1,rfl,rfl⟩
 ·cases h
noncomputable def OI (r:V->List V->Hp->VK->Prop) (h:List D->MO->Option (D×MO)):Prop:=
 ∀F H a vs xs ds args res o',Sub F H->H a=some (.lst vs)->F a=none->bD F vs ds->bD F xs args->h args (.lst ds)=some (res,o')->
  ∀Q:VK,(∀rv ho,Rep F rv res->At F (upd H a ho) a o'->Q rv (upd H a ho))->r (.ref a) xs H Q
noncomputable def ez:MO->Bool
 | .lst _=>true
 | _=>false
noncomputable def B6 (S:SS) (i:Nat):Bool:=match S[i]? with
 | some (some (.m (.lst _)))=>true
 | some (some (.b (.lst _)))=>true
 | _=>false
theorem HB {K:PySem.W.Frag}{B:Base}{S:SS}{σ:St}{F H:Hp}{i:Nat}(R:Rel K B S σ F H) (h:B6 S i=true):∃u a vs ds,S[i]? =some (some u)/\fj u=true/\Jv u=some (.lst ds)/\σ[i]? =some (some (.ref a))/\F a=none/\H a=some (.lst vs)/\bD F vs ds:=by
 unfold B6 at h
 split at h
 ·rename_i ds e
  obtain⟨v,k1,a,rfl,f,vs,k2,k3⟩:=R.rep i _ e
  exact⟨_,a,vs,ds,e,rfl,rfl,k1,f,k2,k3⟩
 ·rename_i ds e
  obtain⟨v,k1,a,rfl,f,vs,k2,k3⟩:=R.rep i _ e
  exact⟨_,a,vs,ds,e,rfl,rfl,k1,f,k2,k3⟩
 ·cases h
noncomputable def eM (i:Nat) (h:List D->MO->Option (D×MO)) (gA:GA):GD:=fun S=>if B6 S i then(gA S).bind fun p=>kg p.2 i (h p.1) else none
theorem B7 {K:PySem.W.Frag}{B:Base}{S:SS}{σ:St}{F H:Hp}{i:Nat}{a:Addr}{u:U}{ds:List D}(R:Rel K B S σ F H) (hS:S[i]? =some (some u)) (hm:fj u=true) (hi:Jv u=some (.lst ds)) (hv:σ[i]? =some (some (.ref a))):F a=none/\∃vs,H a=some (.lst vs)/\bD F vs ds:=by
 obtain⟨v,k1,k2⟩:=R.rep i u hS
 rw[hv] at k1
 cases k1
 obtain⟨b,o2,e1,f,e2,k⟩:=k2.bY hm
 cases e1
 rw[hi] at e2
 cases e2
 exact⟨f,k⟩
section
variable {X:Cx}{a b c e:Expr}{es:List Expr}{pos p p2 apos cpos px:Pos}{x name:Str}{g ga gb gc:GD}{gA:GA}{id:String}
theorem lM {i:Nat}{r:V->List V->Hp->VK->Prop}{h:List D->MO->Option (D×MO)}(slot:Slot "list" name id) (hty:typeOf (.builtin id)=pure (.type "method_descriptor")) (hm:Ob X id r) (hh:OI r h) (hl:∀args o,ez o=false->h args o=none) (ha:JA X (e :: es) gA)
  (hN:X.N[i]? =some x:=by rfl) (hv:Ba X.env.scope x:=by first | exact Or.inl rfl | exact Or.inr (Or.inl rfl) | exact Or.inr (Or.inr rfl))
  (hbase:attributeBase (.Name x px) name X.env (eval (.Name x px) X.env)=eval (.Name x px) X.env:=by rfl)
  (hfew:((backTo cpos (starEach (e :: es) X.env)).all (fun x=>!x.1) && (backToKw cpos (keywordEach [] X.env)).all (fun x=>x.1.isSome)
   && decide ((e :: es).length+([]:List Keyword).length+(if([]:List Keyword).isEmpty then 0 else 1) < 30))=true:=by rfl)
  (hline:(apos.endLine == cpos.line)=true:=by rfl) (hs:starEach (e :: es) X.env=(false,eval e X.env) :: starEach es X.env:=by rfl) (hplain:(backTo cpos (starEach es X.env)).any (·.1)=false:=by rfl)
  (hd:(x == ("__debug__":Str))=false:=by decide) (hcd:(x == ("__classdict__":Str))=false:=by decide):
  JD X (.Call (.Attribute (.Name x px) name apos) (e :: es) [] cpos) (eM i h gA):=
 ⟨fun B=>(FT PySem.F.plainAttrs_list slot hty hm (iJ hN hv hd hcd) (ha.h B) hbase hfew hline hs hplain).imp fun σ H Q ⟨S,F,d,S',R,hg,q⟩=>by
 unfold eM at hg
 split at hg
 ·rename_i hL
  obtain⟨⟨args,S1⟩,h1,hg⟩:=aj hg
  obtain⟨u,u',o,o',hS,K6,hio,hf,K7,rfl⟩:=sG hg
  obtain⟨u0,a,UC,XM,_,_,_,hv0,_,hH,_⟩:=HB R hL
  cases o with
  | dct kvs=>rw[hl _ _ rfl] at hf;cases hf
  | iO kvs=>rw[hl _ _ rfl] at hf;cases hf
  | ins C kvs=>rw[hl _ _ rfl] at hf;cases hf
  | lst ds=>
   refine⟨.ref a,hv0,.inl ⟨rfl,UC,mR.of hH⟩,S,F,args,S1,R,h1,fun xs F1 H1 R1 st1 r1=>?_⟩
   obtain⟨hf1,vs,UD,rs⟩:=B7 R1 hS K6 hio hv0
   refine hh F1 H1 a vs xs ds args d o' R1.sub UD hf1 rs r1 hf Q fun rv ho rr ha=>?_
   obtain⟨R2,st2⟩:=R1.write hS K7 hv0 ha
   exact q rv F1 _ R2 (st1.trans st2) rr
 ·cases hg⟩
noncomputable def hAppend:List D->MO->Option (D×MO)
 | [d],.lst ds=>if ds.length < 100000 then some (.dg,.lst (ds++[d])) else none
 | _,_=>none
theorem jL : OI yT hAppend := by
  intro F H a vs xs ds args res o' sb hH fa rs rx hw Q q
  unfold hAppend at hw
  split at hw
  . rename_i d ds' e2
    cases e2
    split at hw
    . rename_i hl
      cases hw
      cases rx with
      | cons r rr=>
        cases rr
        exact⟨a,vs,_,rfl,rfl,hH,by rw[rs.length];exact Nat.lt_of_lt_of_le hl (by decide),q .dg _ .dg ⟨_,aU,rs.append (.cons r .nil)⟩⟩
    . cases hw
  . cases hw
theorem bD.dropLast {F:Hp}{vs:List V}{ds:List D}(r:bD F vs ds):bD F vs.dropLast ds.dropLast:=by
 rw[List.dropLast_eq_take,List.dropLast_eq_take,r.length]
 exact r.take _
end
theorem iU.step {K:PySem.W.Frag}{B:Base}{S S':SS}{σ:St}{H0 F H F' H':Hp}{v:V}{u:U}(r:iU K B S σ H0 F H v u) (st:Step S S' σ F H F' H'):iU K B S' σ H0 F' H' v u:=by
 cases u with
 | t d=>exact r.le st.ext.le
 | b o=>exact r
 | v i=>obtain⟨h1,u,h2⟩:=r;exact⟨h1,st.slots i u h2⟩
 | s i=>obtain⟨a,e,h⟩:=r;exact⟨a,e,h.le st.ext.iI⟩
 | f i=>exact r
 | m o=>
  obtain⟨a,e,h0,f,h,n,hB⟩:=r
  obtain⟨ho,hh⟩:=h.has
  exact⟨a,e,h0,st.ext.gM a ho hh n f,h.le st.ext.le fun o z=>st.ext.keep a o z n,fun m=>n (st.mu a m),hB⟩
noncomputable abbrev GU:=SS->Option (List U×SS)
noncomputable def UE (K:PySem.W.Frag) (B:Base) (gu:GU):TA:=fun σ H Q=>∃S F us S',Rel K B S σ F H/\gu S=some (us,S')/\∀vs F' H',Rel K B S' σ F' H'->Step S S' σ F H F' H'->Paired (fun v u=>iU K B S' σ H F' H' v u) vs us->Q vs H'
structure JU (X:Cx) (es:List Expr) (gu:GU):Prop where
 h:∀B,PA X es (UE X.K B gu)
 len:∀S us S',gu S=some (us,S')->us.length=es.length
noncomputable def bB:GU:=fun S=>some ([],S)
noncomputable def aF (g:GD) (gu:GU):GU:=fun S=>(g S).bind fun p=>(gu p.2).map fun q=>(.t p.1 :: q.1,q.2)
noncomputable def gQ (g:GE) (gu:GU):GU:=fun S=>(g S).bind fun p=>(gu p.2).map fun q=>(p.1 :: q.1,q.2)
section
variable {X:Cx}{e:Expr}{es:List Expr}{g:GD}{ge:GE}{gu:GU}
theorem bw:JU X [] bB:=⟨fun B=>oA.imp fun σ H Q ⟨S,F,us,S',R,hg,q⟩=>by
 cases hg
 exact q [] F H R (Step.refl ..) .nil,fun S us S' h=>by cases h;rfl⟩
theorem au (h:JD X e g) (hr:JU X es gu) (hs:starEach (e :: es) X.env=(false,eval e X.env) :: starEach es X.env:=by rfl):JU X (e :: es) (aF g gu):=
 ⟨fun B=>(lI (h.h B) (hr.h B) hs).imp fun σ H Q ⟨S,F,us,S',R,hg,q⟩=>by
 obtain⟨⟨d,S1⟩,h1,hg⟩:=aj hg
 obtain⟨⟨HC,S2⟩,h2,hg⟩:=aE hg
 cases hg
 exact⟨S,F,d,S1,R,h1,fun v F1 H1 R1 st1 r1=>⟨S1,F1,HC,S2,R1,h2,fun vs F2 H2 R2 st2 r2=>q _ F2 H2 R2 (st1.trans st2) (.cons (r1.le st2.ext.le) (Paired.zW r2 fun _ _ z=>z.weak st1.ext.there))⟩⟩,
 fun S us S' hg=>by
  obtain⟨⟨d,S1⟩,h1,hg⟩:=aj hg
  obtain⟨⟨HC,S2⟩,h2,hg⟩:=aE hg
  cases hg
  show HC.length+1=es.length+1
  rw[hr.len _ _ _ h2]⟩
theorem gw (h:JE X e ge) (hr:JU X es gu) (hs:starEach (e :: es) X.env=(false,eval e X.env) :: starEach es X.env:=by rfl):JU X (e :: es) (gQ ge gu):=
 ⟨fun B=>(lI (h.h B) (hr.h B) hs).imp fun σ H Q ⟨S,F,us,S',R,hg,q⟩=>by
 obtain⟨⟨d,S1⟩,h1,hg⟩:=aj hg
 obtain⟨⟨HC,S2⟩,h2,hg⟩:=aE hg
 cases hg
 exact⟨S,F,d,S1,R,h1,fun v F1 H1 R1 st1 r1=>⟨S1,F1,HC,S2,R1,h2,fun vs F2 H2 R2 st2 r2=>q _ F2 H2 R2 (st1.trans st2) (.cons (r1.step st2) (Paired.zW r2 fun _ _ z=>z.weak st1.ext.there))⟩⟩,
 fun S us S' hg=>by
  obtain⟨⟨d,S1⟩,h1,hg⟩:=aj hg
  obtain⟨⟨HC,S2⟩,h2,hg⟩:=aE hg
  cases hg
  show HC.length+1=es.length+1
  rw[hr.len _ _ _ h2]⟩
end
noncomputable def resolve (S:SS):U->Option U
 | .t d=>some (.t d)
 | .v i=>match S[i]? with
  | some (some (.m o))=>some (.b o)
  | some (some (.b o))=>some (.b o)
  | _=>none
 | .m o=>some (.b o)
 | .b _=>none
 | .s ns=>some (.s ns)
 | .f a=>some (.f a)
noncomputable def bX (S:SS):List U->Option (List U)
 | []=>some []
 | u :: us=>(resolve S u).bind fun w=>(bX S us).map fun ws=>w :: ws
noncomputable def slotsOf:List U->List Nat
 | []=>[]
 | .v i :: us=>i :: slotsOf us
 | _ :: us=>slotsOf us
noncomputable def cB:List U->Nat
 | []=>0
 | .m _ :: us=>cB us+1
 | _ :: us=>cB us
noncomputable def wb:List U->List MO->SS->Option SS
 | [],[],S=>some S
 | .v i :: us,o :: outs,S=>match S[i]? with
  | some (some (.m _))=>wb us outs (S.set i (some (.m o)))
  | some (some (.b _))=>wb us outs (S.set i (some (.b o)))
  | _=>none
 | .m _ :: us,_ :: outs,S=>wb us outs S
 | .t _ :: us,outs,S=>wb us outs S
 | .s _ :: us,outs,S=>wb us outs S
 | .f _ :: us,outs,S=>wb us outs S
 | _,_,_=>none
noncomputable abbrev FM:=List U->Option (U×List MO)
noncomputable def aR (f:FM) (gu:GU):GE:=fun S=>(gu S).bind fun p=>
 if(slotsOf p.1).Nodup/\cB p.1<=1 then(bX p.2 p.1).bind fun us=>(f us).bind fun r=>(wb p.1 r.2 p.2).map fun S2=>(r.1,S2) else none
noncomputable def B8 (K:PySem.W.Frag) (F H:Hp) (v:V):U->Prop
 | .s ns=>∃a,v= .ref a/\FY K H a ns
 | .f a=>v= .ref a
 | .t d=>Rep F v d
 | .b o=>∃a,v= .ref a/\F a=none/\At F H a o
 | _=>False
noncomputable def addrs:List V->List U->List Addr
 | .ref a :: vs,.b _ :: us=>a :: addrs vs us
 | _ :: vs,_ :: us=>addrs vs us
 | _,_=>[]
structure Post (F H F' H':Hp) (as:List Addr) (outs:List MO):Prop where
 sub:Sub F' H'
 ext:Ext (fun a=>a∈as) F H F' H'
 out:Paired (fun a o=>F' a=none/\At F' H' a o) as outs
noncomputable def spT (K:PySem.W.Frag) (n:Nat) (f:FM):Sp:=fun vs H Q _=>vs.length=n/\∃F us r outs,Sub F H/\Paired (B8 K F H) vs us/\(addrs vs us).Nodup/\f us=some (r,outs)/\∀v F' H',Post F H F' H' (addrs vs us) outs->BR H F' H' v r->Q v H'
section
variable {K:PySem.W.Frag}{B:Base}{S S1 S2:SS}{σ:St}{H0 F H F' H':Hp}
theorem lN {i:Nat}{w:U}(h:resolve S (.v i)=some w):∃u o,S[i]? =some (some u)/\fj u=true/\Jv u=some o/\w= .b o:=by
 unfold resolve at h
 dsimp only at h
 split at h
 ·rename_i o e;cases h;exact⟨_,o,e,rfl,rfl,rfl⟩
 ·rename_i o e;cases h;exact⟨_,o,e,rfl,rfl,rfl⟩
 ·cases h
theorem pX (R:Rel K B S σ F H):∀{vs:List V}{us ws:List U},Paired (fun v u=>iU K B S σ H0 F H v u) vs us->bX S us=some ws->Paired (B8 K F H) vs ws
 | _,_,_,.nil,h=>by cases h;exact .nil
 | _,_,_,@Paired.cons _ _ _ v u vs us r rs,h=>by
  obtain⟨w,h1,h⟩:=aj h
  obtain⟨ws,h2,h⟩:=aE h
  subst h
  refine .cons ?_ (pX R rs h2)
  cases u with
  | t d=>cases h1;exact r
  | s d=>cases h1;exact r
  | f d=>cases h1;exact r
  | b o=>cases h1
  | m o=>cases h1;obtain⟨a,e,_,f,k,_⟩:=r;exact⟨a,e,f,k⟩
  | v i=>
   obtain⟨u,o,hu,hm,hi,rfl⟩:=lN h1
   obtain⟨hv,_⟩:=r
   obtain⟨v',k1,k2⟩:=R.rep i u hu
   rw[hv] at k1
   cases k1
   obtain⟨a,o2,e,f,e2,k⟩:=k2.bY hm
   rw[hi] at e2
   cases e2
   exact⟨a,e,f,k⟩
theorem nF (R : Rel K B S σ F H) : ∀ {vs : List V} {us ws : List U}, Paired (fun v u => iU K B S σ H0 F H v u) vs us -> bX S us = some ws -> ∀ a ∈ addrs vs ws,
    (∃i u,i∈slotsOf us/\S[i]? =some (some u)/\fj u=true/\σ[i]? =some (some (.ref a)))\/(0 < cB us/\H0 a=none/\B.H a=none/\¬bY S σ a)
  | _,_,_,.nil,h,a,ha=>by cases h;cases ha
  | _,_,_,@Paired.cons _ _ _ v u vs us r rs,h,a,ha=>by
    obtain⟨w,h1,h⟩:=aj h
    obtain⟨ws,h2,h⟩:=aE h
    subst h
    have ih:=nF R rs h2
    cases u with
    | t d=>
      cases h1
      have ha:a∈addrs vs ws:=by cases v <;> exact ha
      exact ih a ha
    | s d=>
      cases h1
      have ha:a∈addrs vs ws:=by cases v <;> exact ha
      exact ih a ha
    | f d=>
      cases h1
      have ha:a∈addrs vs ws:=by cases v <;> exact ha
      exact ih a ha
    | b o=>cases h1
    | m o =>
      cases h1
      obtain⟨c,rfl,k0,f,k,n,hB⟩:=r
      rcases List.mem_cons.mp (show a∈c :: addrs vs ws from ha) with rfl | ha
      . exact .inr ⟨Nat.succ_pos _,k0,hB,n⟩
      . rcases ih a ha with z | ⟨_,z⟩
        . exact .inl z
        . exact .inr ⟨Nat.succ_pos _,z⟩
    | v i =>
      obtain⟨u,o,hu,hm,hi,rfl⟩:=lN h1
      obtain⟨hv,_⟩:=r
      obtain⟨v',k1,k2⟩:=R.rep i u hu
      rw[hv] at k1
      cases k1
      obtain⟨c,o2,rfl,f,e2,k⟩:=k2.bY hm
      rcases List.mem_cons.mp (show a∈c :: addrs vs ws from ha) with rfl | ha
      . exact .inl ⟨i,u,List.mem_cons_self,hu,hm,hv⟩
      . rcases ih a ha with⟨j,w,z,z2⟩ | z
        . exact .inl ⟨j,w,List.mem_cons_of_mem _ z,z2⟩
        . exact .inr z
theorem dY (R : Rel K B S σ F H) : ∀ {vs : List V} {us ws : List U}, Paired (fun v u => iU K B S σ H0 F H v u) vs us -> bX S us = some ws -> (slotsOf us).Nodup -> cB us <= 1 -> (addrs vs ws).Nodup
  | _,_,_,.nil,h,_,_=>by cases h;exact List.nodup_nil
  | _,_,_,@Paired.cons _ _ _ v u vs us r rs,h,nd,fr=>by
    obtain⟨w,h1,h⟩:=aj h
    obtain⟨ws,h2,h⟩:=aE h
    subst h
    cases u with
    | t d=>
      cases h1
      have:=dY R rs h2 nd fr
      cases v <;> exact this
    | s d=>
      cases h1
      have:=dY R rs h2 nd fr
      cases v <;> exact this
    | f d=>
      cases h1
      have:=dY R rs h2 nd fr
      cases v <;> exact this
    | b o=>cases h1
    | m o=>
      cases h1
      have XN:cB us=0:=by have:cB us+1<=1:=fr;omega
      obtain⟨c,rfl,k0,f,k,n,hB⟩:=r
      refine List.nodup_cons.mpr ⟨fun hc=>?_,dY R rs h2 nd (by omega)⟩
      rcases nF R rs h2 c hc with⟨j,w,_,z1,z2,z3⟩ | ⟨z,_⟩
      . exact n ⟨j,w,z1,z2,z3⟩
      . omega
    | v i =>
      obtain⟨u,o,hu,hm,hi,rfl⟩:=lN h1
      obtain⟨hv,_⟩:=r
      obtain⟨v',k1,k2⟩:=R.rep i u hu
      rw[hv] at k1
      cases k1
      obtain⟨c,o2,rfl,f,e2,k⟩:=k2.bY hm
      obtain⟨OJ,Ge⟩:=List.nodup_cons.mp (show(i :: slotsOf us).Nodup from nd)
      refine List.nodup_cons.mpr ⟨fun hc=>?_,dY R rs h2 Ge fr⟩
      rcases nF R rs h2 c hc with⟨j,w,z0,z1,z2,z3⟩ | ⟨_,_,_,z⟩
      . have:=R.vF i j u w c hu hm z1 z2 hv z3
        subst this
        exact OJ z0
      . exact z ⟨i,u,hu,hm,hv⟩
theorem lO (R : Rel K B S σ F H) (P : Addr -> MO -> Prop) : ∀ {vs : List V} {us ws : List U} {outs : List MO} {S1 S2 : SS}, Paired (fun v u => iU K B S σ H0 F H v u) vs us -> bX S us = some ws -> wb us outs S1 = some S2 -> (slotsOf us).Nodup -> Paired P (addrs vs ws) outs ->
    S2.length=S1.length/\(∀j,j∉slotsOf us->S2[j]? =S1[j]?)/\∀j∈slotsOf us,∃u u' o a,S1[j]? =some (some u)/\Ju u o=some u'/\S2[j]? =some (some u')/\σ[j]? =some (some (.ref a))/\P a o
  | _,_,_,_,_,_,.nil,h,hw,_,hp=>by
    cases h
    cases hp
    cases hw
    exact⟨rfl,fun _ _=>rfl,fun j hj=>by cases hj⟩
  | _, _, _, outs, S1, S2, @Paired.cons _ _ _ v u vs us r rs, h, hw, nd, hp => by
    obtain⟨w,h1,h⟩:=aj h
    obtain⟨ws,h2,h⟩:=aE h
    subst h
    cases u with
    | t d =>
      cases h1
      have hp:Paired P (addrs vs ws) outs:=by cases v <;> exact hp
      have hw:wb us outs S1=some S2:=by
        cases outs <;> exact hw
      have ih:=lO R P rs h2 hw nd hp
      exact ih
    | s d =>
      cases h1
      have hp:Paired P (addrs vs ws) outs:=by cases v <;> exact hp
      have hw:wb us outs S1=some S2:=by
        cases outs <;> exact hw
      have ih:=lO R P rs h2 hw nd hp
      exact ih
    | f d =>
      cases h1
      have hp:Paired P (addrs vs ws) outs:=by cases v <;> exact hp
      have hw:wb us outs S1=some S2:=by
        cases outs <;> exact hw
      have ih:=lO R P rs h2 hw nd hp
      exact ih
    | b o=>cases h1
    | m o =>
      cases h1
      obtain⟨c,rfl,k0,f,k,n,hB⟩:=r
      cases hp with
      | cons p1 p2=>
        have ih:=lO R P rs h2 (show wb us _ S1=some S2 from hw) nd p2
        exact ih
    | v i =>
      obtain⟨u0,o0,hu,hm,hi,rfl⟩:=lN h1
      obtain⟨hv,_⟩:=r
      obtain⟨v',k1,k2⟩:=R.rep i u0 hu
      rw[hv] at k1
      cases k1
      obtain⟨c,o2,rfl,f,e2,k⟩:=k2.bY hm
      obtain⟨OJ,Ge⟩:=List.nodup_cons.mp (show(i :: slotsOf us).Nodup from nd)
      cases hp with
      | @cons _ o _ outs p1 p2 =>
        have go : ∀ u u', S1[i]? = some (some u) -> Ju u o = some u' -> wb us outs (S1.set i (some u')) = some S2 -> S2.length = S1.length /\ (∀ j, j ∉ i :: slotsOf us -> S2[j]? = S1[j]?) /\ ∀ j ∈ i :: slotsOf us, ∃ u u' o a, S1[j]? = some (some u) /\ Ju u o = some u' /\ S2[j]? = some (some u') /\ σ[j]? = some (some (.ref a)) /\ P a o := fun u u' e1 e2 hw => by
          obtain⟨l,out,pW⟩:=lO R P rs h2 hw Ge p2
          refine⟨by rw[l,List.length_set],fun j hj=>?_,fun j hj=>?_⟩
          . rw[out j fun z=>hj (List.mem_cons_of_mem _ z),List.getElem?_set_ne fun z=>hj (by rw[z];exact List.mem_cons_self)]
          . by_cases e:i=j
            . subst e
              exact⟨u,u',o,c,e1,e2,by rw[out i OJ];exact List.getElem?_set_self (List.getElem?_eq_some_iff.mp e1).1,hv,p1⟩
            . rcases List.mem_cons.mp hj with z | z
              . exact absurd z.symm e
              . obtain⟨w,w',o',a',q1,q2,q3,q4,q5⟩:=pW j z
                rw[List.getElem?_set_ne e] at q1
                exact⟨w,w',o',a',q1,q2,q3,q4,q5⟩
        unfold wb at hw
        split at hw
        . rename_i o' e;exact go _ _ e rfl hw
        . rename_i o' e;exact go _ _ e rfl hw
        . cases hw
end
theorem mZ {K : PySem.W.Frag} {B : Base} {S0 S S2 : SS} {σ : St} {F0 H0 F H F' H' : Hp} {vs : List V} {us ws : List U} {outs : List MO} (R : Rel K B S σ F H) (st : Step S0 S σ F0 H0 F H) (rr : Paired (fun v u => iU K B S σ H0 F H v u) vs us) (hr : bX S us = some ws) (hw : wb us outs S = some S2) (nd : (slotsOf us).Nodup) (p : Post F H F' H' (addrs vs ws) outs) :
    Rel K B S2 σ F' H'/\Step S0 S2 σ F0 H0 F' H'/\∀a,bY S2 σ a->bY S σ a:=by
  obtain⟨hl,out,pW⟩:=lO R (fun a o=>F' a=none/\At F' H' a o) rr hr hw nd p.out
  have UG:∀{u:U}{o:MO}{u':U},Ju u o=some u'->fj u=true/\fj u'=true/\Jv u'=some o:=fun {u o u'} h=>by cases u <;> cases h <;> exact⟨rfl,rfl,rfl⟩
  have orig:∀{j w},S2[j]? =some (some w)->fj w=true->∃w0,S[j]? =some (some w0)/\fj w0=true:=fun {j w} z hm=>by
    by_cases hj:j∈slotsOf us
    . obtain⟨u,u',o,a,q1,q2,q3,q4,q5⟩:=pW j hj
      exact⟨u,q1,(UG q2).1⟩
    . rw[out j hj] at z;exact⟨w,z,hm⟩
  have mu:∀a,bY S2 σ a->bY S σ a:=fun a ⟨j,w,z,hm,hv⟩=>let⟨w0,q,n⟩:=orig z hm;⟨j,w0,q,n,hv⟩
  have yZ:=nF R rr hr
  refine⟨⟨p.sub,by rw[hl];exact R.len,fun j w z=>?_,fun j k w1 w2 c z1 m1 z2 m2=>?_,fun j o a z hv=>?_,fun j o a z hv=>?_,fun j a z=>?_,?_⟩,⟨⟨?_,?_,?_,?_,fun b o u z=>p.ext.iI b o u (st.ext.iI b o u z)⟩,fun a m=>st.mu a (mu a m),fun j u z=>?_⟩,mu⟩
  . by_cases hj:j∈slotsOf us
    . obtain⟨u,u',o,a,q1,q2,q3,q4,q5,q6⟩:=pW j hj
      rw[q3] at z
      cases z
      refine⟨.ref a,q4,?_⟩
      cases u <;> cases q2
      . exact⟨a,rfl,q5,q6⟩
      . exact⟨a,rfl,q5,q6⟩
    . rw[out j hj] at z
      obtain⟨v,h1,h2⟩:=R.rep j w z
      refine⟨v,h1,h2.le p.ext.le p.ext.iI fun a hm ha=>?_⟩
      have hna:a∉addrs vs ws:=fun hc=>by
        rcases yZ a hc with⟨i,u,q0,q1,q2,q3⟩ | ⟨_,_,_,q⟩
        . have:=R.vF i j u w a q1 q2 z hm q3 (by rw[h1,ha])
          subst this
          exact hj q0
        . exact q ⟨j,w,z,hm,by rw[h1,ha]⟩
      obtain⟨c,o,e,f,_,k⟩:=h2.bY hm
      rw[ha] at e
      cases e
      obtain⟨ho,hh⟩:=k.has
      exact⟨fun o q=>p.ext.keep a o q hna,p.ext.gM a ho hh hna f⟩
  . obtain⟨OG,q1,n1⟩:=orig z1 m1
    obtain⟨OH,q2,n2⟩:=orig z2 m2
    exact R.vF j k OG OH c q1 n1 q2 n2
  . by_cases hj:j∈slotsOf us
    . obtain⟨u,u',o',a',q1,q2,q3,q4,q5⟩:=pW j hj
      rw[q3] at z
      cases z
      cases u <;> cases q2
      exact R.own j _ a q1 hv
    . rw[out j hj] at z;exact R.own j o a z hv
  . by_cases hj:j∈slotsOf us
    . obtain⟨u,u',o',a',q1,q2,q3,q4,q5⟩:=pW j hj
      rw[q3] at z
      cases z
      cases u <;> cases q2
      exact R.bor j _ a q1 hv
    . rw[out j hj] at z;exact R.bor j o a z hv
  . obtain⟨k1,o,k2⟩:=R.par j a z
    refine⟨k1,?_⟩
    by_cases hj:j∈slotsOf us
    . obtain⟨u,u',o',a',q1,q2,q3,q4,q5⟩:=pW j hj
      rw[k2] at q1
      cases q1
      cases q2
      exact⟨_,q3⟩
    . exact⟨o,by rw[out j hj];exact k2⟩
  . refine R.ext.trans p.ext fun b hb=>?_
    rcases yZ b hb with⟨i,u,q0,q1,q2,q3⟩ | ⟨_,_,q,_⟩
    . cases u with
      | t d=>cases q2
      | v d=>cases q2
      | s d=>cases q2
      | f d=>cases q2
      | m o=>exact .inr (R.own i o b q1 q3)
      | b o=>exact .inl (R.bor i o b q1 q3)
    . exact .inr q
  . exact fun b o h=>p.ext.le b o (st.ext.le b o h)
  . intro b o h n
    refine p.ext.keep b o (st.ext.keep b o h n) fun hb=>?_
    rcases yZ b hb with⟨i,u,q0,q1,q2,q3⟩ | ⟨_,q,_⟩
    . exact n (st.mu b ⟨i,u,q1,q2,q3⟩)
    . rw[h] at q;cases q
  . intro b o h n f
    refine p.ext.gM b o (st.ext.keep b o h n) (fun hb=>?_) (st.ext.gM b o h n f)
    rcases yZ b hb with⟨i,u,q0,q1,q2,q3⟩ | ⟨_,q,_⟩
    . exact n (st.mu b ⟨i,u,q1,q2,q3⟩)
    . rw[h] at q;cases q
  . intro b o h
    obtain⟨o',h'⟩:=st.ext.there b o h
    exact p.ext.there b o' h'
  . obtain⟨u',h'⟩:=st.slots j u z
    by_cases hj:j∈slotsOf us
    . obtain⟨_,u2,_,_,_,_,q3,_⟩:=pW j hj
      exact⟨u2,q3⟩
    . exact⟨u',by rw[out j hj];exact h'⟩
section
variable {X:Cx}{e:Expr}{es:List Expr}{gu:GU}{x:Str}{p pos:Pos}{f:FM}{fa:Addr}{fd:FuncData}{ps:List Str}{k n:Nat}
theorem aX (F:cJ X.prog X.w X.K X.mg X.base jz k fa fd ps (spT X.K n f)) (hr:jG k X.A) (hg:Gl X x) (hm:X.mg x=some (.ref fa)) (hk:PySem.W.keepIn X.K (.ref fa)=true) (hb:Binds X.K fd ps []) (ha:JU X (e :: es) gu) (hn:(e :: es).length=n:=by rfl)
  (hdb:(x == ("__debug__":Str))=false:=by decide) (he:starEach (e :: es) X.env=(false,eval e X.env) :: starEach es X.env:=by rfl) (hpl:(backTo pos (starEach es X.env)).any (·.1)=false:=by rfl):
  JE X (.Call (.Name x p) (e :: es) [] pos) (aR f gu):=⟨fun B=>(DQ F hr hg hm hk hb .nil KP (ha.h B) hdb he hpl).imp fun σ H Q ⟨S,F0,u,S',R,hg,q⟩=>by
 obtain⟨⟨us,S1⟩,h1,hg⟩:=aj hg
 dsimp only at hg
 split at hg
 ·rename_i hc
  obtain⟨ws,h2,hg⟩:=aj hg
  obtain⟨⟨r,outs⟩,h3,hg⟩:=aj hg
  obtain⟨S2,h4,hg⟩:=aE hg
  cases hg
  refine⟨S,F0,us,S1,R,h1,fun vs F1 H1 R1 st1 rr=>?_⟩
  show spT X.K n f (vs++[]) H1 Q E0
  rw[List.append_nil]
  have hlen:vs.length=n:=by rw[rr.length,ha.len _ _ _ h1];exact hn
  refine⟨hlen,F1,ws,r,outs,R1.sub,pX R1 rr h2,dY R1 rr h2 hc.1 hc.2,h3,fun v F2 H2 po rn=>?_⟩
  obtain⟨R2,st2,mu⟩:=mZ R1 st1 rr h2 h4 hc.1 po
  refine q v F2 H2 R2 st2 ?_
  cases r with
  | t d=>exact rn
  | b o=>cases rn
  | v i=>cases rn
  | s i=>cases rn
  | f i=>cases rn
  | m o=>
   obtain⟨a,e,h0,f,h⟩:=rn
   refine⟨a,e,none_of st1.ext.there h0,f,h,fun m=>?_,none_of R1.ext.there h0⟩
   obtain⟨o',ho⟩:=R1.has (mu a m)
   rw[h0] at ho
   cases ho
 ·cases hg⟩
end
noncomputable def aP:List U->SS->Option (List MO)
 | [],_=>some []
 | .b _ :: us,some (.b o) :: S=>(aP us S).map fun os=>o :: os
 | .b _ :: _,_=>none
 | _ :: us,_ :: S=>aP us S
 | _ :: _,[]=>none
noncomputable def bM (n:Nat) (g:GS):FM:=fun us=>(g (us.map some++List.replicate (n - us.length) none)).bind fun o=>match o with
 | .rt (.t d) S=>(aP us S).map fun os=>(.t d,os)
 | .rt (.m o) S=>(aP us S).map fun os=>(.m o,os)
 | .nx S=>(aP us S).map fun os=>(.t .dg,os)
 | _=>none
noncomputable def lent:List V->List U->List (Option Addr)
 | .ref a :: vs,.b _ :: us=>some a :: lent vs us
 | _ :: vs,_ :: us=>none :: lent vs us
 | _,_=>[]
theorem kQ:∀(vs:List V) (us:List U) (a:Addr),some a∈lent vs us↔a∈addrs vs us
 | [],us,a=>by cases us <;> simp[lent,addrs]
 | v :: vs,[],a=>by cases v <;> simp[lent,addrs]
 | v :: vs,u :: us,a=>by
  have ih:=kQ vs us a
  cases v <;> cases u <;> simp[lent,addrs,ih]
theorem vK:∀{vs:List V}{us:List U}{i:Nat}{a:Addr},(lent vs us)[i]? =some (some a)->vs[i]? =some (.ref a)/\∃o,us[i]? =some (.b o)
 | [],us,i,a,h=>by cases us <;> simp[lent] at h
 | v :: vs,[],i,a,h=>by cases v <;> simp[lent] at h
 | v :: vs,u :: us,0,a,h=>by
  cases v <;> cases u <;> simp[lent] at h
  subst h
  exact⟨rfl,_,rfl⟩
 | v :: vs,u :: us,i+1,a,h=>by
  have h':(lent vs us)[i]? =some (some a):=by cases v <;> cases u <;> simpa[lent] using h
  simpa using vK h'
theorem uh {K:PySem.W.Frag}:∀{F H:Hp}{vs:List V}{us:List U}{i:Nat}{o:MO},Paired (B8 K F H) vs us->us[i]? =some (.b o)->∃a,vs[i]? =some (.ref a)/\(lent vs us)[i]? =some (some a)/\F a=none/\At F H a o
 | _,_,_,_,_,_,.nil,h=>by simp at h
 | _,_,_,_,0,o,@Paired.cons _ _ _ v u vs us r rs,h=>by
  simp at h
  subst h
  obtain⟨a,rfl,f,k⟩:=r
  exact⟨a,rfl,rfl,f,k⟩
 | _,_,_,_,i+1,o,@Paired.cons _ _ _ v u vs us r rs,h=>by
  obtain⟨a,h1,h2,h3⟩:=uh (i:=i) rs (by simpa using h)
  refine⟨a,by simpa using h1,?_,h3⟩
  cases v <;> cases u <;> simpa[lent] using h2
theorem sH : ∀ {vs : List V} {us : List U} {i j : Nat} {a : Addr}, (addrs vs us).Nodup -> (lent vs us)[i]? = some (some a) -> (lent vs us)[j]? = some (some a) -> i = j
  | [],us,i,j,a,_,h,_=>by cases us <;> simp[lent] at h
  | v :: vs,[],i,j,a,_,h,_=>by cases v <;> simp[lent] at h
  | v :: vs, u :: us, i, j, a, nd, h1, h2 => by
    have ih:∀{i j},(addrs vs us).Nodup->(lent vs us)[i]? =some (some a)->(lent vs us)[j]? =some (some a)->i=j:=fun {i j}=>sH (i:=i) (j:=j)
    by_cases OL:∃c o,v= .ref c/\u= .b o
    . obtain⟨c,o,rfl,rfl⟩:=OL
      obtain⟨n1,n2⟩:=List.nodup_cons.mp (show(c :: addrs vs us).Nodup from nd)
      cases i with
      | zero=>
        cases j with
        | zero=>rfl
        | succ j=>
          have e1:c=a:=by simpa[lent] using h1
          have e2:(lent vs us)[j]? =some (some a):=by simpa[lent] using h2
          subst e1
          exact absurd ((kQ vs us c).mp (List.mem_of_getElem? e2)) n1
      | succ i=>
        have e1:(lent vs us)[i]? =some (some a):=by simpa[lent] using h1
        cases j with
        | zero=>
          have e2:c=a:=by simpa[lent] using h2
          subst e2
          exact absurd ((kQ vs us c).mp (List.mem_of_getElem? e1)) n1
        | succ j=>exact congrArg Nat.succ (ih n2 e1 (by simpa[lent] using h2))
    . have e1:lent (v :: vs) (u :: us)=none :: lent vs us:=by cases v <;> cases u <;> first | rfl | exact absurd ⟨_,_,rfl,rfl⟩ OL
      have e2:addrs (v :: vs) (u :: us)=addrs vs us:=by cases v <;> cases u <;> first | rfl | exact absurd ⟨_,_,rfl,rfl⟩ OL
      rw[e1] at h1 h2
      rw[e2] at nd
      cases i with
      | zero=>simp at h1
      | succ i=>
        cases j with
        | zero=>simp at h2
        | succ j=>exact congrArg Nat.succ (ih nd (by simpa using h1) (by simpa using h2))
theorem m5 {α β:Type}{P:α->β->Prop}:∀{l:List α}{r:List β}{i:Nat}{y:β},Paired P l r->r[i]? =some y->∃x,l[i]? =some x/\P x y
 | _,_,_,_,.nil,h=>by simp at h
 | _,_,0,_,.cons p _,h=>by simp at h;subst h;exact⟨_,rfl,p⟩
 | _,_,i+1,_,.cons _ ps,h=>by
  obtain⟨x,h1,h2⟩:=m5 (i:=i) ps (by simpa using h)
  exact⟨x,by simpa using h1,h2⟩
theorem oJ {K:PySem.W.Frag}{F H:Hp}{vs:List V}{us:List U}{n:Nat}(sb:Sub F H) (ar:Paired (B8 K F H) vs us) (nd:(addrs vs us).Nodup) (N:List Str) (hN:N.length=n):
  Rel K ⟨lent vs us,F,H⟩ (us.map some++List.replicate (n - us.length) none) (start N vs) F H:=by
 have hl:vs.length=us.length:=ar.length
 have gS:∀{i:Nat}{u:U},(us.map some++List.replicate (n - us.length) none)[i]? =some (some u)->us[i]? =some u:=fun {i u} h=>by
  rw[List.getElem?_append] at h
  split at h
  ·rw[List.getElem?_map] at h
   obtain⟨w,h1,h2⟩:=aE h
   cases h2
   exact h1
  ·rw[List.getElem?_replicate] at h
   split at h <;> cases h
 have OM:∀{i:Nat}{v:V},vs[i]? =some v->(start N vs)[i]? =some (some v):=fun {i v} h=>by
  unfold start
  have hi:=(List.getElem?_eq_some_iff.mp h).1
  rw[List.getElem?_append_left (by simpa using hi),List.getElem?_map,h]
  rfl
 have vb:∀{i:Nat}{v w:V},vs[i]? =some v->(start N vs)[i]? =some (some w)->v=w:=fun {i v w} h k=>by
  rw[OM h] at k
  cases k
  rfl
 have D8:∀{i:Nat}{u:U},us[i]? =some u->fj u=true->∃o a,u= .b o/\vs[i]? =some (.ref a)/\(lent vs us)[i]? =some (some a)/\F a=none/\At F H a o:=fun {i u} h hm=>by
  obtain⟨v,h1,h2⟩:=m5 ar h
  cases u with
  | t d=>cases hm
  | v d=>cases hm
  | s d=>cases hm
  | f d=>cases hm
  | m o=>cases h2
  | b o=>obtain⟨a,k1,k2,k3,k4⟩:=uh ar h;exact⟨o,a,rfl,k1,k2,k3,k4⟩
 refine⟨sb,?_,fun i u h=>?_,fun i j u w a h1 m1 h2 m2 v1 v2=>?_,fun i o a h hv=>?_,fun i o a h hv=>?_,fun i a h=>?_,Ext.refl ..⟩
 ·unfold start;simp[hl,hN]
 ·obtain⟨v,h1,h2⟩:=m5 ar (gS h)
  refine⟨v,OM h1,?_⟩
  cases u with
  | t d=>exact h2
  | s d=>exact h2
  | f d=>exact h2
  | v d=>cases h2
  | m o=>cases h2
  | b o=>exact h2
 ·obtain⟨_,a1,_,k1,k2,_⟩:=D8 (gS h1) m1
  obtain⟨_,a2,_,l1,l2,_⟩:=D8 (gS h2) m2
  have e1:=vb k1 v1
  have e2:=vb l1 v2
  cases e1
  cases e2
  exact sH nd k2 l2
 ·obtain⟨_,_,e,_⟩:=D8 (gS h) rfl
  cases e
 ·obtain⟨_,a1,_,k1,k2,_⟩:=D8 (gS h) rfl
  have e1:=vb k1 hv
  cases e1
  exact List.mem_of_getElem? k2
 ·obtain⟨k1,o,k2⟩:=vK h
  refine⟨OM k1,o,?_⟩
  have hi:=(List.getElem?_eq_some_iff.mp k2).1
  rw[List.getElem?_append_left (by simpa using hi),List.getElem?_map,k2]
  rfl
theorem um {F' H' : Hp} : ∀ {vs : List V} {us : List U} {S : SS} {os : List MO}, aP us S = some os -> vs.length = us.length -> (∀ (i : Nat) (o : MO) (a : Addr), (lent vs us)[i]? = some (some a) -> S[i]? = some (some (.b o)) -> F' a = none /\ At F' H' a o) -> (∀ (i : Nat) (o : MO), us[i]? = some (.b o) -> ∃ a, vs[i]? = some (.ref a)) ->
    Paired (fun a o=>F' a=none/\At F' H' a o) (addrs vs us) os
  | [],[],S,os,h,_,_,_=>by cases S <;> (simp[aP] at h;subst h;exact .nil)
  | [],_ :: _,_,_,_,l,_,_=>by cases l
  | _ :: _,[],_,_,_,l,_,_=>by cases l
  | v :: vs, u :: us, S, os, h, l, k, kb => by
    have l':vs.length=us.length:=by simpa using l
    have kb':∀(i:Nat) (o:MO),us[i]? =some (.b o)->∃a,vs[i]? =some (.ref a):=fun i o z=>by simpa using kb (i+1) o (by simpa using z)
    by_cases hu:∃o,u= .b o
    . obtain⟨o,rfl⟩:=hu
      obtain⟨a,ha⟩:=kb 0 o rfl
      have ha:v= .ref a:=by simpa using ha
      subst ha
      cases S with
      | nil=>simp[aP] at h
      | cons s S=>
        cases s with
        | none=>simp[aP] at h
        | some s=>
          cases s with
          | b o'=>
            obtain⟨os',h1,h2⟩:=aE (show(aP us S).map (fun os=>o' :: os)=some os from h)
            subst h2
            exact .cons (k 0 o' a rfl rfl) (um h1 l' (fun i o a z1 z2=>k (i+1) o a (by simpa[lent] using z1) (by simpa using z2)) kb')
          | t d=>simp[aP] at h
          | m d=>simp[aP] at h
          | v d=>simp[aP] at h
          | s d=>simp[aP] at h
          | f d=>simp[aP] at h
    . cases S with
      | nil=>cases u <;> first | (simp[aP] at h;done) | exact absurd ⟨_,rfl⟩ hu
      | cons s S=>
        have h':aP us S=some os:=by cases u <;> first | exact absurd ⟨_,rfl⟩ hu | simpa[aP] using h
        have e2:addrs (v :: vs) (u :: us)=addrs vs us:=by cases v <;> cases u <;> first | rfl | exact absurd ⟨_,rfl⟩ hu
        have e1:lent (v :: vs) (u :: us)=none :: lent vs us:=by cases v <;> cases u <;> first | rfl | exact absurd ⟨_,rfl⟩ hu
        rw[e2]
        exact um h' l' (fun i o a z1 z2=>k (i+1) o a (by rw[e1];simpa using z1) (by simpa using z2)) kb'
theorem post_of {K:PySem.W.Frag}{F0 H:Hp}{vs:List V}{us:List U}(ar:Paired (B8 K F0 H) vs us) (S':SS) (σ':St) (F' H':Hp) (os:List MO) (R':Rel K ⟨lent vs us,F0,H⟩ S' σ' F' H') (ho':aP us S'=some os):Post F0 H F' H' (addrs vs us) os:=by
 refine⟨R'.sub,⟨R'.ext.le,fun b o z n=>R'.ext.keep b o z fun m=>n ((kQ vs us b).mp m),fun b o z n=>R'.ext.gM b o z fun m=>n ((kQ vs us b).mp m),R'.ext.there,R'.ext.iI⟩,um ho' ar.length (fun i o a z1 z2=>?_) fun i o z=>?_⟩
 ·obtain⟨k1,o2,k2⟩:=R'.par i a z1
  obtain⟨v,j1,j2⟩:=R'.rep i _ z2
  rw[k1] at j1
  cases j1
  obtain⟨c,e,f,k⟩:=j2
  cases e
  exact⟨f,k⟩
 ·obtain⟨a,h1,_⟩:=uh ar z
  exact⟨a,h1⟩
section
variable {P:Program}{w:World}{K:PySem.W.Frag}{mg:Str->Option Value}{base:Heap}
theorem wZ {x qual:Str}{st:Stmt}{f:Addr}{fd:FuncData}{N ps:List Str}{k:Nat}{fm:FM}{g:GS}(F:rE K x qual st f fd) (Sc:cA N ps (aT st))
  (hb:∀(cdv:Value) (A:Around) (outer:List Env) (s:Shared) (H:Hp) (E:XK),jG k (A.deeper (envOfC qual (aT st) s.heap.objs.size f cdv))->JB (xr jz P w K mg base N qual (aT st) f cdv A outer s H E).J7 (bU st) g)
  (hf:∀us r,fm us=some r->bM N.length g us=some r):cJ P w K mg base jz (k+1) f fd ps (spT K ps.length fm):=by
 refine F.ok Sc (fun vs H Q E h=>h.1) fun cdv A outer s H vs Q E hr h=>?_
 obtain⟨hlen,F0,us,r,outs,sb,ar,nd,hfm,q⟩:=h
 have hrun:=hf us (r,outs) hfm
 have J:=hb cdv A outer s H E hr
 refine⟨_,J.h ⟨lent vs us,F0,H⟩,?_⟩
 have R0:=oJ sb ar nd N rfl
 obtain⟨o,ho,hrun⟩:=aj hrun
 refine⟨_,F0,o,R0,ho,?_⟩
 have post:=post_of ar
 cases o with
 | bk S'=>cases hrun
 | ct S'=>cases hrun
 | nx S'=>
  obtain⟨os,h1,h2⟩:=aE (show(aP us S').map _=some (r,outs) from hrun)
  cases h2
  exact fun σ' F' H' R' le=>q .dg F' H' (post S' σ' F' H' outs R' h1) .dg
 | rt u S'=>
  cases u with
  | b o=>cases hrun
  | v i=>cases hrun
  | s i=>cases hrun
  | f i=>cases hrun
  | t d=>
   obtain⟨os,h1,h2⟩:=aE (show(aP us S').map _=some (r,outs) from hrun)
   cases h2
   exact fun v σ' F' H' R' le rr=>q v F' H' (post S' σ' F' H' outs R' h1) rr
  | m o=>
   obtain⟨os,h1,h2⟩:=aE (show(aP us S').map _=some (r,outs) from hrun)
   cases h2
   exact fun v σ' F' H' R' le rr=>q v F' H' (post S' σ' F' H' outs R' h1) (by obtain⟨a,e,h0,f,h,n,hB⟩:=rr;exact⟨a,e,hB,f,h⟩)
end
noncomputable def fW (S:SS) (i:Nat):Option U:=match S[i]? with
 | some (some (.t d))=>some (.t d)
 | some (some (.s d))=>some (.s d)
 | some (some (.f d))=>some (.f d)
 | some (some (.m _))=>some (.v i)
 | some (some (.b _))=>some (.v i)
 | _=>none
noncomputable def bS (S:SS):List Nat->Option (List U)
 | []=>some []
 | i :: cap=>(fW S i).bind fun u=>(bS S cap).map fun us=>u :: us
noncomputable def aV:GT:=fun S=>some (true,S)
noncomputable def br (cap:List Nat) (q:GT) (g:GD):List D->SS->List D->Option (List D×SS)
  | [],S,acc=>some (acc,S)
  | d :: ds, S, acc => (bS S cap).bind fun us =>
    if(slotsOf us).Nodup/\cB us<=1 then(bX S us).bind fun ws=>(q (some (.t d) :: ws.map some)).bind fun p=>
      if p.1 then(g p.2).bind fun r=>(aP (.t d :: ws) r.2).bind fun outs=>(wb us outs S).bind fun S'=>br cap q g ds S' (acc++[r.1])
      else(aP (.t d :: ws) p.2).bind fun outs=>(wb us outs S).bind fun S'=>br cap q g ds S' acc
    else none
noncomputable def bQ (cap:List Nat) (gi:GI) (q:GT) (g:GD):GE:=fun S=>(gi S).bind fun p=>if p.1.length<=100000 then(br cap q g p.1 p.2 []).map fun r=>(.m (.lst r.1),r.2) else none
structure MM (X:Cx) (es:List Expr) (q:GT):Prop where
 h:∀B,DZ X es (tQ X.K B q)
theorem cQ {X:Cx}:MM X [] aV:=⟨fun B pins s σ H Q I ⟨S,F,b,S',R,hg,q⟩=>by cases hg;exact yV pins s σ H Q I (q F H R (Step.refl ..))⟩
theorem xH {K:PySem.W.Frag}{B:Base}{S:SS}{σ:St}{F H:Hp}(R:Rel K B S σ F H):∀{cap:List Nat}{us:List U},bS S cap=some us->∃vs:List V,bN cap σ=vs.map some/\Paired (fun v u=>iU K B S σ H F H v u) vs us
  | [],us,h=>by cases h;exact⟨[],rfl,.nil⟩
  | i :: cap, us, h => by
    obtain⟨u,h1,h⟩:=aj h
    obtain⟨us',h2,h⟩:=aE h
    subst h
    obtain⟨vs,k1,k2⟩:=xH R h2
    have one:∀w,S[i]? =some (some w)->∃v,σ[i]? =some (some v)/\tZ K F H v w:=R.rep i
    unfold fW at h1
    have fin:∀v,σ[i]? =some (some v)->iU K B S σ H F H v u->∃vs:List V,bN (i :: cap) σ=vs.map some/\Paired (fun v u=>iU K B S σ H F H v u) vs (u :: us'):=fun v e r=>
      ⟨v :: vs,by show(σ[i]?).join :: bN cap σ=_;rw[e,k1];rfl,.cons r k2⟩
    split at h1
    . rename_i d e
      cases h1
      obtain⟨v,e1,r⟩:=one _ e
      exact fin v e1 r
    . rename_i d e
      cases h1
      obtain⟨v,e1,r⟩:=one _ e
      exact fin v e1 r
    . rename_i d e
      cases h1
      obtain⟨v,e1,r⟩:=one _ e
      exact fin v e1 r
    . rename_i o e
      cases h1
      obtain⟨v,e1,r⟩:=one _ e
      exact fin v e1 ⟨e1,_,e⟩
    . rename_i o e
      cases h1
      obtain⟨v,e1,r⟩:=one _ e
      exact fin v e1 ⟨e1,_,e⟩
    . cases h1
theorem qA {K:PySem.W.Frag}{B:Base}{S:SS}{σ:St}{F H:Hp}(R:Rel K B S σ F H) (d:D){us ws:List U}(h:bX S us=some ws):bX S (.t d :: us)=some (.t d :: ws):=by
 show(some (U.t d)).bind _=_
 show(bX S us).map _=_
 rw[h]
 rfl
theorem vL {K : PySem.W.Frag} {B : Base} {cap : List Nat} {gi : GI} {q : GT} {g : GD} {σ : St} {H : Hp} {Q : VK} (h : tE K B (bQ cap gi q g) σ H Q) : MI (SR K B gi) cap (fun σ H Q => ∃ B, tQ K B q σ H Q) (fun σ H Q => ∃ B, tD K B g σ H Q) σ H Q := by
  obtain⟨x,_⟩:∃x:Str,True:=⟨"",trivial⟩
  obtain⟨S,F,u,S',R,hg,k⟩:=h
  obtain⟨⟨ds,S1⟩,h1,hg⟩:=aj hg
  dsimp only at hg
  split at hg
  . rename_i hlen
    obtain⟨⟨res,Sf⟩,h2,hg⟩:=aE hg
    cases hg
    refine⟨S,F,ds,S1,R,h1,fun J F1 H1 R1 st1 w=>?_⟩
    refine⟨fun i m ys H'=>∃S2 F2 acc,Rel K B S2 σ F2 H'/\Step S S2 σ F H F2 H'/\(∀b o,F1 b=some o->F2 b=some o)/\bD F2 ys acc/\acc.length<=i/\i<=ds.length/\m=ds.length - i/\br cap q g (ds.drop i) S2 acc=some (res,Sf),
      ⟨_,S1,F1,[],R1,st1,fun _ _ z=>z,.nil,Nat.le_refl _,Nat.zero_le _,rfl,h2⟩,?_⟩
    rintro i m ys H' ⟨S2,F2,acc,R2,st2,le,ry,ha,hl,rfl,dI⟩
    refine⟨by rw[ry.length];exact Nat.lt_of_le_of_lt (Nat.le_trans ha (Nat.le_trans hl hlen)) (by decide),?_⟩
    have w':=w F2 H' le R2.sub i
    by_cases hlt:i < ds.length
    . have hd:ds[i]? =some ds[i]:=List.getElem?_eq_getElem hlt
      obtain⟨go,yl⟩:=w'.1 _ hd
      rw[List.drop_eq_getElem_cons hlt] at dI
      refine .inr ⟨go,fun xv H3 y=>?_⟩
      obtain⟨rfl,rx⟩:=yl xv H3 y
      obtain⟨us,e1,dI⟩:=aj dI
      skip
      split at dI
      . rename_i hnd
        obtain⟨ws,e2,dI⟩:=aj dI
        obtain⟨⟨bk,T1⟩,e3,dI⟩:=aj dI
        obtain⟨vs,k1,k2⟩:=xH R2 e1
        have rr:Paired (fun v u=>iU K B S2 σ H3 F2 H3 v u) (xv :: vs) (.t ds[i] :: us):=.cons rx k2
        have er:=qA R2 ds[i] e2
        have ar:=pX R2 rr er
        have nd:=dY R2 rr er hnd.1 hnd.2
        have R3:=oJ (n:=ws.length+1) R2.sub ar nd (List.replicate (ws.length+1) x) (by simp)
        have hvl:vs.length=ws.length:=by have:=ar.length;simpa using this
        have es:start (List.replicate (ws.length+1) x) (xv :: vs)=some xv :: bN cap σ:=by
          unfold start;rw[k1];simp[hvl]
        have eS:(U.t ds[i] :: ws).map some++List.replicate (ws.length+1 - (U.t ds[i] :: ws).length) none=some (U.t ds[i]) :: ws.map some:=by simp
        rw[es,eS] at R3
        have back:∀(T2:SS) (F3 H4:Hp) (outs:List MO) (S3:SS),Rel K ⟨lent (xv :: vs) (U.t ds[i] :: ws),F2,H3⟩ T2 (some xv :: bN cap σ) F3 H4->aP (U.t ds[i] :: ws) T2=some outs->wb us outs S2=some S3->Rel K B S3 σ F3 H4/\Step S S3 σ F H F3 H4/\(∀b o,F2 b=some o->F3 b=some o):=fun T2 F3 H4 outs S3 RT ho hw=>by
          have po:=post_of ar T2 _ F3 H4 outs RT ho
          obtain⟨Ra,An,_⟩:=mZ (S0:=S2) (F0:=F2) (H0:=H3) R2 (Step.refl ..) rr er (show wb (U.t ds[i] :: us) outs S2=some S3 by cases outs <;> exact hw) hnd.1 po
          exact⟨Ra,st2.trans An,An.ext.le⟩
        refine⟨_,_,F2,bk,T1,R3,e3,fun F3 H4 K8 ON=>?_⟩
        cases bk with
        | true=>
          obtain⟨⟨yd,T2⟩,e4,dI⟩:=aj (show(g T1).bind _=_ from dI)
          obtain⟨outs,e5,dI⟩:=aj dI
          obtain⟨S3,e6,dI⟩:=aj dI
          refine xA ⟨_,T1,F3,yd,T2,K8,e4,fun yv F4 H5 OO OP OQ=>?_⟩
          obtain⟨Ra,An,B9⟩:=back T2 F4 H5 outs S3 OO e5 e6
          refine⟨ds.length - (i+1),by omega,S3,F4,acc++[yd],Ra,An,fun b o z=>B9 b o (le b o z),(ry.le B9).append (.cons OQ .nil),by simp;omega,hlt,rfl,dI⟩
        | false=>
          obtain⟨outs,e5,dI⟩:=aj (show(aP (U.t ds[i] :: ws) T1).bind _=_ from dI)
          obtain⟨S3,e6,dI⟩:=aj dI
          obtain⟨Ra,An,B9⟩:=back T1 F3 H4 outs S3 K8 e5 e6
          exact xy ⟨ds.length - (i+1),by omega,S3,F3,acc,Ra,An,fun b o z=>B9 b o (le b o z),ry.le B9,by omega,hlt,rfl,dI⟩
      . cases dI
    . have e:i=ds.length:=by omega
      subst e
      rw[List.drop_length] at dI
      cases dI
      refine .inl ⟨w'.2 (Nat.le_refl _),fun p hp=>?_⟩
      have n:=gT.obj (F:=F2) hp (.lst ys)
      refine k (.ref p) F2 _ (R2.new n (R2.sub.same n.same)) (st2.trans n.step) ⟨p,rfl,none_of st2.ext.there hp,R2.sub.fresh hp,⟨ys,aU,ry⟩,fun m=>?_,none_of R2.ext.there hp⟩
      obtain⟨o,ho⟩:=R2.has m
      rw[hp] at ho
      cases ho
  . cases hg
theorem fM {X:Cx}{elt iter:Expr}{ifs:List Expr}{x:Str}{px pos:Pos}{scope:Scope}{cl:List (Str×Addr)}{bH:List Str}{cap:List Nat}{gi:GI}{q:GT}{g:GD}(T:gO X x bH cap scope cl) (hc:X.calm=true) (hi:JI X (.Name x px) iter gi)
  (ht:∀C s H fp,MM (cG X (x :: bH) scope cl C s H fp) ifs q) (he:∀C s H fp,JD (cG X (x :: bH) scope cl C s H fp) elt g)
  (hs:∀x,foldedSetIterable iter X.env x=pure x:=by intro _;rfl):JE X (.ListComp elt [⟨.Name x px,iter,ifs,0⟩] scope pos) (bQ cap gi q g):=⟨fun B=>by
 exact(BN (tc:=fun σ H Q=>∃B,tQ X.K B q σ H Q) (te:=fun σ H Q=>∃B,tD X.K B g σ H Q) T hc (hi.h B) (fun C s H fp pins s' σ H' Q I ⟨B',z⟩=>(ht C s H fp).h B' pins s' σ H' Q I z) (fun C s H fp pins s' σ H' Q I ⟨B',z⟩=>(he C s H fp).h B' pins s' σ H' Q I z) hs).imp fun σ H Q h=>vL h⟩
theorem nG {X:Cx}{elt iter:Expr}{ifs:List Expr}{x y:Str}{px pos py spos:Pos}{scope:Scope}{cl:List (Str×Addr)}{bH:List Str}{cap:List Nat}{gi:GI}{q:GT}{g:GD}{i:Nat}(hN:X.N.Nodup) (hy:X.N[i]? =some y) (hx:Loc X.env.scope y) (T:gO X x bH cap scope cl) (hc:X.calm=true) (hi:JI X (.Name x px) iter gi)
  (ht:∀C s H fp,MM (cG X (x :: bH) scope cl C s H fp) ifs q) (he:∀C s H fp,JD (cG X (x :: bH) scope cl C s H fp) elt g)
  (hsw:swapsWith (.ListComp elt [⟨.Name x px,iter,ifs,0⟩] scope pos) (some (.Name y py)) spos.line X.env=pure true:=by rfl) (hf:X.fn y=true\/X.env.scope.names.lookup y=some .local:=by first | exact .inl rfl | exact .inr rfl | assumption)
  (hs:∀x,foldedSetIterable iter X.env x=pure x:=by intro _;rfl):JS X (.Assign [.Name y py] (.ListComp elt [⟨.Name x px,iter,ifs,0⟩] scope pos) spos) (bJ i (bQ cap gi q g)):=⟨fun B=>
 (vD (tc:=fun σ H Q=>∃B,tQ X.K B q σ H Q) (te:=fun σ H Q=>∃B,tD X.K B g σ H Q) T hc (hi.h B) (fun C s H fp pins s' σ H' Q I ⟨B',z⟩=>(ht C s H fp).h B' pins s' σ H' Q I z) (fun C s H fp pins s' σ H' Q I ⟨B',z⟩=>(he C s H fp).h B' pins s' σ H' Q I z) hs hN hy hx hsw hf).imp fun D σ H h=>vL (yY h)⟩
mutual
noncomputable def uo:D->D->Bool
 | .dg,.dg=>true
 | .bl a,.bl b=>a == b
 | .int a,.int b=>a == b
 | .bl a,.int b=>(if a then 1 else 0) == b
 | .int a,.bl b=>a == (if b then 1 else 0)
 | .str a,.str b=>a == b
 | .tup a,.tup b=>m6 a b
 | .lst a,.lst b=>m6 a b
 | _,_=>false
noncomputable def m6:List D->List D->Bool
 | [],[]=>true
 | a :: as,b :: bs=>uo a b && m6 as bs
 | _,_=>false
end
mutual
noncomputable def fX:D->Nat
 | .tup ds=>gU ds+1
 | .lst ds=>gU ds+1
 | _=>0
noncomputable def gU:List D->Nat
 | []=>0
 | d :: ds=>max (fX d) (gU ds)
end
mutual
theorem gR:∀d:D,uo d d=true
 | .dg=>rfl
 | .bl a=>by simp[uo]
 | .int a=>by simp[uo]
 | .str a=>by simp[uo]
 | .tup a=>by unfold uo;exact jM a
 | .lst a=>by unfold uo;exact jM a
theorem jM:∀ds:List D,m6 ds ds=true
 | []=>rfl
 | d :: ds=>by unfold m6;rw[gR d,jM ds];rfl
end
noncomputable def kR (as bs:List D) (j:Nat):Bool:=match as[j]?,bs[j]? with
 | some a,some b=>uo a b
 | _,_=>true
theorem qC (n:Nat) (e:Nat->Bool):(List.range (n+1)).all e=(e 0 && (List.range n).all fun j=>e (j+1)):=by
 rw[List.range_succ_eq_map,List.all_cons,List.all_map]
 rfl
theorem kT:∀{as bs:List D},as.length≠bs.length->m6 as bs=false
 | [],[],h=>absurd rfl h
 | [],_ :: _,_=>rfl
 | _ :: _,[],_=>rfl
 | a :: as,b :: bs,h=>by
  unfold m6
  rw[kT (as:=as) (bs:=bs) (fun z=>h (by simp[z])),Bool.and_false]
theorem iX:∀{as bs:List D},as.length=bs.length->(List.range as.length).all (kR as bs)=m6 as bs
 | [],[],_=>rfl
 | [],_ :: _,h=>by cases h
 | _ :: _,[],h=>by cases h
 | a :: as,b :: bs,h=>by
  have h':as.length=bs.length:=by simpa using h
  show(List.range (as.length+1)).all _=_
  rw[qC]
  unfold m6
  have ih:=iX h'
  have e:(fun j=>kR (a :: as) (b :: bs) (j+1))=kR as bs:=by funext j;simp[kR]
  rw[e,ih]
  rfl
theorem D9 {F:Hp}{a:Addr}{vs ws:List V}(h:Rd F a (.lst vs)) (h':Rd F a (.lst ws)):vs=ws:=by
 rcases h with e1 | ⟨o,e1⟩ <;> rcases h' with e2 | ⟨o',e2⟩ <;> (rw[e1] at e2;cases e2) <;> rfl
mutual
theorem Rep.uniq {F:Hp}:∀{v:V}{d e:D},Rep F v d->Rep F v e->d=e
 | _,_,_,.dg,r=>by cases r;rfl
 | _,_,_,.bl b,r=>by cases r;rfl
 | _,_,_,.int b,r=>by cases r;rfl
 | _,_,_,.str b,r=>by cases r;rfl
 | _,_,_,.tup e1 r1,r=>by
  cases r with
  | tup e2 r2=>rw[e1] at e2;cases e2;rw[bD.uniq r1 r2]
  | lst e2 r2=>rcases e2 with e2 | ⟨o,e2⟩ <;> (rw[e1] at e2;cases e2)
 | _,_,_,.lst e1 r1,r=>by
  cases r with
  | tup e2 r2=>rcases e1 with e1 | ⟨o,e1⟩ <;> (rw[e1] at e2;cases e2)
  | lst e2 r2=>rcases e1 with e1 | ⟨o,e1⟩ <;> rcases e2 with e2 | ⟨o',e2⟩ <;> (rw[e1] at e2;cases e2) <;> rw[bD.uniq r1 r2]
theorem bD.uniq {F:Hp}:∀{vs:List V}{ds es:List D},bD F vs ds->bD F vs es->ds=es
 | _,_,_,.nil,r=>by cases r;rfl
 | _,_,_,.cons r1 s1,r=>by
  cases r with
  | cons r2 s2=>rw[Rep.uniq r1 r2,bD.uniq s1 s2]
end
section
variable {X:Cx}{pins:List (Addr×Obj)}{σ:St}{F H:Hp}{s:Shared}
theorem Sub.isTup (I:Inv X pins σ H s) (sb:Sub F H){a:Addr}{vs:List V}(h:F a=some (.tup vs)):∃its:List Value,Vals vs its/\s.heap.IsTuple a its.toArray:=by
 obtain⟨its,rv,p,_⟩:=I.tuple (.inl (Rd.of (sb a _ h)))
 exact⟨its,rv,p⟩
theorem Sub.ez (I:Inv X pins σ H s) (sb:Sub F H){a:Addr}{vs:List V}(h:Rd F a (.lst vs)):∃its:List Value,Vals vs its/\s.heap.IsList a its.toArray:=by
 obtain⟨its,rv,p,_⟩:=I.list (.inl (h.imp (sb a _) fun⟨o,z⟩=>⟨o,sb a _ z⟩))
 exact⟨its,rv,p.isList⟩
noncomputable def iz (A:Around) (s:Shared) (its bL:List Value) (ds es:List D):Prop:=∀j (h1:j < its.toArray.size) (h2:j < bL.toArray.size),SeqAt.EqAt A.in1 s its.toArray[j] bL.toArray[j] (kR ds es j)
theorem za {n m:Nat}(h:n=m) (e:Nat->Bool):((List.range (min n m)).all e && n == m)=(List.range n).all e:=by
 subst h;simp
theorem nH {A:Around}{ca cb:Addr}{eZ bL:List Value}{ds es:List D}(hu:A.units < cLine) (pa:s.heap.IsTuple ca eZ.toArray) (pb:s.heap.IsTuple cb bL.toArray) (la:eZ.length=ds.length) (lb:bL.length=es.length) (h:iz A s eZ bL ds es):
  SeqAt.RcAt A s (.ref ca) (.ref cb) (m6 ds es):=by
 have q:=SeqAt.RcAt.tuples (e:=kR ds es) pa pb hu h
 rw[List.size_toArray,List.size_toArray,la,lb] at q
 by_cases hl:ds.length=es.length
 ·rw[za hl,iX hl] at q;exact q
 ·rw[kT hl]
  have:(ds.length == es.length)=false:=by simpa using hl
  rw[this,Bool.and_false] at q
  exact q
theorem qD {A:Around}{ca cb:Addr}{eZ bL:List Value}{ds es:List D}(hu:A.units < cLine) (pa:s.heap.IsTuple ca eZ.toArray) (pb:s.heap.IsTuple cb bL.toArray) (la:eZ.length=ds.length) (lb:bL.length=es.length) (h:iz A s eZ bL ds es):
  SeqAt.RcNeAt A s (.ref ca) (.ref cb) (!m6 ds es):=by
 have q:=SeqAt.RcNeAt.tuples (e:=kR ds es) pa pb hu h
 rw[List.size_toArray,List.size_toArray,la,lb] at q
 by_cases hl:ds.length=es.length
 ·rw[za hl,iX hl] at q;exact q
 ·rw[kT hl]
  have:(ds.length == es.length)=false:=by simpa using hl
  rw[this,Bool.and_false] at q
  exact q
theorem pB {A:Around}{ca cb:Addr}{eZ bL:List Value}{ds es:List D}(hu:A.units < cLine) (pa:s.heap.IsList ca eZ.toArray) (pb:s.heap.IsList cb bL.toArray) (la:eZ.length=ds.length) (lb:bL.length=es.length) (h:iz A s eZ bL ds es):
  SeqAt.RcAt A s (.ref ca) (.ref cb) (m6 ds es):=by
 by_cases hl:ds.length=es.length
 ·have q:=SeqAt.RcAt.lists (e:=kR ds es) pa pb (by rw[List.size_toArray,List.size_toArray,la,lb];exact hl) hu h
  rw[List.size_toArray,la,iX hl] at q;exact q
 ·rw[kT hl]
  exact SeqAt.RcAt.lists_lengths pa pb (by rw[List.size_toArray,List.size_toArray,la,lb];simpa using hl) hu
theorem rM {A:Around}{ca cb:Addr}{eZ bL:List Value}{ds es:List D}(hu:A.units < cLine) (pa:s.heap.IsList ca eZ.toArray) (pb:s.heap.IsList cb bL.toArray) (la:eZ.length=ds.length) (lb:bL.length=es.length) (h:iz A s eZ bL ds es):
  SeqAt.RcNeAt A s (.ref ca) (.ref cb) (!m6 ds es):=by
 by_cases hl:ds.length=es.length
 ·have q:=SeqAt.RcNeAt.lists (e:=kR ds es) pa pb (by rw[List.size_toArray,List.size_toArray,la,lb];exact hl) hu h
  rw[List.size_toArray,la,iX hl] at q;exact q
 ·rw[kT hl]
  exact SeqAt.RcNeAt.lists_lengths pa pb (by rw[List.size_toArray,List.size_toArray,la,lb];simpa using hl) hu
theorem cX {α:Type}(l:List α) (j:Nat) (h:j < l.toArray.size):l[j]? =some l.toArray[j]:=by
 have z:j < l.length:=by simpa using h
 simp[z]
mutual
theorem K9 (I : Inv X pins σ H s) (sb : Sub F H) : ∀ (d : D) {e : D} {A : Around} {x y : V} {u w' : Value}, Rep F x d -> Rep F y e -> RelV x u -> RelV y w' -> A.units + fX d < cLine -> SeqAt.EqAt A s u w' (uo d e) := fun d {e A x y u w'} r1 r2 rx ry hu => by
  cases r1 with
  | dg=>
    cases rx
    cases r2 with
    | dg=>cases ry;exact SeqAt.EqAt.same _
    | bl b=>cases ry;exact SeqAt.EqAt.none_bool b
    | int b=>obtain⟨tb,rfl⟩:=ry;exact SeqAt.EqAt.none_int b tb
    | str b=>obtain⟨tb,rfl⟩:=ry;exact SeqAt.EqAt.none_str b tb
    | @tup cb kU jN eb rb=>cases ry;obtain⟨bL,iC,pb⟩:=sb.isTup I eb;exact SeqAt.EqAt.none_tuple pb (by omega)
    | @lst cb kU jN eb rb=>cases ry;obtain⟨bL,iC,pb⟩:=sb.ez I eb;exact SeqAt.EqAt.none_list pb (by omega)
  | bl a=>
    cases rx
    cases r2 with
    | dg=>cases ry;exact SeqAt.EqAt.bool_none a
    | bl b=>cases ry;exact SeqAt.EqAt.bool_bool a b
    | int b=>obtain⟨tb,rfl⟩:=ry;exact SeqAt.EqAt.bool_int a b tb
    | str b=>obtain⟨tb,rfl⟩:=ry;exact SeqAt.EqAt.bool_str a b tb
    | @tup cb kU jN eb rb=>cases ry;obtain⟨bL,iC,pb⟩:=sb.isTup I eb;exact SeqAt.EqAt.bool_tuple a pb (by omega)
    | @lst cb kU jN eb rb=>cases ry;obtain⟨bL,iC,pb⟩:=sb.ez I eb;exact SeqAt.EqAt.bool_list a pb (by omega)
  | int a=>
    obtain⟨ta,rfl⟩:=rx
    cases r2 with
    | dg=>cases ry;exact SeqAt.EqAt.int_none a ta
    | bl b=>cases ry;exact SeqAt.EqAt.int_bool a ta b
    | int b=>obtain⟨tb,rfl⟩:=ry;exact SeqAt.EqAt.int_int a ta b tb
    | str b=>obtain⟨tb,rfl⟩:=ry;exact SeqAt.EqAt.int_str a ta b tb
    | @tup cb kU jN eb rb=>cases ry;obtain⟨bL,iC,pb⟩:=sb.isTup I eb;exact SeqAt.EqAt.int_tuple a ta pb (by omega)
    | @lst cb kU jN eb rb=>cases ry;obtain⟨bL,iC,pb⟩:=sb.ez I eb;exact SeqAt.EqAt.int_list a ta pb (by omega)
  | str a=>
    obtain⟨ta,rfl⟩:=rx
    cases r2 with
    | dg=>cases ry;exact SeqAt.EqAt.str_none a ta
    | bl b=>cases ry;exact SeqAt.EqAt.str_bool a ta b
    | int b=>obtain⟨tb,rfl⟩:=ry;exact SeqAt.EqAt.str_int a ta b tb
    | str b=>obtain⟨tb,rfl⟩:=ry;exact SeqAt.EqAt.str_str a ta b tb
    | @tup cb kU jN eb rb=>cases ry;obtain⟨bL,iC,pb⟩:=sb.isTup I eb;exact SeqAt.EqAt.str_tuple a ta pb (by omega)
    | @lst cb kU jN eb rb=>cases ry;obtain⟨bL,iC,pb⟩:=sb.ez I eb;exact SeqAt.EqAt.str_list a ta pb (by omega)
  | @tup ca La mz ea ra=>
    cases rx;obtain⟨eZ,vM,pa⟩:=sb.isTup I ea
    cases r2 with
    | dg=>cases ry;exact SeqAt.EqAt.tuple_none pa (by omega)
    | bl b=>cases ry;exact SeqAt.EqAt.tuple_bool b pa (by omega)
    | int b=>obtain⟨tb,rfl⟩:=ry;exact SeqAt.EqAt.tuple_int b tb pa (by omega)
    | str b=>obtain⟨tb,rfl⟩:=ry;exact SeqAt.EqAt.tuple_str b tb pa (by omega)
    | @tup cb kU jN eb rb=>cases ry;obtain⟨bL,iC,pb⟩:=sb.isTup I eb;exact(by
      have hd:A.units+(gU mz+1) < cLine:=hu
      have items:iz A s eZ bL mz jN:=fun j h1 h2=>iY I sb mz (A:=A.in1) ra rb vM iC (by show A.units+1+gU mz < cLine;omega) (cX eZ j h1) (cX bL j h2)
      by_cases hc:ca=cb
      . subst hc
        rw[ea] at eb
        cases eb
        obtain rfl:=bD.uniq ra rb
        show SeqAt.EqAt A s _ _ (m6 mz mz)
        rw[jM]
        exact SeqAt.EqAt.same _
      . exact SeqAt.EqAt.of_refs hc (nH (by omega) pa pb (vM.length.symm.trans ra.length) (iC.length.symm.trans rb.length) items))
    | @lst cb kU jN eb rb=>cases ry;obtain⟨bL,iC,pb⟩:=sb.ez I eb;exact SeqAt.EqAt.tuple_list pa pb (by omega)
  | @lst ca La mz ea ra=>
    cases rx;obtain⟨eZ,vM,pa⟩:=sb.ez I ea
    cases r2 with
    | dg=>cases ry;exact SeqAt.EqAt.list_none pa (by omega)
    | bl b=>cases ry;exact SeqAt.EqAt.list_bool b pa (by omega)
    | int b=>obtain⟨tb,rfl⟩:=ry;exact SeqAt.EqAt.list_int b tb pa (by omega)
    | str b=>obtain⟨tb,rfl⟩:=ry;exact SeqAt.EqAt.list_str b tb pa (by omega)
    | @tup cb kU jN eb rb=>cases ry;obtain⟨bL,iC,pb⟩:=sb.isTup I eb;exact SeqAt.EqAt.list_tuple pa pb (by omega)
    | @lst cb kU jN eb rb=>cases ry;obtain⟨bL,iC,pb⟩:=sb.ez I eb;exact(by
      have hd:A.units+(gU mz+1) < cLine:=hu
      have items:iz A s eZ bL mz jN:=fun j h1 h2=>iY I sb mz (A:=A.in1) ra rb vM iC (by show A.units+1+gU mz < cLine;omega) (cX eZ j h1) (cX bL j h2)
      by_cases hc:ca=cb
      . subst hc
        obtain rfl:=D9 ea eb
        obtain rfl:=bD.uniq ra rb
        show SeqAt.EqAt A s _ _ (m6 mz mz)
        rw[jM]
        exact SeqAt.EqAt.same _
      . exact SeqAt.EqAt.of_refs hc (pB (by omega) pa pb (vM.length.symm.trans ra.length) (iC.length.symm.trans rb.length) items))
theorem iY (I : Inv X pins σ H s) (sb : Sub F H) : ∀ (ds : List D) {es : List D} {A : Around} {vs ws : List V} {us us' : List Value} {j : Nat} {u w' : Value}, bD F vs ds -> bD F ws es -> Vals vs us -> Vals ws us' -> A.units + gU ds < cLine -> us[j]? = some u -> us'[j]? = some w' -> SeqAt.EqAt A s u w' (kR ds es j) := fun ds {es A vs ws us us' j u w'} r1 r2 v1 v2 hu h1 h2 => by
  cases r1 with
  | nil=>cases v1;simp at h1
  | @cons v d vs ds r rs =>
    cases v1 with
    | cons q qs=>
      cases r2 with
      | nil=>cases v2;simp at h2
      | @cons w e ws es r' rs'=>
        cases v2 with
        | cons q' UH=>
          have hd:A.units+max (fX d) (gU ds) < cLine:=hu
          cases j with
          | zero=>
            simp at h1 h2
            subst h1 h2
            exact K9 I sb d r r' q q' (by omega)
          | succ j=>
            simp at h1 h2
            have:=iY I sb ds (A:=A) rs rs' qs UH (j:=j) (by omega) h1 h2
            simpa[kR] using this
end
end
section
variable {X:Cx}{pins:List (Addr×Obj)}{σ:St}{F H:Hp}{s:Shared}
theorem Lb (I:Inv X pins σ H s) (sb:Sub F H){d e:D}{A:Around}{x y:V}{u w':Value}(r1:Rep F x d) (r2:Rep F y e) (rx:RelV x u) (ry:RelV y w') (hu:A.units+fX d < cLine):SeqAt.RcAt A s u w' (uo d e):=by
 cases r1 with
 | dg=>
  cases rx
  cases r2 with
  | dg=>cases ry;exact SeqAt.RcAt.none_none
  | bl b=>cases ry;exact SeqAt.RcAt.none_bool b
  | int b=>obtain⟨tb,rfl⟩:=ry;exact SeqAt.RcAt.none_int b tb
  | str b=>obtain⟨tb,rfl⟩:=ry;exact SeqAt.RcAt.none_str b tb
  | @tup cb kU jN eb rb=>cases ry;obtain⟨bL,iC,pb⟩:=sb.isTup I eb;exact SeqAt.RcAt.none_tuple pb (by omega)
  | @lst cb kU jN eb rb=>cases ry;obtain⟨bL,iC,pb⟩:=sb.ez I eb;exact SeqAt.RcAt.none_list pb (by omega)
 | bl a=>
  cases rx
  cases r2 with
  | dg=>cases ry;exact SeqAt.RcAt.bool_none a
  | bl b=>cases ry;exact SeqAt.RcAt.bool_bool a b
  | int b=>obtain⟨tb,rfl⟩:=ry;exact SeqAt.RcAt.bool_int a b tb
  | str b=>obtain⟨tb,rfl⟩:=ry;exact SeqAt.RcAt.bool_str a b tb
  | @tup cb kU jN eb rb=>cases ry;obtain⟨bL,iC,pb⟩:=sb.isTup I eb;exact SeqAt.RcAt.bool_tuple a pb (by omega)
  | @lst cb kU jN eb rb=>cases ry;obtain⟨bL,iC,pb⟩:=sb.ez I eb;exact SeqAt.RcAt.bool_list a pb (by omega)
 | int a=>
  obtain⟨ta,rfl⟩:=rx
  cases r2 with
  | dg=>cases ry;exact SeqAt.RcAt.int_none a ta
  | bl b=>cases ry;exact SeqAt.RcAt.int_bool a ta b
  | int b=>obtain⟨tb,rfl⟩:=ry;exact SeqAt.RcAt.int_int a ta b tb
  | str b=>obtain⟨tb,rfl⟩:=ry;exact SeqAt.RcAt.int_str a ta b tb
  | @tup cb kU jN eb rb=>cases ry;obtain⟨bL,iC,pb⟩:=sb.isTup I eb;exact SeqAt.RcAt.int_tuple a ta pb (by omega)
  | @lst cb kU jN eb rb=>cases ry;obtain⟨bL,iC,pb⟩:=sb.ez I eb;exact SeqAt.RcAt.int_list a ta pb (by omega)
 | str a=>
  obtain⟨ta,rfl⟩:=rx
  cases r2 with
  | dg=>cases ry;exact SeqAt.RcAt.str_none a ta
  | bl b=>cases ry;exact SeqAt.RcAt.str_bool a ta b
  | int b=>obtain⟨tb,rfl⟩:=ry;exact SeqAt.RcAt.str_int a ta b tb
  | str b=>obtain⟨tb,rfl⟩:=ry;exact SeqAt.RcAt.str_str a ta b tb
  | @tup cb kU jN eb rb=>cases ry;obtain⟨bL,iC,pb⟩:=sb.isTup I eb;exact SeqAt.RcAt.str_tuple a ta pb (by omega)
  | @lst cb kU jN eb rb=>cases ry;obtain⟨bL,iC,pb⟩:=sb.ez I eb;exact SeqAt.RcAt.str_list a ta pb (by omega)
 | @tup ca La mz ea ra=>
  cases rx;obtain⟨eZ,vM,pa⟩:=sb.isTup I ea
  cases r2 with
  | dg=>cases ry;exact SeqAt.RcAt.tuple_none pa (by omega)
  | bl b=>cases ry;exact SeqAt.RcAt.tuple_bool b pa (by omega)
  | int b=>obtain⟨tb,rfl⟩:=ry;exact SeqAt.RcAt.tuple_int b tb pa (by omega)
  | str b=>obtain⟨tb,rfl⟩:=ry;exact SeqAt.RcAt.tuple_str b tb pa (by omega)
  | @tup cb kU jN eb rb=>cases ry;obtain⟨bL,iC,pb⟩:=sb.isTup I eb;exact(by
   have hd:A.units+(gU mz+1) < cLine:=hu
   have items:iz A s eZ bL mz jN:=fun j h1 h2=>iY I sb mz (A:=A.in1) ra rb vM iC (by show A.units+1+gU mz < cLine;omega) (cX eZ j h1) (cX bL j h2)
   exact nH (by omega) pa pb (vM.length.symm.trans ra.length) (iC.length.symm.trans rb.length) items)
  | @lst cb kU jN eb rb=>cases ry;obtain⟨bL,iC,pb⟩:=sb.ez I eb;exact SeqAt.RcAt.tuple_list pa pb (by omega)
 | @lst ca La mz ea ra=>
  cases rx;obtain⟨eZ,vM,pa⟩:=sb.ez I ea
  cases r2 with
  | dg=>cases ry;exact SeqAt.RcAt.list_none pa (by omega)
  | bl b=>cases ry;exact SeqAt.RcAt.list_bool b pa (by omega)
  | int b=>obtain⟨tb,rfl⟩:=ry;exact SeqAt.RcAt.list_int b tb pa (by omega)
  | str b=>obtain⟨tb,rfl⟩:=ry;exact SeqAt.RcAt.list_str b tb pa (by omega)
  | @tup cb kU jN eb rb=>cases ry;obtain⟨bL,iC,pb⟩:=sb.isTup I eb;exact SeqAt.RcAt.list_tuple pa pb (by omega)
  | @lst cb kU jN eb rb=>cases ry;obtain⟨bL,iC,pb⟩:=sb.ez I eb;exact(by
   have hd:A.units+(gU mz+1) < cLine:=hu
   have items:iz A s eZ bL mz jN:=fun j h1 h2=>iY I sb mz (A:=A.in1) ra rb vM iC (by show A.units+1+gU mz < cLine;omega) (cX eZ j h1) (cX bL j h2)
   exact pB (by omega) pa pb (vM.length.symm.trans ra.length) (iC.length.symm.trans rb.length) items)
theorem Ea (I:Inv X pins σ H s) (sb:Sub F H){d e:D}{A:Around}{x y:V}{u w':Value}(r1:Rep F x d) (r2:Rep F y e) (rx:RelV x u) (ry:RelV y w') (hu:A.units+fX d < cLine):SeqAt.RcNeAt A s u w' (!uo d e):=by
 cases r1 with
 | dg=>
  cases rx
  cases r2 with
  | dg=>cases ry;exact SeqAt.RcNeAt.none_none
  | bl b=>cases ry;exact SeqAt.RcNeAt.none_bool b
  | int b=>obtain⟨tb,rfl⟩:=ry;exact SeqAt.RcNeAt.none_int b tb
  | str b=>obtain⟨tb,rfl⟩:=ry;exact SeqAt.RcNeAt.none_str b tb
  | @tup cb kU jN eb rb=>cases ry;obtain⟨bL,iC,pb⟩:=sb.isTup I eb;exact SeqAt.RcNeAt.none_tuple pb (by omega)
  | @lst cb kU jN eb rb=>cases ry;obtain⟨bL,iC,pb⟩:=sb.ez I eb;exact SeqAt.RcNeAt.none_list pb (by omega)
 | bl a=>
  cases rx
  cases r2 with
  | dg=>cases ry;exact SeqAt.RcNeAt.bool_none a
  | bl b=>cases ry;exact SeqAt.RcNeAt.bool_bool a b
  | int b=>obtain⟨tb,rfl⟩:=ry;exact SeqAt.RcNeAt.bool_int a b tb
  | str b=>obtain⟨tb,rfl⟩:=ry;exact SeqAt.RcNeAt.bool_str a b tb
  | @tup cb kU jN eb rb=>cases ry;obtain⟨bL,iC,pb⟩:=sb.isTup I eb;exact SeqAt.RcNeAt.bool_tuple a pb (by omega)
  | @lst cb kU jN eb rb=>cases ry;obtain⟨bL,iC,pb⟩:=sb.ez I eb;exact SeqAt.RcNeAt.bool_list a pb (by omega)
 | int a=>
  obtain⟨ta,rfl⟩:=rx
  cases r2 with
  | dg=>cases ry;exact SeqAt.RcNeAt.int_none a ta
  | bl b=>cases ry;exact SeqAt.RcNeAt.int_bool a ta b
  | int b=>obtain⟨tb,rfl⟩:=ry;exact SeqAt.RcNeAt.int_int a ta b tb
  | str b=>obtain⟨tb,rfl⟩:=ry;exact SeqAt.RcNeAt.int_str a ta b tb
  | @tup cb kU jN eb rb=>cases ry;obtain⟨bL,iC,pb⟩:=sb.isTup I eb;exact SeqAt.RcNeAt.int_tuple a ta pb (by omega)
  | @lst cb kU jN eb rb=>cases ry;obtain⟨bL,iC,pb⟩:=sb.ez I eb;exact SeqAt.RcNeAt.int_list a ta pb (by omega)
 | str a=>
  obtain⟨ta,rfl⟩:=rx
  cases r2 with
  | dg=>cases ry;exact SeqAt.RcNeAt.str_none a ta
  | bl b=>cases ry;exact SeqAt.RcNeAt.str_bool a ta b
  | int b=>obtain⟨tb,rfl⟩:=ry;exact SeqAt.RcNeAt.str_int a ta b tb
  | str b=>obtain⟨tb,rfl⟩:=ry;exact SeqAt.RcNeAt.str_str a ta b tb
  | @tup cb kU jN eb rb=>cases ry;obtain⟨bL,iC,pb⟩:=sb.isTup I eb;exact SeqAt.RcNeAt.str_tuple a ta pb (by omega)
  | @lst cb kU jN eb rb=>cases ry;obtain⟨bL,iC,pb⟩:=sb.ez I eb;exact SeqAt.RcNeAt.str_list a ta pb (by omega)
 | @tup ca La mz ea ra=>
  cases rx;obtain⟨eZ,vM,pa⟩:=sb.isTup I ea
  cases r2 with
  | dg=>cases ry;exact SeqAt.RcNeAt.tuple_none pa (by omega)
  | bl b=>cases ry;exact SeqAt.RcNeAt.tuple_bool b pa (by omega)
  | int b=>obtain⟨tb,rfl⟩:=ry;exact SeqAt.RcNeAt.tuple_int b tb pa (by omega)
  | str b=>obtain⟨tb,rfl⟩:=ry;exact SeqAt.RcNeAt.tuple_str b tb pa (by omega)
  | @tup cb kU jN eb rb=>cases ry;obtain⟨bL,iC,pb⟩:=sb.isTup I eb;exact(by
   have hd:A.units+(gU mz+1) < cLine:=hu
   have items:iz A s eZ bL mz jN:=fun j h1 h2=>iY I sb mz (A:=A.in1) ra rb vM iC (by show A.units+1+gU mz < cLine;omega) (cX eZ j h1) (cX bL j h2)
   exact qD (by omega) pa pb (vM.length.symm.trans ra.length) (iC.length.symm.trans rb.length) items)
  | @lst cb kU jN eb rb=>cases ry;obtain⟨bL,iC,pb⟩:=sb.ez I eb;exact SeqAt.RcNeAt.tuple_list pa pb (by omega)
 | @lst ca La mz ea ra=>
  cases rx;obtain⟨eZ,vM,pa⟩:=sb.ez I ea
  cases r2 with
  | dg=>cases ry;exact SeqAt.RcNeAt.list_none pa (by omega)
  | bl b=>cases ry;exact SeqAt.RcNeAt.list_bool b pa (by omega)
  | int b=>obtain⟨tb,rfl⟩:=ry;exact SeqAt.RcNeAt.list_int b tb pa (by omega)
  | str b=>obtain⟨tb,rfl⟩:=ry;exact SeqAt.RcNeAt.list_str b tb pa (by omega)
  | @tup cb kU jN eb rb=>cases ry;obtain⟨bL,iC,pb⟩:=sb.isTup I eb;exact SeqAt.RcNeAt.list_tuple pa pb (by omega)
  | @lst cb kU jN eb rb=>cases ry;obtain⟨bL,iC,pb⟩:=sb.ez I eb;exact(by
   have hd:A.units+(gU mz+1) < cLine:=hu
   have items:iz A s eZ bL mz jN:=fun j h1 h2=>iY I sb mz (A:=A.in1) ra rb vM iC (by show A.units+1+gU mz < cLine;omega) (cX eZ j h1) (cX bL j h2)
   exact rM (by omega) pa pb (vM.length.symm.trans ra.length) (iC.length.symm.trans rb.length) items)
noncomputable def w4:List D->Option U
 | [a,b]=>if fX a<=40 then some (.t (.bl (uo a b))) else none
 | _=>none
noncomputable def zb:List D->Option U
 | [a,b]=>if fX a<=40 then some (.t (.bl (!uo a b))) else none
 | _=>none
theorem kW (hu:X.A.units+64 < cLine):wY X (compareOp .Eq) w4:=by
 intro pins s σ H x y v u Q I rx ry ⟨F,ds,w,sb,rs,hw,q⟩
 obtain⟨d,e,rfl,r1,r2⟩:=qx rs
 obtain⟨hd,rfl⟩:=dj (show(if fX d<=40 then some (U.t (.bl (uo d e))) else none)=some w from hw)
 exact Lb I sb r1 r2 rx ry (by omega) _ _ _ _ ⟨.bl _,H,I,rfl,q _ F H (gT.refl ..) sb (.bl _)⟩
theorem kX (hu:X.A.units+64 < cLine):wY X (compareOp .NotEq) zb:=by
 intro pins s σ H x y v u Q I rx ry ⟨F,ds,w,sb,rs,hw,q⟩
 obtain⟨d,e,rfl,r1,r2⟩:=qx rs
 obtain⟨hd,rfl⟩:=dj (show(if fX d<=40 then some (U.t (.bl (!uo d e))) else none)=some w from hw)
 exact Ea I sb r1 r2 rx ry (by omega) _ _ _ _ ⟨.bl _,H,I,rfl,q _ F H (gT.refl ..) sb (.bl _)⟩
end
section
variable {X:Cx}{pins:List (Addr×Obj)}{σ:St}{F H:Hp}{s:Shared}
end
section
variable {X:Cx}{a b c e:Expr}{es:List Expr}{pos p p2 px:Pos}{x y:Str}{g ga gb gc:GD}{gA:GA}
noncomputable def Ca:List D->Option (List Bool)
 | []=>some []
 | .bl b :: ds=>(Ca ds).map fun bs=>b :: bs
 | _=>none
noncomputable def UI:List D->Option U
 | [.lst ds]=>(Ca ds).map fun bs=>.t (.bl (bs.all id))
 | _=>none
theorem uq {P:D->Prop}{F:Hp}{xs:List V}{ds:List D}{f:List D->Option U}{w':U}(rs:bD F xs ds) (h:f ds=some w') (hn:f []=none) (h2:∀a b r,f (a :: b :: r)=none):∃x d,xs=[x]/\ds=[d]/\Rep F x d:=by
 cases rs with
 | nil=>rw[hn] at h;cases h
 | cons r rs=>
  cases rs with
  | nil=>exact⟨_,_,rfl,rfl,r⟩
  | cons _ _=>rw[h2] at h;cases h
noncomputable def vN:List D->Option U
 | [.tup ds]=>some (.m (.lst ds))
 | [.lst ds]=>some (.m (.lst ds))
 | _=>none
noncomputable def cE:List D->Option U
 | [.tup ds]=>some (.t (.tup ds))
 | [.lst ds]=>some (.t (.tup ds))
 | _=>none
theorem xJ:jm X (.type "list") (rP vN):=by
 intro pins s σ H xs us Q I r ⟨F,ds,w,sb,rs,hw,q⟩
 obtain⟨x,d,rfl,rfl,r1⟩:=uq (P:=fun _=>True) rs hw rfl (fun d _ _=>by cases d <;> rfl)
 cases d <;> try (simp[vN] at hw;done)
 ·cases hw
  obtain⟨a,vs,rfl,fa,ha,mq⟩:=sb.iV r1
  exact nB pins s σ H _ us Q I r ⟨a,vs,rfl,.inr (.inl ha),fun p hp=>q _ F _ (gT.obj hp _) (sb.same (gT.obj (F:=F) hp _).same) ⟨p,rfl,hp,sb.fresh hp,vs,aU,mq⟩⟩
 ·cases hw
  obtain⟨a,vs,rfl,fa,ha,mq⟩:=sb.jq r1
  exact nB pins s σ H _ us Q I r ⟨a,vs,rfl,.inl (.inl ha),fun p hp=>q _ F _ (gT.obj hp _) (sb.same (gT.obj (F:=F) hp _).same) ⟨p,rfl,hp,sb.fresh hp,vs,aU,mq⟩⟩
theorem dm:jm X (.type "tuple") (rP cE):=by
 intro pins s σ H xs us Q I r ⟨F,ds,w,sb,rs,hw,q⟩
 obtain⟨x,d,rfl,rfl,r1⟩:=uq (P:=fun _=>True) rs hw rfl (fun d _ _=>by cases d <;> rfl)
 cases d <;> try (simp[cE] at hw;done)
 ·cases hw
  have r0:=r1
  obtain⟨a,vs,rfl,fa,ha,mq⟩:=sb.iV r1
  exact mG pins s σ H _ us Q I r ⟨a,vs,rfl,.inr ⟨.inl ha,q _ F H (gT.refl ..) sb r0⟩⟩
 ·cases hw
  obtain⟨a,vs,rfl,fa,ha,mq⟩:=sb.jq r1
  exact mG pins s σ H _ us Q I r ⟨a,vs,rfl,.inl ⟨.inl ha,fun p hp=>q _ _ _ (gT.root sb hp _) (sb.mW hp) (.tup aU (mq.le (j6 (sb.fresh hp))))⟩⟩
end
theorem kN.ky {H:Hp}{a:Addr}{kvs:List (Key×V)}{y:V}{k:Key}(e:H a=some (.dK kvs)) (h:Hf y k):kN H a y (mS kvs k):=.inl ⟨kvs,k,.inl e,h,rfl⟩
theorem vq.ky {H:Hp}{a:Addr}{kvs:List (Key×V)}{y:V}{k:Key}{v:V}(e:H a=some (.dK kvs)) (h:Hf y k) (hl:kvs.length < sizeLine):vq H a y v (upd H a (.dK (putK kvs k v))):=.inl ⟨kvs,k,e,h,hl,rfl⟩
noncomputable def keyOf:D->Option Key
 | .bl b=>some (.inl (bI b))
 | .int i=>some (.inl i)
 | .str z=>some (.inr z)
 | _=>none
theorem jO {F:Hp}{v:V}{d:D}{k:Key}(r:Rep F v d) (h:keyOf d=some k):Hf v k:=by
 cases r <;> cases h <;> first | exact .inl rfl | exact .inr ⟨_,rfl,rfl⟩
noncomputable def bA {κ:Type} [DecidableEq κ] (kvs:List (κ×D)) (k:κ):Option D:=(kvs.find? fun kv=>decide (kv.1=k)).map (·.2)
noncomputable def putD {κ:Type} [DecidableEq κ] (kvs:List (κ×D)) (k:κ) (d:D):List (κ×D):=
 if(kvs.any fun kv=>decide (kv.1=k))=true then kvs.map (fun kv=>if kv.1=k then(kv.1,d) else kv) else kvs++[(k,d)]
theorem lP {κ:Type} [DecidableEq κ] {F:Hp}{k:κ}{d:D}:∀{ws:List (κ×V)}{kvs:List (κ×D)},Paired (iL F) ws kvs->bA kvs k=some d->∃v,mS ws k=some v/\Rep F v d
 | _,_,.nil,h=>by cases h
 | _,_,@Paired.cons _ _ _ p q ws kvs r rs,h=>by
  by_cases e:q.1=k
  ·have e':p.1=k:=r.1.trans e
   refine⟨p.2,nu e',?_⟩
   have:bA (q :: kvs) k=some q.2:=by simp[bA,List.find?_cons,e]
   rw[this] at h
   cases h
   exact r.2
  ·have e':¬p.1=k:=fun z=>e (r.1.symm.trans z)
   have:bA (q :: kvs) k=bA kvs k:=by simp[bA,List.find?_cons,e]
   rw[this] at h
   obtain⟨v,h1,h2⟩:=lP rs h
   exact⟨v,by rw[kM e'];exact h1,h2⟩
theorem sI {κ:Type} [DecidableEq κ] {F:Hp}{k:κ}:∀{ws:List (κ×V)}{kvs:List (κ×D)},Paired (iL F) ws kvs->bA kvs k=none->mS ws k=none
 | _,_,.nil,h=>rfl
 | _,_,@Paired.cons _ _ _ p q ws kvs r rs,h=>by
  by_cases e:q.1=k
  ·have:bA (q :: kvs) k=some q.2:=by simp[bA,List.find?_cons,e]
   rw[this] at h
   cases h
  ·have e':¬p.1=k:=fun z=>e (r.1.symm.trans z)
   have:bA (q :: kvs) k=bA kvs k:=by simp[bA,List.find?_cons,e]
   rw[this] at h
   rw[kM e']
   exact sI rs h
theorem vO {κ:Type} [DecidableEq κ] {F:Hp}{k:κ}:∀{ws:List (κ×V)}{kvs:List (κ×D)},Paired (iL F) ws kvs->(ws.any fun kv=>decide (kv.1=k))=(kvs.any fun kv=>decide (kv.1=k))
 | _,_,.nil=>rfl
 | _,_,.cons r rs=>by rw[List.any_cons,List.any_cons,vO rs,r.1]
theorem vP {κ:Type} [DecidableEq κ] {F:Hp}{k:κ}{v:V}{d:D}(r:Rep F v d):∀{ws:List (κ×V)}{kvs:List (κ×D)},Paired (iL F) ws kvs->Paired (iL F) (ws.map fun kv=>if kv.1=k then(kv.1,v) else kv) (kvs.map fun kv=>if kv.1=k then(kv.1,d) else kv)
 | _,_,.nil=>.nil
 | _,_,@Paired.cons _ _ _ p q ws kvs h hs=>by
  refine .cons ?_ (vP r hs)
  show iL F (if p.1=k then(p.1,v) else p) (if q.1=k then(q.1,d) else q)
  rw[h.1]
  by_cases e:q.1=k
  ·rw[if_pos e,if_pos e];exact⟨rfl,r⟩
  ·rw[if_neg e,if_neg e];exact h
theorem pC {α β:Type}{P:α->β->Prop}{x:α}{y:β}(p:P x y):∀{l:List α}{r:List β},Paired P l r->Paired P (l++[x]) (r++[y])
 | _,_,.nil=>.cons p .nil
 | _,_,.cons q qs=>.cons q (pC p qs)
theorem vQ {κ:Type} [DecidableEq κ] {F:Hp}{k:κ}{v:V}{d:D}{ws:List (κ×V)}{kvs:List (κ×D)}(h:Paired (iL F) ws kvs) (r:Rep F v d):Paired (iL F) (putK ws k v) (putD kvs k d):=by
 unfold putK putD
 rw[vO h]
 by_cases e:(kvs.any fun kv=>decide (kv.1=k))=true
 ·rw[if_pos e,if_pos e];exact vP r h
 ·rw[if_neg e,if_neg e];exact pC ⟨rfl,r⟩ h
noncomputable def jk:D->Option D
 | .tup ds=>if gf 8 (.tup ds)=true then some (nf (.tup ds)) else none
 | _=>none
theorem kY {F H:Hp}{v:V}{d:D}{ks:D}(sb:Sub F H) (r:Rep F v d) (h:jk d=some ks):∃b,v= .ref b/\Kd H b ks:=by
 cases r with
 | @tup a vs ds e rs=>
  obtain⟨h1,h2⟩:=dj (show(if gf 8 (.tup ds)=true then some (nf (.tup ds)) else none)=some ks from h)
  subst h2
  exact⟨a,rfl,_,Rep.le sb (.tup e rs),h1,rfl⟩
 | dg=>cases h
 | bl _=>cases h
 | int _=>cases h
 | str _=>cases h
 | lst _ _=>cases h
noncomputable def dZ:U->D->Option D
 | .t (.tup ds),.int i=>dW ds i
 | .t (.lst ds),.int i=>dW ds i
 | .m (.lst ds),.int i=>dW ds i
 | .b (.lst ds),.int i=>dW ds i
 | .s ns,.int i=>(dW ns i).map D.int
 | .m (.dct kvs),k=>(keyOf k).bind (bA kvs)
 | .b (.dct kvs),k=>(keyOf k).bind (bA kvs)
 | .m (.iO kvs),k=>(jk k).bind (bA kvs)
 | .b (.iO kvs),k=>(jk k).bind (bA kvs)
 | _,_=>none
noncomputable def bg (i:Nat) (gb:GD):GD:=fun S=>match S[i]? with
 | some (some _)=>(gb S).bind fun p=>match p.2[i]? with
  | some (some u)=>(dZ u p.1).map fun d=>(d,p.2)
  | _=>none
 | _=>none
theorem Eb {α β:Type}(f:α->β){l:List α}{i:Int}{x:α}(h:dW l i=some x):dW (l.map f) i=some (f x):=by
 unfold dW at h ⊢
 rw[List.length_map]
 obtain⟨j,h1,h2⟩:=aj h
 rw[h1]
 show(l.map f)[j]? =_
 rw[List.getElem?_map,h2]
 rfl
section
variable {X:Cx}{a b c e value:Expr}{es:List Expr}{pos p p2 px pos':Pos}{x y:Str}{g ga gb gc gk gv:GD}{gA:GA}
theorem aW {i : Nat} (hu : X.A.units + 20 < cLine) (hb : JD X b gb) (hs : pT b := by first | (intro _ _; rfl)) (hN : X.N[i]? = some x := by rfl) (hv : Ba X.env.scope x := by first | exact Or.inl rfl | exact Or.inr (Or.inl rfl) | exact Or.inr (Or.inr rfl))
    (hd:(x == ("__debug__":Str))=false:=by decide) (hcd:(x == ("__classdict__":Str))=false:=by decide):JD X (.Subscript (.Name x px) b pos) (bg i gb):=⟨fun B=>PE.orelse fun σ H Q ⟨S,F,d,S',R,hg,q⟩=>by
  unfold bg at hg
  split at hg
  . rename_i u0 OR
    obtain⟨v0,hv0,_⟩:=R.rep i u0 OR
    obtain⟨⟨k,S1⟩,h1,hg⟩:=aj hg
    dsimp only at hg
    split at hg
    . rename_i u hS
      obtain⟨d',hr,hg⟩:=aE hg
      cases hg
      have yZ:∀F1 H1,Rel X.K B S' σ F1 H1->tZ X.K F1 H1 v0 u:=fun F1 H1 R1=>by
        obtain⟨v,k1,k2⟩:=R1.rep i u hS
        rw[hv0] at k1
        cases k1
        exact k2
      have seq:∀(Y:V->V->Hp->VK->Prop),PE X (.Subscript (.Name x px) b pos) (Jq Y (DG i) (tD X.K B gb))->(∀v F1 H1,Rel X.K B S' σ F1 H1->Step S S' σ F H F1 H1->Rep F1 v k->Y v0 v H1 Q)->∃t',PE X (.Subscript (.Name x px) b pos) t'/\t' σ H Q:=fun Y hY h=>
        ⟨_,hY,v0,hv0,S,F,k,S',R,h1,fun v F1 H1 R1 st1 r1=>h v F1 H1 R1 st1 r1⟩
      have dict:∀kvs,(∀F1 H1,Rel X.K B S' σ F1 H1->∃a ws,v0= .ref a/\H1 a=some (.dK ws)/\Paired (iL F1) ws kvs)->(keyOf k).bind (bA kvs)=some d->∃t',PE X (.Subscript (.Name x px) b pos) t'/\t' σ H Q:=fun kvs hat hr=>by
        obtain⟨kk,e1,e2⟩:=aj hr
        refine⟨_,yP hu (iJ hN hv hd hcd) (hb.h B) hs,v0,hv0,S,F,k,S',R,h1,fun v F1 H1 R1 st1 r1=>?_⟩
        obtain⟨a,ws,rfl,ha,pr⟩:=hat F1 H1 R1
        obtain⟨w',z1,z2⟩:=lP pr e2
        exact⟨a,w',rfl,by rw[<-z1];exact kN.ky ha (jO r1 e1),q w' F1 H1 R1 st1 z2⟩
      have vR:∀kvs,(∀F1 H1,Rel X.K B S' σ F1 H1->∃a ws,v0= .ref a/\H1 a=some (.dT ws)/\Paired (iL F1) ws kvs)->(jk k).bind (bA kvs)=some d->∃t',PE X (.Subscript (.Name x px) b pos) t'/\t' σ H Q:=fun kvs hat hr=>by
        obtain⟨kk,e1,e2⟩:=aj hr
        refine⟨_,yP hu (iJ hN hv hd hcd) (hb.h B) hs,v0,hv0,S,F,k,S',R,h1,fun v F1 H1 R1 st1 r1=>?_⟩
        obtain⟨a,ws,rfl,ha,pr⟩:=hat F1 H1 R1
        obtain⟨w',z1,z2⟩:=lP pr e2
        obtain⟨b',rfl,hb'⟩:=kY R1.sub r1 e1
        exact⟨a,w',rfl,by rw[<-z1];exact kN.t ha hb',q w' F1 H1 R1 st1 z2⟩
      have list:∀ds ii,k= .int ii->dW ds ii=some d->(∀F1 H1,Rel X.K B S' σ F1 H1->∃a vs,v0= .ref a/\(mR X.K H1 a vs\/tM X.K H1 a vs)/\bD F1 vs ds)->∃t',PE X (.Subscript (.Name x px) b pos) t'/\t' σ H Q:=fun ds ii ek hrr hat=>by
        subst ek
        refine seq _ (yS BB (iJ hN hv hd hcd) (hb.h B) hs) fun v F1 H1 R1 st1 r1=>?_
        obtain⟨a,vs,rfl,ha,rs⟩:=hat F1 H1 R1
        obtain⟨w',z1,z2⟩:=rs.dW hrr
        rw[iP r1]
        rcases ha with ha | ha
        . exact .inl ⟨a,vs,ii,w',rfl,rfl,ha,z1,q w' F1 H1 R1 st1 z2⟩
        . exact .inr (.inl ⟨a,vs,ii,w',rfl,rfl,ha,z1,q w' F1 H1 R1 st1 z2⟩)
      unfold dZ at hr
      split at hr
      . rename_i ds ii
        exact list ds ii rfl hr fun F1 H1 R1=>let⟨a,vs,e1,fa,ha,rs⟩:=R1.sub.iV (yZ F1 H1 R1);⟨a,vs,e1,.inr (.inl ha),rs⟩
      . rename_i ds ii
        exact list ds ii rfl hr fun F1 H1 R1=>let⟨a,vs,e1,fa,ha,rs⟩:=R1.sub.jq (yZ F1 H1 R1);⟨a,vs,e1,.inl (.inl ha),rs⟩
      . rename_i ds ii
        exact list ds ii rfl hr fun F1 H1 R1=>let⟨a,e1,fa,vs,ha,rs⟩:=yZ F1 H1 R1;⟨a,vs,e1,.inl (mR.of ha),rs⟩
      . rename_i ds ii
        exact list ds ii rfl hr fun F1 H1 R1=>let⟨a,e1,fa,vs,ha,rs⟩:=yZ F1 H1 R1;⟨a,vs,e1,.inl (mR.of ha),rs⟩
      . rename_i ns ii
        obtain⟨n,z1,z2⟩:=aE hr
        subst z2
        refine seq _ (yS BB (iJ hN hv hd hcd) (hb.h B) hs) fun v F1 H1 R1 st1 r1=>?_
        obtain⟨a,e1,ha⟩:=yZ F1 H1 R1
        rw[iP r1]
        exact .inl ⟨a,ns.map V.int,ii,.int n,e1,rfl,ha.sq,Eb V.int z1,q _ F1 H1 R1 st1 (.int n)⟩
      . rename_i kvs
        exact dict kvs (fun F1 H1 R1=>let⟨a,e1,fa,ws,ha,pr⟩:=yZ F1 H1 R1;⟨a,ws,e1,ha,pr⟩) hr
      . rename_i kvs
        exact dict kvs (fun F1 H1 R1=>let⟨a,e1,fa,ws,ha,pr⟩:=yZ F1 H1 R1;⟨a,ws,e1,ha,pr⟩) hr
      . rename_i kvs
        exact vR kvs (fun F1 H1 R1=>let⟨a,e1,fa,ws,ha,pr⟩:=yZ F1 H1 R1;⟨a,ws,e1,ha,pr⟩) hr
      . rename_i kvs
        exact vR kvs (fun F1 H1 R1=>let⟨a,e1,fa,ws,ha,pr⟩:=yZ F1 H1 R1;⟨a,ws,e1,ha,pr⟩) hr
      . cases hr
    . cases hg
  . cases hg⟩
noncomputable def ur:U->Option Nat
 | .t (.tup ds)=>some ds.length
 | .t (.lst ds)=>some ds.length
 | .t (.str z)=>if z.length<=100000 then some z.length else none
 | .m (.lst ds)=>some ds.length
 | .b (.lst ds)=>some ds.length
 | .m (.dct ds)=>some ds.length
 | .b (.dct ds)=>some ds.length
 | .m (.iO ds)=>some ds.length
 | .b (.iO ds)=>some ds.length
 | .s ns=>some ns.length
 | _=>none
noncomputable def jA (i:Nat):GD:=fun S=>match S[i]? with
 | some (some u)=>(ur u).map fun n=>(.int (n:Nat),S)
 | _=>none
theorem dG {α β:Type}{P:α->β->Prop}:∀{l:List α}{r:List β},Paired P l r->l.length=r.length
 | _,_,.nil=>rfl
 | _,_,.cons _ ps=>congrArg Nat.succ (dG ps)
theorem xK {prog:Program}{w:World}{K:Type} [DecidableEq K] (knd:HeapKind prog w K) (d:Addr) (hd:(d == sysModules)=false):
  MeetsIn prog w (Builtin.«dict.__len__» ⟨[.ref d],[]⟩) (fun _ R s=>∃xs,s.heap.DictOfH knd d xs/\R (.ok (.ret (.int xs.length s.toks))) {s with toks:=s.toks+1}):=
 .of_wp fun A R s ⟨xs,hm,h⟩=>by
  obtain⟨o,es,ep,ho,hc,hdat,he,his,hn⟩:=hm
  show wpAny _ _ (dictSize d >>= _) _ _ s
  unfold dictSize
  refine wpAny_bind (wpAny_bind (wpAny_dictEntries ho hdat (wpAny_pure ?_)))
  show wpAny _ _ (Builtin.Dict.pendingCount d >>= _) _ _ s
  refine wpAny_bind (wpAny_pendingCount_other hd ?_)
  refine wpAny_ret_mkInt ?_
  rw[Nat.add_zero,size_of_entries he];exact h
theorem Ao {prog:Program}{w:World}{K:Type} [DecidableEq K] {knd:HeapKind prog w K}{A:Around}{E:Value->Shared->Prop}{s:Shared}{d:Addr}{xs:List (K×Addr×Value)}{Q:Value->Shared->Prop}(hd:(d == sysModules)=false) (hm:s.heap.DictOfH knd d xs) (hfit:(xs.length:Int) < 2 ^ 63)
  (h:Q (.int xs.length (s.toks+1)) {s with toks:=s.toks+1+1}):wpAny (model prog w) A (Builtin.«len» ⟨[.ref d],[]⟩) (fun fin s'=>∃r,fin= .done (.ret r)/\Q r s') E s:=by
 unfold Builtin.«len»
 refine wpAny_bind (m:=oneArg "len" _) (wpAny_pure ?_)
 refine wpAny_bind (m:=callSpecial? (.ref d) (Str.ofString "__len__")) (wpAny_callSpecial?_slot (name:=Str.ofString "__len__") hm.typeIs F.slot_dict_len
  (call_meetsIn F.slot_dict_len hm.typeIs F.entry_dict_len (F.args_dict_len_1 _) (xK knd d hd) ⟨xs,hm,?_⟩))
 show wpAny _ _ _ _ _ {s with toks:=s.toks+1}
 refine wpAny_bind (wpAny_holding (wpAny_pure ?_))
 refine wpAny_bind (wpAny_letGo ?_)
 show wpAny _ _ (if((xs.length:Nat):Int) < 0 then _ else _) _ _ _
 rw[if_neg (by omega)]
 show wpAny _ _ (if((xs.length:Nat):Int)≥2 ^ 63 then _ else _) _ _ _
 rw[if_neg (by omega)]
 exact wpAny_bind (wpAny_mkInt (wpAny_pure ⟨_,rfl,h⟩))
theorem xM:jm X (.builtin "len") (fun xs H Q=>∃a kvs,xs=[V.ref a]/\H a=some (.dT kvs)/\Q (.int kvs.length) H):=by
 intro pins s σ H xs us Q I r h
 obtain⟨a,kvs,rfl,ha,q⟩:=h
 obtain⟨u,rfl,ru⟩:=vals1 r
 cases ru
 obtain⟨z,hd,ys,rel,dd⟩:=Bq I.hok ha
 have hl:kvs.length=ys.length:=Paired.length rel
 refine Calls.call_function_entry kind_len plain_len entry_len (args_len1 _) (Ao hd dd (by rw[<-hl];rw[sizeLine_eq] at z;omega) ?_)
 rw[<-hl]
 exact⟨.int kvs.length,H,I.tok _,⟨_,rfl⟩,q⟩
theorem kZ {i:Nat}(hg:Gl X "len") (hm:X.mg "len" =none) (hN:X.N[i]? =some x:=by rfl) (hv:Ba X.env.scope x:=by first | exact Or.inl rfl | exact Or.inr (Or.inl rfl) | exact Or.inr (Or.inr rfl))
  (hd:(x == ("__debug__":Str))=false:=by decide) (hcd:(x == ("__classdict__":Str))=false:=by decide) (he:starEach [.Name x px] X.env=(false,eval (.Name x px) X.env) :: starEach [] X.env:=by rfl) (hpl:(backTo pos (starEach [] X.env)).any (·.1)=false:=by rfl):
  JD X (.Call (.Name "len" p) [.Name x px] [] pos) (jA i):=⟨fun B=>PE.orelse fun σ H Q ⟨S,F,d,S',R,hg',q⟩=>by
 unfold jA at hg'
 split at hg'
 ·rename_i u hS
  obtain⟨n,hn,hg'⟩:=aE hg'
  cases hg'
  obtain⟨v0,hv0,r0⟩:=R.rep i u hS
  have fin:=q (.int n) F H R (Step.refl ..) (.int _)
  have arg:PA X [.Name x px] (FJ (DG i) Ks):=lI (iJ hN hv hd hcd) oA he
  have list:∀a vs,v0= .ref a->(mR X.K H a vs\/tM X.K H a vs)->vs.length=n->∃t',PE X (.Call (.Name "len" p) [.Name x px] [] pos) t'/\t' σ H Q:=fun a vs e1 ha hl=>
   ⟨_,kK j5 hg hm PySem.boot_len arg (by decide) (by decide) he hpl,v0,hv0,a,vs,by rw[e1],ha,by rw[hl];exact fin⟩
  have dict:∀a ws,v0= .ref a->H a=some (.dK ws)->ws.length=n->∃t',PE X (.Call (.Name "len" p) [.Name x px] [] pos) t'/\t' σ H Q:=fun a vs e1 ha hl=>
   ⟨_,kK Ak hg hm PySem.boot_len arg (by decide) (by decide) he hpl,v0,hv0,a,vs,by rw[e1],ha,by rw[hl];exact fin⟩
  have vR:∀a ws,v0= .ref a->H a=some (.dT ws)->ws.length=n->∃t',PE X (.Call (.Name "len" p) [.Name x px] [] pos) t'/\t' σ H Q:=fun a vs e1 ha hl=>
   ⟨_,kK xM hg hm PySem.boot_len arg (by decide) (by decide) he hpl,v0,hv0,a,vs,by rw[e1],ha,by rw[hl];exact fin⟩
  unfold ur at hn
  split at hn
  ·cases hn;obtain⟨a,vs,e1,fa,ha,rs⟩:=R.sub.iV r0;exact list a vs e1 (.inr (.inl ha)) rs.length
  ·cases hn;obtain⟨a,vs,e1,fa,ha,rs⟩:=R.sub.jq r0;exact list a vs e1 (.inl (.inl ha)) rs.length
  ·rename_i z
   obtain⟨hl,rfl⟩:=dj hn
   exact⟨_,kK nA hg hm PySem.boot_len arg (by decide) (by decide) he hpl,v0,hv0,z,by rw[yX r0],jo hl,fin⟩
  ·cases hn;obtain⟨a,e1,fa,vs,ha,rs⟩:=r0;exact list a vs e1 (.inl (mR.of ha)) rs.length
  ·cases hn;obtain⟨a,e1,fa,vs,ha,rs⟩:=r0;exact list a vs e1 (.inl (mR.of ha)) rs.length
  ·cases hn;obtain⟨a,e1,fa,ws,ha,pr⟩:=r0;exact dict a ws e1 ha (dG pr)
  ·cases hn;obtain⟨a,e1,fa,ws,ha,pr⟩:=r0;exact dict a ws e1 ha (dG pr)
  ·cases hn;obtain⟨a,e1,fa,ws,ha,pr⟩:=r0;exact vR a ws e1 ha (dG pr)
  ·cases hn;obtain⟨a,e1,fa,ws,ha,pr⟩:=r0;exact vR a ws e1 ha (dG pr)
  ·cases hn;obtain⟨a,e1,ha⟩:=r0;exact list a _ e1 (.inl ha.sq) (by simp)
  ·cases hn
 ·cases hg'⟩
end
noncomputable def gY (o:MO) (k d:D):Option MO:=match o with
 | .dct kvs=>(keyOf k).bind fun kk=>if kvs.length < 100000 then some (.dct (putD kvs kk d)) else none
 | .iO kvs=>(jk k).bind fun kk=>if kvs.length < 10000000 then some (.iO (putD kvs kk d)) else none
 | .ins _ _=>none
 | .lst ds=>match k with
  | .int i=>(uX ds.length i).map fun j=>.lst (ds.set j d)
  | _=>none
noncomputable def qE (i:Nat) (gk gv:GD):GS:=fun S=>(gv S).bind fun p=>match p.2[i]? with
 | some (some _)=>(gk p.2).bind fun r=>(kg r.2 i fun o=>(gY o r.1 p.1).map fun o'=>(.dg,o')).map fun z=>.nx z.2
 | _=>none
theorem bD.set {F:Hp}{v:V}{d:D}(r:Rep F v d):∀{vs:List V}{ds:List D}(j:Nat),bD F vs ds->bD F (vs.set j v) (ds.set j d)
 | _,_,_,.nil=>.nil
 | _,_,0,.cons _ rs=>.cons r rs
 | _,_,j+1,.cons q rs=>.cons q (bD.set r j rs)
section
variable {X:Cx}{a b c e value k:Expr}{es:List Expr}{pos p p2 px pos':Pos}{x y:Str}{g ga gb gc gk gv:GD}{gA:GA}
theorem kh {i:Nat}(hu:X.A.units+20 < cLine) (hk:JD X k gk) (hval:JD X value gv) (hN:X.N[i]? =some x:=by rfl) (hv:Ba X.env.scope x:=by first | exact Or.inl rfl | exact Or.inr (Or.inl rfl) | exact Or.inr (Or.inr rfl))
  (hd:(x == ("__debug__":Str))=false:=by decide) (hcd:(x == ("__classdict__":Str))=false:=by decide)
  (hs:swapsWith value (some (.Subscript (.Name x px) k pos')) pos.line X.env=pure false:=by rfl)
  (hs1:swapsWithSole [.Subscript (.Name x px) k pos'] value pos.line X.env=pure false:=by rfl) (hs2:swappedStores [.Subscript (.Name x px) k pos'] value X.env=pure none:=by rfl)
  (UJ:(assignEach [.Subscript (.Name x px) k pos'] X.env).map (·.2)=[assign (.Subscript (.Name x px) k pos') X.env]:=by rfl)
  (UK:∀v,assign (.Subscript (.Name x px) k pos') X.env v=(do
   let ov <-holding [v] (eval (.Name x px) X.env)
   let iv <-holding [v,ov] (eval k X.env)
   standAt pos'
   holding [v,ov,iv] (setItem ov iv v)
   release [v,ov,iv] []):=by intro _;rfl):
  JS X (.Assign [.Subscript (.Name x px) k pos'] value pos) (qE i gk gv):=⟨fun B=>PS.orelse fun D σ H ⟨S,F,o,R,hg,q⟩=>by
 obtain⟨⟨d,S1⟩,h1,hg⟩:=aj hg
 dsimp only at hg
 split at hg
 ·rename_i u0 OR
  obtain⟨⟨kd,S2⟩,h2,hg⟩:=aj hg
  obtain⟨⟨nd,S3⟩,h3,hg⟩:=aE hg
  subst hg
  obtain⟨u,u',mo,mo',hS,K6,hio,hf,K7,rfl⟩:=sG h3
  obtain⟨XO,hw,hf2⟩:=aE hf
  cases hf2
  have hv0:∀F1 H1,Rel X.K B S1 σ F1 H1->∃v,σ[i]? =some (some v):=fun F1 H1 R1=>let⟨v,k1,_⟩:=R1.rep i u0 OR;⟨v,k1⟩
  cases mo with
  | dct kvs=>
   obtain⟨kk,e1,hw⟩:=aj hw
   obtain⟨hl,rfl⟩:=dj hw
   refine⟨_,yQ hu (iJ hN hv hd hcd) (hk.h B) (hval.h B) hs,S,F,d,S1,R,h1,fun v F1 H1 R1 st1 r1=>?_⟩
   obtain⟨v0,hv0⟩:=hv0 F1 H1 R1
   refine⟨v0,hv0,S1,F1,kd,S2,R1,h2,fun y F2 H2 R2 st2 r2=>?_⟩
   obtain⟨v',k1,k2⟩:=R2.rep i u hS
   rw[hv0] at k1
   cases k1
   obtain⟨a,o2,rfl,fa,eo,k3⟩:=k2.bY K6
   rw[hio] at eo
   cases eo
   obtain⟨ws,ha,pr⟩:=k3
   refine⟨a,_,rfl,vq.ky ha (jO r2 e1) (by rw[dG pr];exact Nat.lt_of_lt_of_le hl (by decide)),?_⟩
   obtain⟨R3,st3⟩:=R2.write (ho:=.dK (putK ws kk v)) hS K7 hv0 ⟨_,aU,vQ pr (r1.le st2.ext.le)⟩
   exact q σ F2 _ R3 fun b o z=>st2.ext.le b o (st1.ext.le b o z)
  | ins C kvs=>cases hw
  | iO kvs=>
   obtain⟨kk,e1,hw⟩:=aj hw
   obtain⟨hl,rfl⟩:=dj hw
   refine⟨_,yQ hu (iJ hN hv hd hcd) (hk.h B) (hval.h B) hs,S,F,d,S1,R,h1,fun v F1 H1 R1 st1 r1=>?_⟩
   obtain⟨v0,hv0⟩:=hv0 F1 H1 R1
   refine⟨v0,hv0,S1,F1,kd,S2,R1,h2,fun y F2 H2 R2 st2 r2=>?_⟩
   obtain⟨v',k1,k2⟩:=R2.rep i u hS
   rw[hv0] at k1
   cases k1
   obtain⟨a,o2,rfl,fa,eo,k3⟩:=k2.bY K6
   rw[hio] at eo
   cases eo
   obtain⟨ws,ha,pr⟩:=k3
   obtain⟨b',rfl,hb'⟩:=kY R2.sub r2 e1
   refine⟨a,_,rfl,vq.t ha hb' (by rw[dG pr];exact Nat.lt_of_lt_of_le hl (by decide)),?_⟩
   obtain⟨R3,st3⟩:=R2.write (ho:=.dT (putK ws kk v)) hS K7 hv0 ⟨_,aU,vQ pr (r1.le st2.ext.le)⟩
   exact q σ F2 _ R3 fun b o z=>st2.ext.le b o (st1.ext.le b o z)
  | lst ds=>
   unfold gY at hw
   dsimp only at hw
   split at hw
   ·rename_i ii
    obtain⟨j,e1,rfl⟩:=aE hw
    refine⟨_,GQ (hval.h B) (GP (iJ hN hv hd hcd) (hk.h B) set_list UK) hs1 hs2 UJ,S,F,d,S1,R,h1,fun v F1 H1 R1 st1 r1=>?_⟩
    obtain⟨v0,hv0⟩:=hv0 F1 H1 R1
    refine⟨v0,hv0,S1,F1,_,S2,R1,h2,fun y F2 H2 R2 st2 r2=>?_⟩
    obtain⟨v',k1,k2⟩:=R2.rep i u hS
    rw[hv0] at k1
    cases k1
    obtain⟨a,o2,rfl,fa,eo,k3⟩:=k2.bY K6
    rw[hio] at eo
    cases eo
    obtain⟨vs,ha,rs⟩:=k3
    rw[iP r2]
    refine⟨a,vs,_,j,rfl,rfl,ha,by rw[rs.length];exact e1,?_⟩
    obtain⟨R3,st3⟩:=R2.write (ho:=.lst (vs.set j v)) hS K7 hv0 ⟨_,aU,rs.set (r1.le st2.ext.le) j⟩
    exact q σ F2 _ R3 fun b o z=>st2.ext.le b o (st1.ext.le b o z)
   ·cases hw
 ·cases hg⟩
theorem Rel.OS {K:PySem.W.Frag}{B:Base}{S:SS}{σ:St}{F H:Hp}{a:Addr}{o o':HO}(R:Rel K B S σ F H) (hn:¬bY S σ a) (hf:F a=none) (hB:B.H a=none) (hh:H a=some o) (hz:∀ob u,o≠.iI ob u):Rel K B S σ F (upd H a o'):=by
 have Gd:∀b ob w,H b=some (.iI ob w)->upd H a o' b=some (.iI ob w):=fun b ob w z=>by
  rw[aK (fun e=>by rw[e,hh] at z;cases z;exact hz _ _ rfl)];exact z
 refine⟨fun b u z=>?_,R.len,fun j w z=>?_,R.vF,R.own,R.bor,R.par,⟨R.ext.le,fun b u z n=>?_,R.ext.gM,fun b u z=>?_,fun b ob w z=>Gd b ob w (R.ext.iI b ob w z)⟩⟩
 ·have hb:b≠a:=fun e=>by rw[e,hf] at z;cases z
  rw[aK hb];exact R.sub b u z
 ·obtain⟨v,h1,h2⟩:=R.rep j w z
  refine⟨v,h1,h2.le (fun _ _ z=>z) Gd fun c hm hc=>?_⟩
  have hca:c≠a:=fun e=>hn ⟨j,w,z,hm,by rw[h1,hc,e]⟩
  obtain⟨c',_,e,f,_⟩:=h2.bY hm
  rw[hc] at e
  cases e
  exact⟨fun o z=>by rw[aK hca];exact z,f⟩
 ·rw[aK (fun e=>by rw[e,hB] at z;cases z)];exact R.ext.keep b u z n
 ·by_cases hb:b=a
  ·exact⟨o',by rw[hb,aU]⟩
  ·rw[aK hb];exact R.ext.there b u z
end
section
variable {X:Cx}{a b c e:Expr}{lo hi:Option Expr}{pos p p2 px:Pos}{x y:Str}{g ga:GD}{gA:GA}{gl gh:Option GD}
noncomputable def SV (d:D):Prop:=(toPy d).showable=true/\(toPy d).depth<=20/\(toPy d).shown.length<=sizeLine
noncomputable instance (d:D):Decidable (SV d):=by unfold SV;infer_instance
theorem zc {i:Int}{t:Tok}(hg:Gl X x) (hm:X.mg x=some (.int i t)) (hd:(x == ("__debug__":Str))=false:=by decide):JD X (.Name x pos) (eC (.int i)):=BS rfl (DH (v:=.int i) hg hm ⟨t,rfl⟩ hd)
end
theorem fq {X : Cx} {x y : Str} {scope : Scope} {c : Addr} {i : Nat} (clos : closureFor scope X.env = pure [(y, c)]) (kO : ∀ z ∈ scope.names, z.2 ≠ .cell) (kind : scope.kind = .function) (names : ∀ z ∈ scope.names, z.2 = .local -> scope.names.lookup z.1 = some .local)
    (loc:scope.names.lookup x=some .local) (hc:X.env.cells.lookup y=some c) (only:∀z∈scope.names,z.2= .free->z.1=y) (ne:x≠y) (hN:X.N[i]? =some y) (vis:X.env.scope.names.lookup y=some .cell) (rel:(relabel scope X.env).names.lookup y=some .cell):
    gO X x [y] [i] scope [(y,c)]:=by
  have look:∀n c',([(y,c)]:List (Str×Addr)).lookup n=some c'->n=y/\c'=c:=fun n c' h=>by
    rw[List.lookup_cons] at h
    cases e:n == y with
    | true=>rw[e] at h;cases h;exact⟨eq_of_beq e,rfl⟩
    | false=>rw[e] at h;cases h
  have self:([(y,c)]:List (Str×Addr)).lookup y=some c:=by rw[List.lookup_cons,beq_self_eq_true]
  refine⟨clos,kO,kind,names,loc,fun n c' h=>?_,fun n h=>?_,?_,rfl,fun j n h=>?_,fun n h=>?_⟩
  . obtain⟨rfl,rfl⟩:=look n c' h
    exact hc
  . have key:n=y:=by
      have go:∀k,(k=NameKind.cell\/k=NameKind.free)->(relabel scope X.env).names.lookup n=some k->n=y:=fun k hk e=>by
        have m:=PySem.mem_of_lookup e
        unfold relabel at m
        obtain⟨⟨n',k'⟩,hm,q⟩:=List.mem_map.mp m
        by_cases hf:k'= .free
        . have h0:n'=y:=only _ hm hf
          have e1:n'=n:=by
            have h1:=congrArg Prod.fst q
            dsimp only at h1
            split at h1 <;> exact h1
          exact e1.symm.trans h0
        . have z:(k' == NameKind.free)=false:=by simpa using hf
          simp only[z,Bool.false_and] at q
          have q2:k'=k:=by
            have:=congrArg Prod.snd q
            simpa using this
          rcases hk with rfl | rfl
          . exact absurd q2 (kO _ hm)
          . exact absurd q2 hf
      rcases h with h | h
      . exact go _ (.inl rfl) h
      . exact go _ (.inr rfl) h
    subst key
    exact⟨c,self⟩
  . simp[ne]
  . cases j with
    | zero=>cases h;exact⟨i,rfl,hN,.inr (.inl vis)⟩
    | succ j=>simp at h
  . have e:n=y:=by simpa using h
    subst e
    exact⟨.inl rel,⟨c,self⟩,by rw[vis];decide⟩
section
variable {X:Cx}{a b c e:Expr}{es:List Expr}{pos p p2 px:Pos}{x y:Str}{f:FM}{fa:Addr}{fd:FuncData}{ps:List Str}{k n:Nat}
theorem jP (a:List D) (o:MO) (h:ez o=false):hAppend a o=none:=by
 cases o with
 | lst ds=>cases h
 | dct k=>unfold hAppend;split <;> first | rfl | (rename_i e;cases e)
 | iO k=>unfold hAppend;split <;> first | rfl | (rename_i e;cases e)
 | ins C k=>unfold hAppend;split <;> first | rfl | (rename_i e;cases e)
end
noncomputable def bT:List D->Option (List Int)
 | []=>some []
 | .int b :: ds=>(bT ds).map fun bs=>b :: bs
 | _=>none
theorem qF {F:Hp}:∀{vs:List V}{ds:List D}{bs:List Int},bD F vs ds->bT ds=some bs->vs=bs.map V.int
 | _,_,_,.nil,h=>by cases h;rfl
 | _,_,_,@bD.cons _ v d vs ds r rs,h=>by
  cases d <;> try (simp[bT] at h;done)
  obtain⟨bs,h1,h2⟩:=aE (show(bT ds).map _=_ from h)
  subst h2
  rw[iP r,qF rs h1]
  rfl
section
variable {X:Cx}
end
section
variable {prog:Program}{w:World}{A:Around}{R:Result->Shared->Prop}{I:Addr}{fp wr:List Addr}{G:Array GenState->Array GenState->Prop}{n:Nat}{P:Nat->Value->Prop}{St:Nat->Shared->Prop}
end
section
variable {prog:Program}{w:World}{A:Around}{E:Value->Shared->Prop}{s:Shared}
end
section
variable {X:Cx}{a:Expr}{pos p p1 p2:Pos}{ga:GD}
end
section
variable {X:Cx}{a:Expr}{x:Str}{px pos:Pos}{ga:GD}
end
noncomputable def look:U->Option D
 | .t d=>some d
 | .m (.lst ds)=>some (.lst ds)
 | .b (.lst ds)=>some (.lst ds)
 | _=>none
section
variable {X:Cx}{x y:Str}{p px py pos:Pos}{f:List D->Option U}
end
section
variable (S:SS) (i:Nat) (g:GD)
end
section
variable {X:Cx}{a b c e:Expr}{es:List Expr}{pos p p2 px:Pos}{x y:Str}
noncomputable def OT:List D->Option U
 | [.lst ds,.int k]=>if 0<=k/\k.toNat<=100000/\ds.length * k.toNat<=100000 then some (.m (.lst (List.replicate k.toNat ds).flatten)) else none
 | _=>none
noncomputable def vU:V->List V->Hp->VK->Prop:=fun x vs H Q=>∃l b xs zs,x= .ref l/\vs=[.ref b]/\H l=some (.lst xs)/\Rd H b (.lst zs)/\xs.length+zs.length<=sizeLine/\Q .dg (upd H l (.lst (xs++zs)))
theorem xN:Ob X "list.extend" vU:=by
 intro pins s σ H x vs v us Q I rx rv h
 obtain⟨l,b,xs,zs,rfl,rfl,hH,hB,hz,q⟩:=h
 cases rx
 obtain⟨u,rfl,ru⟩:=rv.one
 cases ru
 obtain⟨z,its,n,r,hl,e⟩:=I.Ah hH
 obtain⟨z2,its2,n2,r2,hl2,e2⟩:=hB.Ah I
 have hsz:its.toArray.size+its2.toArray.size<=sizeLine:=by rw[List.size_toArray,List.size_toArray];omega
 have Lc:¬(!its.toArray.isEmpty && Builtin.List.listTooLong (its.toArray.size+its2.toArray.size))=true:=by
  rw[BC hsz,Bool.and_false]
  exact Bool.false_ne_true
 refine call_meets F.slot_list_extend ⟨_,e,rfl⟩ F.entry_list_extend (F.args_list_extend_2 _ _)
  (AutoSeq1.list_extend_list_list_0 l its.toArray n b its2.toArray n2 Lc (by rw[List.size_toArray];omega) (by omega)) ⟨e,e2,?_⟩
 refine⟨.dg,_,I.KO (its':=its++its2) hH e (by simp) (r.append r2) ?_,rfl,q⟩
 rw[List.length_append]
 omega
noncomputable def jr:List D->MO->Option (D×MO)
 | [.lst es],.lst ds=>if ds.length+es.length<=100000 then some (.dg,.lst (ds++es)) else none
 | _,_=>none
theorem Aq:OI vU jr:=by
 intro F H a vs xs ds args res o' sb hH fa rs rx hw Q q
 unfold jr at hw
 split at hw
 ·rename_i es ds' e2
  cases e2
  obtain⟨hl,hw⟩:=dj hw
  cases hw
  cases rx with
  | cons r rr=>
   cases rr
   obtain⟨b,zs,rfl,fb,hb,BZ⟩:=sb.jq r
   exact⟨a,b,vs,zs,rfl,rfl,hH,hb,by rw[rs.length,BZ.length];exact Nat.le_trans hl (by decide),q .dg _ .dg ⟨_,aU,rs.append BZ⟩⟩
 ·cases hw
theorem Ar (a:List D) (o:MO) (h:ez o=false):jr a o=none:=by
 cases o with
 | lst ds=>cases h
 | dct k=>unfold jr;split <;> first | rfl | (rename_i e;cases e)
 | iO k=>unfold jr;split <;> first | rfl | (rename_i e;cases e)
 | ins C k=>unfold jr;split <;> first | rfl | (rename_i e;cases e)
noncomputable def vV:D->Bool
 | .dg=>true
 | _=>false
noncomputable def Ec (f:Int->Int->Int) (i:Nat) (g:GD):GS:=fun S=>match S[i]? with
 | some (some (.t (.int n)))=>(g S).bind fun p=>match p.1 with
  | .int m=>(mw i (.t (.int (f n m))) p.2).map .nx
  | _=>none
 | _=>none
theorem HD {i:Nat}{pos':Pos}{op:Operator}{f:Int->Int->Int}{g:GD}(ho:NT X op (SE f)) (hN:X.N.Nodup) (hi:X.N[i]? =some x) (hx:Loc X.env.scope x) (he:JD X e g)
  (hf:X.fn x=true\/X.env.scope.names.lookup x=some .local:=by first | exact .inl rfl | exact .inr rfl | assumption):JS X (.AugAssign (.Name x pos') op e pos) (Ec f i g):=
 ⟨fun B=>(GV hN hi hx (he.h B) ho hf).imp fun D σ H ⟨S,F,o,R,h,k⟩=>by
 unfold Ec at h
 split at h
 ·rename_i n hS
  obtain⟨⟨d,S1⟩,h1,h⟩:=aj h
  dsimp only at h
  split at h
  ·rename_i m
   obtain⟨S2,h2,h⟩:=aE h
   subst h
   obtain⟨v,k1,k2⟩:=R.rep i _ hS
   have hv:v= .int n:=iP k2
   subst hv
   refine⟨_,k1,S,F,_,S1,R,h1,fun y F1 H1 R1 st1 r1=>⟨n,m,rfl,iP r1,?_⟩⟩
   exact k _ F1 H1 (R1.put h2 (.int _)) st1.ext.le
  ·cases h
 ·cases h⟩
theorem iZ {x : Str} {bH : List Str} {cap : List Nat} {scope : Scope} {cl : List (Str × Addr)} (clos : closureFor scope X.env = pure cl) (kO : ∀ z ∈ scope.names, z.2 ≠ .cell) (kind : scope.kind = .function) (names : ∀ z ∈ scope.names, z.2 = .local -> scope.names.lookup z.1 = some .local)
    (loc:scope.names.lookup x=some .local) (hc:cl.map (fun p=>X.env.cells.lookup p.1)=cl.map (fun p=>some p.2)) (only:∀z∈scope.names,z.2= .free->z.1∈bH) (hcl:cl.map (·.1)=bH.reverse\/cl.map (·.1)=bH) (nd:(x :: bH).Nodup)
    (slot:cap.map (fun i=>X.N[i]?)=bH.map some) (vis:bH.map (fun n=>X.env.scope.names.lookup n)=bH.map fun _=>some .cell) (rel:bH.map (fun n=>(relabel scope X.env).names.lookup n)=bH.map fun _=>some .cell):
    gO X x bH cap scope cl:=by
  have all:∀{α β:Type}{f g:α->β}{l:List α},l.map f=l.map g->∀a∈l,f a=g a:=fun {α β f g l} h=>by
    induction l with
    | nil=>intro a m;cases m
    | cons b r ih=>
      intro a m
      rw[List.map_cons,List.map_cons] at h
      injection h with h1 h2
      rcases List.mem_cons.mp m with z | z
      . rw[z];exact h1
      . exact ih h2 a z
  have Ld:∀n,n∈bH->∃c,cl.lookup n=some c:=fun n hn=>lookup_some (hcl.elim (fun z=>by rw[z];exact List.mem_reverse.mpr hn) fun z=>by rw[z];exact hn)
  have len:cap.length=bH.length:=by have:=congrArg List.length slot;simpa using this
  refine⟨clos,kO,kind,names,loc,fun n c h=>all hc (n,c) (PySem.mem_of_lookup h),fun n h=>?_,nd,len,fun j n h=>?_,fun n h=>⟨.inl (all rel n h),Ld n h,by rw[all vis n h];decide⟩⟩
  . refine Ld n ?_
    have go:∀k,(k=NameKind.cell\/k=NameKind.free)->(relabel scope X.env).names.lookup n=some k->n∈bH:=fun k hk e=>by
      have m:=PySem.mem_of_lookup e
      unfold relabel at m
      obtain⟨⟨n',k'⟩,hm,q⟩:=List.mem_map.mp m
      by_cases hf:k'= .free
      . have h0:n'∈bH:=only _ hm hf
        have e1:n'=n:=by
          have h1:=congrArg Prod.fst q
          dsimp only at h1
          split at h1 <;> exact h1
        rw[<-e1]
        exact h0
      . have z:(k' == NameKind.free)=false:=by simpa using hf
        simp only[z,Bool.false_and] at q
        have q2:k'=k:=by
          have:=congrArg Prod.snd q
          simpa using this
        rcases hk with rfl | rfl
        . exact absurd q2 (kO _ hm)
        . exact absurd q2 hf
    rcases h with h | h
    . exact go _ (.inl rfl) h
    . exact go _ (.inr rfl) h
  . have e:=congrArg (fun l=>l[j]?) slot
    simp only[List.getElem?_map,h,Option.map_some] at e
    cases q:cap[j]? with
    | none=>rw[q] at e;cases e
    | some i=>
      rw[q] at e
      exact⟨i,rfl,Option.some.inj e,.inr (.inl (all vis n (List.mem_of_getElem? h)))⟩
end
open AutoSeq1 (wpAny_loadPart')
noncomputable def pD (k:Bool) (h:Heap) (a:Addr) (its:Array Value):Prop:=match k with
 | true=>h.IsList a its
 | false=>h.IsTuple a its
noncomputable def kH (k:Bool) (h:Heap) (it a:Addr) (i:Nat):Prop:=match k with
 | true=>h.IsListIter it a i
 | false=>h.IsTupleIter it a i
noncomputable def UL:Bool->String
 | true=>"list_iterator"
 | false=>"tuple_iterator"
noncomputable def A0 (k:Bool) (a:Addr):Obj:={cls:=.type (UL k),data:=.fields #[.ref a,.int 0 0]}
theorem pD.at {k:Bool}{h h':Heap}{a:Addr}{its:Array Value}(x:pD k h a its) (g:∀o,h.get? a=some o->h'.get? a=some o):pD k h' a its:=by
 cases k <;> exact let⟨o,ho,r⟩:=x;⟨o,g o ho,r⟩
theorem kH.at {k:Bool}{h h':Heap}{it a:Addr}{i:Nat}(x:kH k h it a i) (g:∀o,h.get? it=some o->h'.get? it=some o):kH k h' it a i:=by
 cases k <;> exact let⟨o,ho,r⟩:=x;⟨o,g o ho,r⟩
theorem kH.obj {k:Bool}{h:Heap}{it a:Addr}{i:Nat}(x:kH k h it a i):∃o,h.get? it=some o/\∀v,o.data≠.cell v:=by
 cases k <;> exact let⟨o,ho,_,r⟩:=x;⟨o,ho,fun v z=>by rw[r] at z;cases z⟩
theorem kH.new (k:Bool) (h:Heap) (a:Addr):kH k (h.push (A0 k a)) h.objs.size a 0:=by
 cases k <;> exact⟨_,Heap.get?_push_size _ rfl,rfl,rfl⟩
section
variable {prog:Program}{w:World}{A:Around}{E:Value->Shared->Prop}{s:Shared}
theorem Gf {k:Bool}{a:Addr}{its:Array Value}{Q:Value->Shared->Prop}(h:pD k s.heap a its) (q:Q (.ref s.heap.objs.size) {s with heap:=s.heap.push (A0 k a)}):wpAny (model prog w) A (pyIter (.ref a)) Q E s:=by
 cases k with
 | true=>exact wpAny_pyIter_list h q
 | false=>exact wpAny_pyIter_tuple h q
theorem Ed {ad t:Addr}{n:Nat}{vals:Array Value}{y:Value}{Q:Value->Shared->Prop}(st:s.heap.IsTupleIter ad t n) (hv:s.heap.IsTuple t vals) (hy:vals[n]? =some y)
  (q:∀h',h'.IsTupleIter ad t (n+1)->Heap.SameBut ad s.heap h'->Q y {s with heap:=h'}):wpAny (model prog w) A (Builtin.SmallTypes.nextOf (.ref ad)) Q E s:=by
 obtain⟨ob,hob,hcl,hdat⟩:=id st
 obtain⟨UM,HE,_,nn,Cb⟩:=hv
 unfold Builtin.SmallTypes.nextOf
 refine wpAny_bind (wpAny_callSpecial?_slot (name:=Str.ofString "__next__") st.typeIs F.slot_tuple_iterator_next (wpAny_call_entry F.slot_tuple_iterator_next st.typeIs F.entry_tuple_iterator_next ?_ (F.args_tuple_iterator_next_1 _)))
 show wpAny _ _ (field (.ref ad) 0 >>= _) _ _ s
 refine wpAny_bind (wpAny_field hob hdat (x:=.ref t) rfl ?_)
 show wpAny _ _ (if(Value.ref t == Value.none)=true then _ else _) _ _ s;rw[if_neg (show ¬((Value.ref t == Value.none)=true) from Bool.false_ne_true)]
 show wpAny _ _ (field (.ref ad) 1 >>= _) _ _ s
 refine wpAny_bind (wpAny_field hob hdat (x:=.int n 0) rfl ?_)
 show wpAny _ _ (seqItems? (.ref t) >>= _) _ _ s;refine wpAny_bind (wpAny_seqItems HE Cb ?_)
 simp only[Int.toNat_natCast,hy]
 refine wpAny_bind (wpAny_setField hob hdat (by simp) (wpAny_pure ⟨y,rfl,wpAny_pure (q _ ?_ (Heap.SameBut.update ..))⟩))
 exact⟨_,Heap.get?_update_self _ hob (Obj.isFreed_of_fields (Obj.data_mapFields hdat _)),(Obj.cls_mapFields ..).trans hcl,by rw[Obj.data_mapFields hdat];simp[rawInt]⟩
theorem HF {ad t:Addr}{n:Nat}{vals:Array Value}{Q:Value->Shared->Prop}(hn:A.handled=none) (st:s.heap.IsTupleIter ad t n) (hv:s.heap.IsTuple t vals) (hy:vals[n]? =none)
  (q:∀h' e,Heap.ExtBut ad s.heap h'->(∃o,h'.get? e=some o/\o.cls= .type "StopIteration")->E (.ref e) {s with heap:=h'}):wpAny (model prog w) A (Builtin.SmallTypes.nextOf (.ref ad)) Q E s:=by
 obtain⟨ob,hob,hcl,hdat⟩:=id st
 obtain⟨UM,HE,_,nn,Cb⟩:=hv
 unfold Builtin.SmallTypes.nextOf
 refine wpAny_bind (wpAny_callSpecial?_slot (name:=Str.ofString "__next__") st.typeIs F.slot_tuple_iterator_next (wpAny_call_entry F.slot_tuple_iterator_next st.typeIs F.entry_tuple_iterator_next ?_ (F.args_tuple_iterator_next_1 _)))
 show wpAny _ _ (field (.ref ad) 0 >>= _) _ _ s
 refine wpAny_bind (wpAny_field hob hdat (x:=.ref t) rfl ?_)
 show wpAny _ _ (if(Value.ref t == Value.none)=true then _ else _) _ _ s;rw[if_neg (show ¬((Value.ref t == Value.none)=true) from Bool.false_ne_true)]
 show wpAny _ _ (field (.ref ad) 1 >>= _) _ _ s
 refine wpAny_bind (wpAny_field hob hdat (x:=.int n 0) rfl ?_)
 show wpAny _ _ (seqItems? (.ref t) >>= _) _ _ s;refine wpAny_bind (wpAny_seqItems HE Cb ?_)
 simp only[Int.toNat_natCast,hy]
 refine wpAny_bind (wpAny_rule (wpAny_bind (wpAny_setField hob hdat (by simp) ?_)))
 show wpAny _ _ (newExc (.type "StopIteration") [] >>= _) _ _ _;refine wpAny_bind ?_;simp only[newExc,newTuple]
 refine wpAny_bind (wpAny_newObj_type ?_ (by size_fits));refine wpAny_bind (m:=firstArgMember _ _) (wpAny_of_eq (a:=Value.none) (by first | rfl | (simp only[firstArgMember];rfl)) ?_)
 refine wpAny_newObj_type ?_ (by size_fits);simp only[raiseNew];refine wpAny_bind (wpAny_handled ?_)
 first | rw[show A.in1.handled=none from hn] | rw[hn]
 refine wpAny_bind (wpAny_pure (wpAny_throw ?_));exact q _ _ (((Heap.SameBut.update ..).extBut.push _).push _) ⟨_,Heap.get?_push_size _ rfl,rfl⟩
theorem nextK {k:Bool}{ad t:Addr}{n:Nat}{vals:Array Value}{y:Value}{Q:Value->Shared->Prop}(st:kH k s.heap ad t n) (hv:pD k s.heap t vals) (hy:vals[n]? =some y)
  (q:∀h',kH k h' ad t (n+1)->Heap.SameBut ad s.heap h'->Q y {s with heap:=h'}):wpAny (model prog w) A (Builtin.SmallTypes.nextOf (.ref ad)) Q E s:=by
 cases k with
 | true=>exact wpAny_nextOf_list_item st hv hy q
 | false=>exact Ed st hv hy q
theorem As {k:Bool}{ad t:Addr}{n:Nat}{vals:Array Value}{Q:Value->Shared->Prop}(hn:A.handled=none) (st:kH k s.heap ad t n) (hv:pD k s.heap t vals) (hy:vals[n]? =none)
  (q:∀h' e,Heap.ExtBut ad s.heap h'->(∃o,h'.get? e=some o/\o.cls= .type "StopIteration")->E (.ref e) {s with heap:=h'}):wpAny (model prog w) A (Builtin.SmallTypes.nextOf (.ref ad)) Q E s:=by
 cases k with
 | true=>exact wpAny_nextOf_list_end hn st hv hy q
 | false=>exact HF hn st hv hy q
theorem HG {k:Bool}(hn:A.handled=none) (ad t:Addr) (hne:t≠ad) (vals:Array Value):Draws prog w A ad [ad,t] vals.size (fun i v=>vals[i]? =some v) (fun i h=>kH k h ad t i/\pD k h t vals) where
 live:=fun _ _ st=>let⟨o,ho,_⟩:=st.1.obj;⟨o,ho⟩
 frame:=fun _ _ _ st hk=>⟨st.1.at fun o e=>hk ad (by simp) o e,st.2.at fun o e=>hk t (by simp) o e⟩
 item:=fun i s Q E hi st hQ=>nextK st.1 st.2 (y:=vals[i]) (by simp[hi]) fun h' HH hs'=>hQ _ h' s.toks (by simp[hi]) ⟨HH,st.2.at fun o e=>hs'.extBut _ _ hne e⟩ hs'
 done:=fun s Q E st hE=>As hn st.1 st.2 (by simp) hE
end
theorem Cc (l:Addr) (vals:Array Value) (n:Nat) (dct:Option Addr) (sl:Array (Option Value)):
  Meets (Builtin.«enumerate.__new__» ⟨[.type "enumerate",.ref l],[]⟩) (fun _ R s=>s.heap.get? l=some {cls:=.type "tuple",dict:=dct,data:=.seq vals n,slots:=sl}/\
   R (.ok (.ret (.ref (s.heap.push (A0 false l)).objs.size))) {s with heap:=(s.heap.push (A0 false l)).push {cls:=.type "enumerate",data:=.fields #[.none,.bool false,.ref s.heap.objs.size,rawInt 0,.none,.none]}}):=
 .of_wp fun prog w A R s h=>by
  obtain⟨hp,g,d,tk,os⟩:=s;obtain⟨hl,h⟩:=h
  have hsub:=sub_enumerate
  have hT:Heap.IsTuple (Shared.heap ⟨hp,g,d,tk,os⟩) l vals:=⟨_,hl,rfl,n,rfl⟩
  wp_walk using wpAny_loadPart' hl
  refine wpAny_stack_any fun st=>wpAny_pure ?_
  split
  ·rename_i c _ _ _ _ _
   cases(c == Value.type "enumerate")
   ·wp_walk using wpAny_loadPart' hl,wpAny_pyIter_tuple hT;exact⟨_,rfl,h⟩
   ·wp_walk using wpAny_loadPart' hl,wpAny_pyIter_tuple hT;exact⟨_,rfl,h⟩
  ·wp_walk using wpAny_loadPart' hl,wpAny_pyIter_tuple hT;exact⟨_,rfl,h⟩
section
variable {prog:Program}{w:World}{A:Around}{E:Value->Shared->Prop}{s:Shared}
theorem xO {k:Bool}{l:Addr}{vals:Array Value}{Q:Value->Shared->Prop}(hL:pD k s.heap l vals)
  (h:∀h',IsEnum h' (s.heap.objs.size+1) s.heap.objs.size 0 .none->kH k h' s.heap.objs.size l 0->(∀b o,s.heap.get? b=some o->h'.get? b=some o)->Q (.ref (s.heap.objs.size+1)) {s with heap:=h'}):
  wpAny (model prog w) A (call (.type "enumerate") [.ref l]) Q E s:=by
 cases k with
 | true=>exact call_enumerate_list hL fun h' a b _ c=>h h' a b c
 | false=>
  obtain⟨⟨c,dct,dt,sl⟩,hl,hc,n,hd⟩:=hL
  have hc:c= .type "tuple":=hc
  have hd:dt= .seq vals n:=hd
  subst hc hd
  refine callType_new F.called_enumerate (by decide) (F.typeCall_enumerate_1 _) (F.newCall_enumerate_1 _) (fun obj=>F.args_object_init_2 obj _) F.entry_enumerate_new (Cc l vals n dct sl) ⟨hl,?_⟩
  have hz:(s.heap.push (A0 false l)).objs.size=s.heap.objs.size+1:=Heap.size_push ..
  show _/\_
  rw[hz]
  have he:IsEnum ((s.heap.push (A0 false l)).push {cls:=.type "enumerate",data:=.fields #[.none,.bool false,.ref s.heap.objs.size,rawInt 0,.none,.none]}) (s.heap.objs.size+1) s.heap.objs.size 0 .none:=by
   have:=Heap.get?_push_size (s.heap.push (A0 false l)) (o:={cls:=.type "enumerate",data:=.fields #[.none,.bool false,.ref s.heap.objs.size,rawInt 0,.none,.none]}) rfl
   rw[hz] at this;exact this
  exact⟨⟨_,he,rfl⟩,h _ he ((kH.new false s.heap l).at fun o e=>Heap.get?_push_of_some _ e) fun b o x=>Heap.get?_push_of_some _ (Heap.get?_push_of_some _ x)⟩
end
theorem HJ {prog:Program}{w:World}{A:Around}{k:Bool}(hn:A.handled=none) (ad t:Addr) (vals:Array Value) (n:Nat) (he:vals[n]? =none):Draws prog w A ad [ad,t] n (fun _ _=>True) (fun i h=>kH k h ad t i/\pD k h t vals/\i=n) where
 live:=fun _ _ st=>let⟨o,ho,_⟩:=st.1.obj;⟨o,ho⟩
 frame:=fun _ _ _ st hk=>⟨st.1.at fun o e=>hk ad (by simp) o e,st.2.1.at fun o e=>hk t (by simp) o e,st.2.2⟩
 item:=fun i s Q E hi st hQ=>absurd hi (by rw[st.2.2];exact Nat.lt_irrefl _)
 done:=fun s Q E st hE=>As hn st.1 st.2.1 he hE
noncomputable def w5 (K:PySem.W.Frag) (H:Hp) (k:Bool) (a:Addr) (xs:List V):Prop:=match k with
 | true=>mR K H a xs
 | false=>tM K H a xs
section
variable {X:Cx}{pins:List (Addr×Obj)}{σ:St}{H:Hp}{s:Shared}
theorem Inv.Ef (I:Inv X pins σ H s){k:Bool}{a:Addr}{xs:List V}(h:w5 X.K H k a xs):∃its:List Value,Vals xs its/\pD k s.heap a its.toArray/\xs.length<=sizeLine:=by
 cases k with
 | true=>obtain⟨its,r,p,z⟩:=I.list h;exact⟨its,r,p.isList,z⟩
 | false=>obtain⟨its,r,p,z⟩:=I.tuple h;exact⟨its,r,p,z⟩
theorem Inv.uu (I:Inv X pins σ H s){k:Bool}{a:Addr}{xs ys:List V}(h:w5 X.K H k a xs) (h':w5 X.K H k a ys):xs=ys:=by
 cases k with
 | true=>exact I.vj h h'
 | false=>exact I.sr h h'
theorem Inv.uv {t':Nat}{h':Heap}{fp:List Addr}(I:Inv X pins σ H s) (k:∀b o,b∉fp->s.heap.get? b=some o->h'.get? b=some o) (hf:∀b∈fp,kD X pins H b):Inv X pins σ H {s with heap:=h',toks:=t'}:=by
 have JY:∀b u,H b=some u->b∉fp:=fun b u e z=>by rw[(hf b z).1] at e;cases e
 refine I.step (g':=s.gens) (d':=s.drawn) (ch:=fp) (fun b hb=>?_) (fun b o _ _ hc e _=>k b o hc e) (fun b o _ _ hc e _=>⟨o.slots,k b o hc e⟩) (fun _ _ _ _ n=>n)
  (fun b o hc e=>⟨o,k b o hc e⟩) (fun _ _ e=>e) (fun _ _ _ e=>e) (fun b ps e=>⟨#[],by rw[e];simp⟩) (fun m hm=>?_) (fun b u e=>?_) I.bare
 ·obtain⟨_,f1,_,f3,f4,f5⟩:=hf b hb
  exact⟨f3,f1,f4,f5⟩
 ·obtain⟨o,es,ep,ho,r⟩:=hm
  exact⟨o,es,ep,k _ o (fun z=>(hf _ z).2.1 rfl) ho,r⟩
 ·refine(I.hok b u e).stay (fun c v hc q=>k c v ?_ q) (fun _ q=>q) fun _ _ q=>q
  rcases hc with z | z
  ·rw[z];exact JY b u e
  ·exact JY c _ z
theorem Inv.handed {t':Nat}{h':Heap}{fp:List Addr}{xs:List V}{its:List Value}(I:Inv X pins σ H s) (hf:∀b∈fp,kD X pins H b) (hlt:∀b∈fp,b < s.heap.objs.size) (k:∀b o,b∉fp->s.heap.get? b=some o->h'.get? b=some o)
  (ht:h'.get? s.heap.objs.size=some {cls:=.type "tuple",data:=.seq its.toArray}) (hv:Vals xs its) (hz:xs.length<=sizeLine):Inv X pins σ (upd H s.heap.objs.size (.tup xs)) {s with heap:=h',toks:=t'}:=by
 have I1:Inv X pins σ (upd H s.heap.objs.size (.tup xs)) {s with heap:=s.heap.push {cls:=.type "tuple",data:=.seq its.toArray},toks:=t'}:=
  I.laid (fun _ _ q=>Heap.get?_push_of_some _ q) (Nat.le_refl _) ⟨hz,its,hv,IsTup.new s.heap _⟩
 refine Inv.uv (s:={s with heap:=s.heap.push {cls:=.type "tuple",data:=.seq its.toArray},toks:=t'}) (t':=t') (fp:=fp) I1 (fun b o hb e=>?_) fun b hb=>?_
 ·rcases Heap.get?_push_cases (show(s.heap.push {cls:=.type "tuple",data:=.seq its.toArray}).get? b=some o from e) with⟨z1,z2⟩ | z
  ·rw[z1,z2];exact ht
  ·exact k b o hb z
 ·obtain⟨f0,f1,f2,f3,f4,f5⟩:=hf b hb
  exact⟨by rw[aK (Nat.ne_of_lt (hlt b hb))];exact f0,f1,f2,f3,f4,f5⟩
end
noncomputable def SW (K:PySem.W.Frag) (k:Bool) (a:Addr):It:=
 ⟨fun i H=>∃xs x,w5 K H k a xs/\xs[i]? =some x,fun i H x H'=>∃p y,H p=none/\x= .ref p/\H'=upd H p (.tup [.int i,y])/\∀xs,w5 K H k a xs->xs[i]? =some y,fun i H=>∃xs,w5 K H k a xs/\xs.length<=i⟩
theorem Au {P : Program} {w : World} {K : PySem.W.Frag} {elts : List Expr} {j : Nat} {pos : Pos} (k : Bool) (a it e : Addr) (hai : a ≠ it) (UN : e ≠ a) (hei : e ≠ it) : Turn P w K (.Tuple elts j pos) (SW K k a) [e, it] e (fun i h => (∃ old, IsEnum h e it (i : Int) old) /\ kH k h it a i) where
  mem:=by simp
  obj := fun i h ⟨⟨old, he⟩, st⟩ b hb => by
    rcases List.mem_cons.mp hb with z | z
    . subst z;exact⟨_,he,fun v z=>by cases z⟩
    . have z:b=it:=by simpa using z
      subst z
      exact st.obj
  keep:=fun i h h' ⟨⟨old,he⟩,st⟩ g=>⟨⟨old,g e (by simp) _ he⟩,st.at fun o q=>g it (by simp) o q⟩
  item:=by
    intro X hP hw hK hc i pins s σ H E I hf st hg
    subst hP hw hK
    obtain⟨xs,x,hq,hx⟩:=hg
    obtain⟨its,rv,p,hz⟩:=I.Ef hq
    obtain⟨u,hu,ru⟩:=rv.get hx
    obtain⟨⟨old,he⟩,hit⟩:=st
    have hsz:i < its.toArray.size:=by rw[List.size_toArray];exact(List.getElem?_eq_some_iff.mp hu).1
    refine wpAny_pyNext_enum_itemD (HG (k:=k) (A:=X.A.in1) (I.ok.hd hc) it a hai its.toArray) he ⟨hit,p⟩ hsz hei (by simp[UN,hei]) fun y h' tk hy ho hs' hT XQ hk=>?_
    obtain⟨HH,p'⟩:=hs'
    have ey:y=u:=by
      have h1:its.toArray[i]? =some u:=by simpa using hu
      rw[h1] at hy;exact(Option.some.inj hy).symm
    subst ey
    refine⟨_,rfl,wpAny_letOwnedTupleGo_enum ho fun h2 UO hs2=>?_⟩
    have hs2:Heap.SameBut e h' h2:=hs2
    have elt:e < s.heap.objs.size:=Heap.lt_size he
    obtain⟨oi,UP,_⟩:=hit.obj
    have UQ:it < s.heap.objs.size:=Heap.lt_size UP
    have Le:∀b∈[e,it],b < s.heap.objs.size:=fun b hb=>by
      rcases List.mem_cons.mp hb with z | z
      . rw[z];exact elt
      . rw[show b=it by simpa using z];exact UQ
    have I2:Inv X pins σ (upd H s.heap.objs.size (.tup [.int i,x])) {s with heap:=h2,toks:=tk+1}:=
      I.handed (its:=[.int i tk,y]) hf Le (fun b o hb q=>(hs2.2 b fun z=>hb (by simp[z])).trans (hk b o (fun z=>hb (by simp[z])) (fun z=>hb (by simp[z])) q))
        ((hs2.2 _ (Nat.ne_of_gt elt)).trans hT) (.cons ⟨tk,rfl⟩ (.cons ru .nil)) (show 2<=sizeLine by decide)
    refine⟨.ref s.heap.objs.size,_,I2,rfl,⟨_,x,I.fresh,rfl,rfl,fun ys UR=>by rw[I.uu UR hq];exact hx⟩,⟨⟨y,by simpa using UO⟩,HH.at fun o q=>(hs2.2 _ (Ne.symm hei)).trans q⟩,fun b hb=>?_⟩
    rw[aK (Nat.ne_of_lt (Le b hb))]
    exact(hf b hb).1
  done:=by
    intro X hP hw hK hc i pins s σ H E I hf st hg
    subst hP hw hK
    obtain⟨xs,hq,hx⟩:=hg
    obtain⟨its,rv,p,hz⟩:=I.Ef hq
    obtain⟨⟨old,he⟩,hit⟩:=st
    have hl:=rv.length
    refine wpAny_pyNext_enum_endD (n:=i) (HJ (k:=k) (A:=X.A.in1) (I.ok.hd hc) it a its.toArray i (by simp;omega)) he ⟨hit,p,rfl⟩ fun h' hx=>?_
    exact⟨rfl,I.uv (t':=s.toks) (fun b o hb q=>hx b o (fun z=>hb (by simp[z])) q) hf⟩
  self:=fun _ _ _ _ _ st h=>by
    obtain⟨⟨old,he⟩,_⟩:=st
    exact wpAny_pyIter_enum he h
noncomputable abbrev TupAt (h:Heap) (T:Addr) (vals:Array Value):Prop:=h.get? T=some {cls:=.type "tuple",data:=.seq vals}
section
variable {prog:Program}{w:World}{A:Around}{E:Value->Shared->Prop}{s:Shared}
theorem HK {T:Addr}{vals:Array Value}{x:Value}{k:Nat}{Q:Unit->Shared->Prop}(hT:TupAt s.heap T vals) (hz:vals.size<=sizeLine) (h:∀h',TupAt h' T (vals.setIfInBounds k x)->Heap.SameBut T s.heap h'->Q () {s with heap:=h'}):
  wpAny (model prog w) A (updateSeq T (·.setIfInBounds k x)) Q E s:=by
 refine wpAny_updateSeq hT rfl (h _ ?_ (Heap.SameBut.update ..)) hz (by simp only[Array.size_setIfInBounds];omega);rw[TupAt,Heap.get?_update_self _ hT rfl];simp[Obj.mapSeq]
structure OU (N:Nat) (k0 k1:Bool) (l0 l1:Nat) (i:Nat) (f0:Value) (h:Heap):Prop where
 z:IsZip h (N+4) (N+2) (N+3) f0
 ti:TupAt h (N+2) #[.ref N,.ref (N+1)]
 to:∃v:List Value,v.length=2/\TupAt h (N+3) v.toArray
 c0:kH k0 h N l0 i
 c1:kH k1 h (N+1) l1 i
noncomputable def kE (N:Nat):List Addr:=[(N+4),(N+2),(N+3),N,(N+1)]
theorem bu {N b:Nat}:b∈kE N↔N<=b/\b<=N+4:=by
 unfold kE
 simp only[List.mem_cons,List.not_mem_nil,or_false]
 omega
end
noncomputable abbrev zd (h:Heap) (k0 k1:Bool) (l0 l1:Nat):Heap:=((h.push (A0 k0 l0)).push (A0 k1 l1))
noncomputable abbrev ze (h:Heap) (k0 k1:Bool) (l0 l1:Nat):Heap:=(zd h k0 k1 l0 l1).push {cls:=.type "tuple",data:=.seq #[.ref h.objs.size,.ref (h.push (A0 k0 l0)).objs.size]}
noncomputable abbrev zf (h:Heap) (k0 k1:Bool) (l0 l1:Nat):Heap:=(ze h k0 k1 l0 l1).push {cls:=.type "tuple",data:=.seq #[.none,.none]}
noncomputable abbrev sJ (h:Heap) (k0 k1:Bool) (l0 l1:Nat):Heap:=(zf h k0 k1 l0 l1).push {cls:=.type "zip",data:=.fields #[.none,.bool false,.bool false,.ref (zd h k0 k1 l0 l1).objs.size,.ref (ze h k0 k1 l0 l1).objs.size]}
theorem Eg (k0 k1:Bool) (l0 l1:Nat) (v0 v1:Array Value):Meets (Builtin.«zip.__new__» ⟨[.type "zip",.ref l0,.ref l1],[]⟩) (fun _ R s=>pD k0 s.heap l0 v0/\pD k1 s.heap l1 v1/\R (.ok (.ret (.ref (zf s.heap k0 k1 l0 l1).objs.size))) {s with heap:=sJ s.heap k0 k1 l0 l1}):=
 .of_wp fun prog w A R s h=>by
  obtain⟨hp,g,d,tk,os⟩:=s;obtain⟨q0,q1,h⟩:=h
  have hsub:=sub_zip
  have p0:pD k0 (Shared.heap ⟨hp,g,d,tk,os⟩) l0 v0:=q0.at fun o e=>e
  have p1:pD k1 (Shared.heap ⟨(hp.push (A0 k0 l0)),g,d,tk,os⟩) l1 v1:=q1.at fun o e=>Heap.get?_push_of_some _ (e)
  wp_walk using Gf p0,Gf p1
  exact⟨_,rfl,h⟩
theorem Cd {prog:Program}{w:World}{A:Around}{E:Value->Shared->Prop}{s:Shared}{k0 k1:Bool}{l0 l1:Nat}{v0 v1:Array Value}{Q:Value->Shared->Prop}(q0:pD k0 s.heap l0 v0) (q1:pD k1 s.heap l1 v1)
  (h:∀h',OU s.heap.objs.size k0 k1 l0 l1 0 .none h'->(∀c o,s.heap.get? c=some o->h'.get? c=some o)->Q (.ref (s.heap.objs.size+4)) {s with heap:=h'}):wpAny (model prog w) A (call (.type "zip") [.ref l0,.ref l1]) Q E s:=by
 refine callType_new F.called_zip (by decide) (F.typeCall_zip_2 _ _) (F.newCall_zip_2 _ _) (fun obj=>F.args_object_init_3 obj _ _) F.entry_zip_new (Eg k0 k1 l0 l1 v0 v1) ⟨q0,q1,?_⟩
 have e0:(zd s.heap k0 k1 l0 l1).objs.size=s.heap.objs.size+2:=by simp only[Heap.size_push]
 have e1:(ze s.heap k0 k1 l0 l1).objs.size=s.heap.objs.size+3:=by rw[Heap.size_push,e0]
 have e2:(zf s.heap k0 k1 l0 l1).objs.size=s.heap.objs.size+4:=by rw[Heap.size_push,e1]
 have g2:(sJ s.heap k0 k1 l0 l1).get? (zf s.heap k0 k1 l0 l1).objs.size=some _:=Heap.get?_push_size _ rfl
 have g1:(sJ s.heap k0 k1 l0 l1).get? (ze s.heap k0 k1 l0 l1).objs.size=some _:=Heap.get?_push_of_some _ (Heap.get?_push_size _ rfl)
 have g0:(sJ s.heap k0 k1 l0 l1).get? (zd s.heap k0 k1 l0 l1).objs.size=some _:=Heap.get?_push_of_some _ (Heap.get?_push_of_some _ (Heap.get?_push_size _ rfl))
 rw[e2,e0,e1] at g2
 rw[e1] at g1
 rw[e0] at g0
 simp only[Heap.size_push] at g0
 show _/\_
 rw[e2]
 refine⟨⟨_,g2,rfl⟩,h _ ⟨g2,g0,⟨[.none,.none],rfl,g1⟩,?_,?_⟩ fun c o x=>Heap.get?_push_of_some _ (Heap.get?_push_of_some _ (Heap.get?_push_of_some _ (Heap.get?_push_of_some _ (Heap.get?_push_of_some _ (x)))))⟩
 ·have:=(kH.new k0 (s.heap) l0).at (h':=sJ s.heap k0 k1 l0 l1) fun o e=>Heap.get?_push_of_some _ (Heap.get?_push_of_some _ (Heap.get?_push_of_some _ (Heap.get?_push_of_some _ (e))))
  simpa only[Heap.size_push] using this
 ·have:=(kH.new k1 ((s.heap).push (A0 k0 l0)) l1).at (h':=sJ s.heap k0 k1 l0 l1) fun o e=>Heap.get?_push_of_some _ (Heap.get?_push_of_some _ (Heap.get?_push_of_some _ (e)))
  simpa only[Heap.size_push] using this
noncomputable def Lf (K:PySem.W.Frag) (k0 k1:Bool) (l0 l1:Nat):It:=
  ⟨fun i H=>∃a0 x0 a1 x1,(w5 K H k0 l0 a0/\a0[i]? =some x0)/\(w5 K H k1 l1 a1/\a1[i]? =some x1),
   fun i H x H'=>∃p y0 y1,H p=none/\x= .ref p/\H'=upd H p (.tup [y0,y1])/\(∀xs,w5 K H k0 l0 xs->xs[i]? =some y0)/\(∀xs,w5 K H k1 l1 xs->xs[i]? =some y1),
   fun i H=>∃a0 a1,w5 K H k0 l0 a0/\w5 K H k1 l1 a1/\(a0.length<=i\/a1.length<=i)⟩
section
variable {X:Cx}{a b c e:Expr}{body elts:List Expr}{pos p tpos:Pos}{jt:Nat}
theorem pD.lt {k:Bool}{h:Heap}{a:Addr}{its:Array Value}(x:pD k h a its):a < h.objs.size:=by
 cases k <;> exact let⟨o,ho,_⟩:=x;Heap.lt_size ho
noncomputable def Lg (K:PySem.W.Frag) (ta:TA):TI:=fun σ H R=>ta σ H fun vs H1=>∃k a xs,vs=[.ref a]/\w5 K H1 k a xs/\R (SW K k a) H1
theorem Eh {ta:TA}(hg:Gl X "enumerate") (hm:X.mg "enumerate" =none) (ha:PA X [a] ta) (hs:starEach [a] X.env=[(false,eval a X.env)]:=by rfl):PI X (.Tuple elts jt tpos) (.Call (.Name "enumerate" p) [a] [] pos) (Lg X.K ta):=by
 intro pins s σ H R I h
 refine Call_ (ow I hg hm boot_enumerate (PyProof.Rows.callWith_type1 (fh (ha pos pins s σ H _ I h) fun us s1 ⟨vs,H1,I1,r1,q1⟩=>?_) hs rfl))
 obtain⟨k,a,xs,rfl,hq,q⟩:=q1
 cases r1 with
 | cons r rr=>
  cases rr
  cases r
  obtain⟨its,rv,p,hz⟩:=I1.Ef hq
  refine xO p fun h' he hit hk=>wpAny_pyIter_enum he ?_
  have lt:=p.lt
  refine⟨s1.heap.objs.size+1,[s1.heap.objs.size+1,s1.heap.objs.size],_,_,H1,rfl,I1.kept (t':=s1.toks) hk,Au k a s1.heap.objs.size (s1.heap.objs.size+1) (Nat.ne_of_lt lt) (Nat.ne_of_gt (Nat.lt_succ_of_lt lt)) (Nat.succ_ne_self _),⟨⟨.none,he⟩,hit⟩,fun b hb=>?_,q⟩
  have hb:s1.heap.objs.size<=b:=by
   rcases List.mem_cons.mp hb with z | z
   ·rw[z];exact Nat.le_succ _
   ·rw[show b=s1.heap.objs.size by simpa using z];exact Nat.le_refl _
  exact I1.vm hb (I1.hok.fresh hb)
noncomputable def Lh (K:PySem.W.Frag) (ta:TA):TI:=fun σ H R=>ta σ H fun vs H1=>∃k0 k1 a0 a1 MN MP,vs=[.ref a0,.ref a1]/\w5 K H1 k0 a0 MN/\w5 K H1 k1 a1 MP/\R (Lf K k0 k1 a0 a1) H1
noncomputable def WalkN (J:It) (F:Hp) (ds:List D):Prop:=∀F' H',(∀b o,F b=some o->F' b=some o)->Sub F' H'->∀i,(∀d,ds[i]? =some d->J.go i H'/\∀x H2,J.Jp i H' x H2->∃F2,gT F' H' F2 H2/\Sub F2 H2/\Rep F2 x d)/\(ds.length<=i->J.stop i H')
noncomputable def Li (K:PySem.W.Frag) (B:Base) (gi:GI):TI:=fun σ H R=>∃S F ds S',Rel K B S σ F H/\gi S=some (ds,S')/\∀J F' H',Rel K B S' σ F' H'->Step S S' σ F H F' H'->WalkN J F' ds->R J H'
structure Lj (X:Cx) (tg e:Expr) (gi:GI):Prop where
 h:∀B,PI X tg e (Li X.K B gi)
noncomputable def rN:D->Option (Bool×List D)
 | .lst ds=>some (true,ds)
 | .tup ds=>some (false,ds)
 | _=>none
theorem Sub.Ce {K:PySem.W.Frag}{F H:Hp}{v:V}{d:D}{k:Bool}{ds:List D}(sb:Sub F H) (r:Rep F v d) (e:rN d=some (k,ds)):
  ∃a vs,v= .ref a/\bD F vs ds/\∀F' H',(∀b o,F b=some o->F' b=some o)->Sub F' H'->w5 K H' k a vs:=by
 cases d <;> try (cases e;done)
 ·cases e
  obtain⟨a,vs,rfl,fa,ha,rs⟩:=sb.iV r
  exact⟨a,vs,rfl,rs,fun F' H' le sb'=>.inl (Rd.of (sb' a _ (le _ _ fa)))⟩
 ·cases e
  obtain⟨a,vs,rfl,fa,ha,rs⟩:=sb.jq r
  exact⟨a,vs,rfl,rs,fun F' H' le sb'=>.inl (fa.same fun b o z=>sb' b o (le b o z))⟩
noncomputable def iE (ds:List D):List D:=ds.mapIdx fun i d=>.tup [.int i,d]
noncomputable def mJ (gA:GA):GI:=fun S=>(gA S).bind fun p=>match p.1 with
 | [d]=>(rN d).map fun q=>(iE q.2,p.2)
 | _=>none
theorem uw {gA:GA}(hg:Gl X "enumerate") (hm:X.mg "enumerate" =none) (ha:JA X [a] gA) (hs:starEach [a] X.env=[(false,eval a X.env)]:=by rfl):Lj X (.Tuple elts jt tpos) (.Call (.Name "enumerate" p) [a] [] pos) (mJ gA):=
 ⟨fun B=>PI.orelse fun σ H R0 ⟨S,F,ds,S',R,hg',k⟩=>by
 obtain⟨⟨args,S1⟩,h1,hg'⟩:=aj hg'
 refine⟨_,Eh hg hm (ha.h B) hs,S,F,args,S1,R,h1,fun vs F1 H1 R1 st1 r1=>?_⟩
 dsimp only at hg'
 split at hg'
 ·obtain⟨⟨kk,es⟩,h2,hg'⟩:=aE hg'
  cases hg'
  cases r1 with
  | cons r rr=>
   cases rr
   obtain⟨a,ws,rfl,rs,sq⟩:=R1.sub.Ce (K:=X.K) r h2
   refine⟨kk,a,ws,rfl,sq F1 H1 (fun _ _ z=>z) R1.sub,k _ F1 H1 R1 st1 fun F' H' le sb i=>⟨fun d hd=>?_,fun hl=>⟨ws,sq F' H' le sb,by rw[rs.length];simpa[iE] using hl⟩⟩⟩
   unfold iE at hd
   rw[List.getElem?_mapIdx] at hd
   obtain⟨d0,hd0,rfl⟩:=aE hd
   obtain⟨v,k1,k2⟩:=rs.get hd0
   refine⟨⟨ws,v,sq F' H' le sb,k1⟩,fun x H2 y=>?_⟩
   obtain⟨p,y,hp,rfl,rfl,hy⟩:=y
   have ey:=hy ws (sq F' H' le sb)
   rw[k1] at ey
   cases ey
   exact⟨_,gT.root sb hp _,sb.mW hp,.tup aU (.cons (.int _) (.cons (k2.le fun b o z=>j6 (sb.fresh hp) b o (le b o z)) .nil))⟩
 ·cases hg'⟩
noncomputable def zg (gA:GA):GI:=fun S=>(gA S).bind fun p=>match p.1 with
 | [d,e]=>(rN d).bind fun q=>(rN e).map fun r=>(List.zipWith (fun a b=>.tup [a,b]) q.2 r.2,p.2)
 | _=>none
theorem zh {tg iter:Expr}{stmts:List Stmt}{s1:GS}{bd:GB}{gi:GI}(hp:PassesOwn (model X.prog X.w) X.A X.env X.xe) (hc:X.calm=true) (hi:Lj X tg iter gi) (hg:JG X tg bd) (hb:JB X stmts s1) (hs:∀x,foldedSetIterable iter X.env x=pure x:=by intro _;rfl):
  JS X (.For tg iter stmts [] pos) (j9 bd gi s1):=⟨fun B=>(xm hp hc (hi.h B) (hg.h B) (hb.h B) hs).imp fun D σ H ⟨S,F,o,R,h,k⟩=>by
 obtain⟨⟨ds,S1⟩,h1,h⟩:=aj h
 refine⟨S,F,ds,S1,R,h1,fun J F1 H1 R1 st1 w=>?_⟩
 refine⟨fun i m σ' H'=>∃S' F',Rel X.K B S' σ' F' H'/\(∀b o,F1 b=some o->F' b=some o)/\i<=ds.length/\m=ds.length - i/\loop bd s1 (ds.drop i) S'=some o,⟨_,S1,F1,R1,fun _ _ z=>z,Nat.zero_le _,rfl,h⟩,?_⟩
 rintro i m σ' H' ⟨S',F',R',le,hl,rfl,dI⟩
 have w':=w F' H' le R'.sub i
 by_cases hlt:i < ds.length
 ·have hd:ds[i]? =some ds[i]:=List.getElem?_eq_getElem hlt
  obtain⟨go,yl⟩:=w'.1 _ hd
  rw[List.drop_eq_getElem_cons hlt] at dI
  obtain⟨S2,e2,dI⟩:=aj dI
  obtain⟨o2,e3,dI⟩:=aj dI
  refine .inr ⟨go,_,fun σ2 H2 n=>⟨ds.length - (i+1),by omega,n⟩,fun x H2 y=>?_⟩
  obtain⟨F2,nw,OV,rx⟩:=yl x H2 y
  have R2:=R'.new nw OV
  have le:∀b o,F1 b=some o->F2 b=some o:=fun b o z=>nw.le b o (le b o z)
  refine⟨S',F2,_,S2,R2,rx,e2,fun σ3 R3=>⟨S2,F2,o2,R3,e3,?_⟩⟩
  cases o2 with
  | nx S3=>exact fun uY F4 H4 R4 pM=>⟨S3,F4,R4,fun b o z=>pM b o (le b o z),hlt,rfl,dI⟩
  | ct S3=>exact fun uY F4 H4 R4 pM=>⟨S3,F4,R4,fun b o z=>pM b o (le b o z),hlt,rfl,dI⟩
  | bk S3=>cases dI;exact fun uY F4 H4 R4 pM=>k uY F4 H4 R4 fun b o z=>pM b o (le b o (st1.ext.le b o z))
  | rt u S3=>cases dI;exact fun v uY F4 H4 R4 pM=>k v uY F4 H4 R4 fun b o z=>pM b o (le b o (st1.ext.le b o z))
 ·have e:i=ds.length:=by omega
  subst e
  rw[List.drop_length] at dI
  cases dI
  exact .inl ⟨w'.2 (Nat.le_refl _),k σ' F' H' R' fun b o z=>le b o (st1.ext.le b o z)⟩⟩
end
section
variable {X:Cx}{a b c e:Expr}{x y:Str}{p px py pos pos' tpos:Pos}{f:List D->Option U}{gb:GD}
theorem qG:fillsNumberSlot (.type "tuple") "mul" =pure false:=
 PySem.fillsNumberSlot_seq (id:="tuple.__mul__") (r:=some (.builtin "tuple.__rmul__")) F.slot_tuple_mul.lookup (by decide +kernel) F.slot_tuple_rmul.lookup (by decide +kernel)
theorem xP:seqRepeat? (.type "tuple")=pure (some (.builtin "tuple.__mul__")):=by
 unfold seqRepeat?
 rw[PySem.seqSlot_of (T:="tuple") (name:="__mul__") (id:="tuple.__mul__") F.slot_tuple_mul.lookup (by decide +kernel),PySem.seqSlot_of (T:="tuple") (name:="__rmul__") (id:="tuple.__rmul__") F.slot_tuple_rmul.lookup (by decide +kernel)];rfl
theorem Cf (z:Int) (t:Tok) (l:Addr) (vals:Array Value) (n:Nat) (dct:Option Addr) (sl:Array (Option Value)):Meets (Builtin.«int.__rmul__» ⟨[.int z t,.ref l],[]⟩) (fun _ R s=>s.heap.get? l=some {cls:=.type "tuple",dict:=dct,data:=.seq vals n,slots:=sl}/\R (.ok (.ret Value.notImplemented)) s):=
 .of_wp fun prog w A R s h=>by obtain⟨hp,g,d,tk,os⟩:=s;obtain⟨hl,h⟩:=h;wp_walk;exact⟨_,rfl,h⟩
theorem Ei (l:Addr) (vals:Array Value) (n:Nat) (dct:Option Addr) (sl:Array (Option Value)) (u:Tok):Meets (Builtin.«tuple.__mul__» ⟨[.ref l,.int 1 u],[]⟩) (fun _ R s=>s.heap.get? l=some {cls:=.type "tuple",dict:=dct,data:=.seq vals n,slots:=sl}/\R (.ok (.ret (.ref l))) s):=
 .of_wp fun prog w A R s h=>by obtain⟨hp,g,d,tk,os⟩:=s;obtain⟨hl,h⟩:=h;wp_walk;exact⟨_,rfl,h⟩
theorem Ej (l:Addr) (vals:Array Value) (n:Nat) (dct:Option Addr) (sl:Array (Option Value)) (x:Int) (u:Tok) (hc0:(decide (x < -(2 ^ 63)) || decide (x≥2 ^ 63))=false) (hc1:(vals.isEmpty || x == 1)=false) (hc2:(decide (x<=0) || vals.isEmpty)=true):
  Meets (Builtin.«tuple.__mul__» ⟨[.ref l,.int x u],[]⟩) (fun _ R s=>s.heap.get? l=some {cls:=.type "tuple",dict:=dct,data:=.seq vals n,slots:=sl}/\R (.ok (.ret (.ref s.heap.objs.size))) {s with heap:=s.heap.push {cls:=.type "tuple",data:=.seq #[]}}):=
 .of_wp fun prog w A R s h=>by obtain⟨hp,g,d,tk,os⟩:=s;obtain⟨hl,h⟩:=h;wp_walk;refine wpAny_ite_false (by rw[hc0];rfl) ?_;wp_walk;exact⟨_,rfl,h⟩
theorem Ek (l:Addr) (vals:Array Value) (n:Nat) (dct:Option Addr) (sl:Array (Option Value)) (x:Int) (u:Tok) (hc0:(decide (x < -(2 ^ 63)) || decide (x≥2 ^ 63))=false) (hc1:(vals.isEmpty || x == 1)=false) (hc2:(decide (x<=0) || vals.isEmpty)=false) (hc3:¬(vals.size * x > (2 ^ 63 - 1) / 8)) (hc4:Builtin.Tuple.tupleTooMany (vals.size * x)=false) (hc5:(List.foldl (fun x1 x2=>x1++x2) #[] (List.replicate x.toNat vals)).size<=sizeLine):
  Meets (Builtin.«tuple.__mul__» ⟨[.ref l,.int x u],[]⟩) (fun _ R s=>s.heap.get? l=some {cls:=.type "tuple",dict:=dct,data:=.seq vals n,slots:=sl}/\R (.ok (.ret (.ref s.heap.objs.size))) {s with heap:=s.heap.push {cls:=.type "tuple",data:=.seq (List.foldl (fun x1 x2=>x1++x2) #[] (List.replicate x.toNat vals))}}):=
 .of_wp fun prog w A R s h=>by obtain⟨hp,g,d,tk,os⟩:=s;obtain⟨hl,h⟩:=h;wp_walk;refine wpAny_ite_false (by rw[hc0];rfl) ?_;wp_walk;refine wpAny_ite_false (decide_eq_false hc3) ?_;refine wpAny_ite_false (by rw[hc4];rfl) ?_;wp_walk;exact⟨_,rfl,h⟩
noncomputable def sL:List D->Option U
 | [.tup [d],.int k]=>if 0<=k/\k.toNat<=100000 then some (.t (.tup (List.replicate k.toNat d))) else none
 | _=>none
theorem Cg (v:Value):∀(m:Nat),List.foldl (fun(x1 x2:Array Value)=>x1++x2) #[] (List.replicate m #[v])=(List.replicate m v).toArray:=fun m=>by
 have f:=foldl_rep [v] m []
 rw[List.nil_append] at f
 have e:(List.replicate m [v]).flatten=List.replicate m v:=by
  induction m with
  | zero=>rfl
  | succ m ih=>
   rw[List.replicate_succ,List.flatten_cons,ih (by have:=foldl_rep [v] m [];rw[List.nil_append] at this;exact this)]
   rfl
 rw[e] at f
 exact f
theorem Vals.repl {v:V}{u:Value}(r:RelV v u):∀m:Nat,Vals (List.replicate m v) (List.replicate m u)
 | 0=>.nil
 | m+1=>.cons r (Vals.repl r m)
theorem bD.repl {F:Hp}{v:V}{d:D}(r:Rep F v d):∀m:Nat,bD F (List.replicate m v) (List.replicate m d)
 | 0=>.nil
 | m+1=>.cons r (bD.repl r m)
theorem Ci : wY X (binaryOp .Mult) sL := by
  intro pins s σ H x y v u Q I rx ry ⟨F,ds,w,sb,rs,hw,q⟩
  obtain⟨d,e,rfl,r1,r2⟩:=qx rs
  unfold sL at hw
  split at hw
  . rename_i d0 k heq
    cases heq
    obtain⟨⟨h1,h2⟩,rfl⟩:=dj hw
    have rb:=r1
    obtain⟨a,vs,rfl,fa,ha,mq⟩:=sb.iV r1
    have hy:=iP r2
    subst hy
    cases mq with
    | @cons v1 _ vs _ rr rt =>
      cases rt
      cases rx
      obtain⟨t,rfl⟩:=ry
      obtain⟨its,rv,pl,hz⟩:=I.tuple (.inl ha)
      obtain⟨u1,rfl,ru⟩:=rv.one
      obtain⟨⟨cls,dd,data,sl⟩,ho,hc,n,hd⟩:=id pl
      simp only at hc hd
      subst hc hd
      refine wpAny_binaryOp_repeat_ref (T:="tuple") (U:="int") (by decide) ⟨_,ho,rfl⟩ (fun s'=>typeIs_int s' k t) qG PySem.F.fills_int_mul PySem.F.slot_int_rmul xP PySem.F.slot_int_index.lookup
        (call_meets PySem.F.slot_int_rmul (typeIs_int s k t) PySem.F.entry_int_rmul (PySem.F.args_int_rmul_2 _ _) (Cf k t a [u1].toArray n dd sl) ⟨ho,rfl,⟨_,ho,rfl⟩,?_⟩)
      by_cases k1:k=1
      . subst k1
        exact call_meets PySem.F.slot_tuple_mul ⟨_,ho,rfl⟩ PySem.F.entry_tuple_mul (PySem.F.args_tuple_mul_2 _ _) (Ei a [u1].toArray n dd sl t) ⟨ho,⟨.ref a,H,I,rfl,q _ F H (gT.refl ..) sb rb⟩⟩
      . have hc1:([u1].toArray.isEmpty || k == 1)=false:=by simp[k1]
        have hp:H s.heap.objs.size=none:=I.fresh
        have hc0:(decide (k < -(2 ^ 63)) || decide (k≥2 ^ 63))=false:=by simp only[Bool.or_eq_false_iff,decide_eq_false_iff_not];omega
        by_cases k0:k<=0
        . have e0:k.toNat=0:=by omega
          rw[e0] at q
          refine call_meets PySem.F.slot_tuple_mul ⟨_,ho,rfl⟩ PySem.F.entry_tuple_mul (PySem.F.args_tuple_mul_2 _ _) (Ej a [u1].toArray n dd sl k t hc0 hc1 (by simp[k0])) ⟨ho,?_⟩
          exact⟨.ref _,_,I.laid (t':=s.toks) (o:=.tup []) (fun _ _ z=>Heap.get?_push_of_some _ z) (Nat.le_refl _) ⟨Nat.zero_le _,[],.nil,IsTup.new s.heap _⟩,rfl,q _ _ _ (gT.root sb hp _) (sb.mW hp) (.tup aU .nil)⟩
        . have ef:=Cg u1 k.toNat
          have sz:((1:Nat):Int) * k=k:=by omega
          have XR:(100000:Nat)<=sizeLine:=by decide
          have hc4:Builtin.Tuple.tupleTooMany (([u1].toArray.size:Nat) * k)=false:=by
            show decide (((1:Nat):Int) * k > (sizeLine:Int))=false
            rw[sz]
            exact decide_eq_false (by omega)
          refine call_meets PySem.F.slot_tuple_mul ⟨_,ho,rfl⟩ PySem.F.entry_tuple_mul (PySem.F.args_tuple_mul_2 _ _) (Ek a [u1].toArray n dd sl k t hc0 hc1 (by simp;omega) (by show ¬(((1:Nat):Int) * k > _);rw[sz];omega) hc4 (by rw[ef,List.size_toArray,List.length_replicate];exact Nat.le_trans h2 (by decide))) ⟨ho,?_⟩
          rw[ef]
          exact⟨.ref _,_,I.laid (t':=s.toks) (o:=.tup (List.replicate k.toNat v1)) (fun _ _ z=>Heap.get?_push_of_some _ z) (Nat.le_refl _) ⟨by rw[List.length_replicate];exact Nat.le_trans h2 (by decide),List.replicate k.toNat u1,Vals.repl ru _,IsTup.new s.heap _⟩,rfl,q _ _ _ (gT.root sb hp _) (sb.mW hp) (.tup aU (bD.repl (rr.le (j6 (sb.fresh hp))) _))⟩
  . cases hw
end
noncomputable def Cj:GE:=fun S=>some (.m (.iO []),S)
noncomputable def qH:GE:=fun S=>some (.m (.dct []),S)
section
variable {X:Cx}{a b c e k:Expr}{x y:Str}{p px py pos pos' tpos apos cpos:Pos}{gk:GD}
theorem El:JE X (.Dict [] [] pos) Cj:=⟨fun B=>Bu.imp fun σ H Q ⟨S,F,u,S',R,hg,q⟩=>by
 cases hg
 intro p hp
 have n:=gT.obj (F:=F) hp (.dT [])
 have hn:¬bY S σ p:=fun m=>by obtain⟨o,ho⟩:=R.has m;rw[hp] at ho;cases ho
 exact q (.ref p) F _ (R.new n (R.sub.same n.same)) n.step ⟨p,rfl,hp,R.sub.fresh hp,⟨[],aU,.nil⟩,hn,none_of R.ext.there hp⟩⟩
theorem zj:JE X (.Dict [] [] pos) qH:=⟨fun B=>Bt.imp fun σ H Q ⟨S,F,u,S',R,hg,q⟩=>by
 cases hg
 intro p hp
 have n:=gT.obj (F:=F) hp (.dK [])
 have hn:¬bY S σ p:=fun m=>by obtain⟨o,ho⟩:=R.has m;rw[hp] at ho;cases ho
 exact q (.ref p) F _ (R.new n (R.sub.same n.same)) n.step ⟨p,rfl,hp,R.sub.fresh hp,⟨[],aU,.nil⟩,hn,none_of R.ext.there hp⟩⟩
noncomputable def Av:U->D->Option Bool
 | .m (.dct kvs),k=>(keyOf k).map fun kk=>(bA kvs kk).isSome
 | .b (.dct kvs),k=>(keyOf k).map fun kk=>(bA kvs kk).isSome
 | .m (.iO kvs),k=>(jk k).map fun kk=>(bA kvs kk).isSome
 | .b (.iO kvs),k=>(jk k).map fun kk=>(bA kvs kk).isSome
 | _,_=>none
noncomputable def oK (n:Bool) (i:Nat) (g:GD):GD:=fun S=>(g S).bind fun p=>match p.2[i]? with
 | some (some u)=>(Av u p.1).map fun h=>(.bl (n != h),p.2)
 | _=>none
theorem nI {κ:Type} [DecidableEq κ] {F:Hp}{ws:List (κ×V)}{kvs:List (κ×D)}(pr:Paired (iL F) ws kvs) (k:κ):(mS ws k).isSome=(bA kvs k).isSome:=by
 cases e:bA kvs k with
 | none=>rw[sI pr e];rfl
 | some d=>obtain⟨v,h,_⟩:=lP pr e;rw[h];rfl
theorem Em {K:PySem.W.Frag}{F H:Hp}{v w:V}{u:U}{d:D}{h:Bool}(sb:Sub F H) (r:tZ K F H v u) (rk:Rep F w d) (e:Av u d=some h):∃a o,v= .ref a/\kN H a w o/\o.isSome=h:=by
 unfold Av at e
 split at e
 ·obtain⟨kk,e1,rfl⟩:=aE e
  obtain⟨a,rfl,fa,ws,ha,pr⟩:=r
  exact⟨a,_,rfl,kN.ky ha (jO rk e1),nI pr kk⟩
 ·obtain⟨kk,e1,rfl⟩:=aE e
  obtain⟨a,rfl,fa,ws,ha,pr⟩:=r
  exact⟨a,_,rfl,kN.ky ha (jO rk e1),nI pr kk⟩
 ·obtain⟨kk,e1,rfl⟩:=aE e
  obtain⟨a,rfl,fa,ws,ha,pr⟩:=r
  obtain⟨b,rfl,hb⟩:=kY sb rk e1
  exact⟨a,_,rfl,kN.t ha hb,nI pr kk⟩
 ·obtain⟨kk,e1,rfl⟩:=aE e
  obtain⟨a,rfl,fa,ws,ha,pr⟩:=r
  obtain⟨b,rfl,hb⟩:=kY sb rk e1
  exact⟨a,_,rfl,kN.t ha hb,nI pr kk⟩
 ·cases e
theorem En {B:Base}{n:Bool}{i:Nat}{σ:St}{H:Hp}{Q:VK}(h:tD X.K B (oK n i gk) σ H Q):tD X.K B gk σ H fun y H1=>DG i σ H1 fun x H2=>∃a o,x= .ref a/\kN H2 a y o/\Q (.bl (n != o.isSome)) H2:=by
 obtain⟨S,F,d,S',R,hg,q⟩:=h
 obtain⟨⟨d1,S1⟩,h1,hg⟩:=aj hg
 dsimp only at hg
 split at hg
 ·rename_i u hS
  obtain⟨h,h2,hg⟩:=aE hg
  cases hg
  refine⟨S,F,d1,_,R,h1,fun v F1 H1 R1 st1 r1=>?_⟩
  obtain⟨v0,hv0,r0⟩:=R1.rep i u hS
  obtain⟨a,o,e1,g1,e2⟩:=Em R1.sub r0 r1 h2
  refine⟨v0,hv0,a,o,e1,g1,?_⟩
  rw[e2]
  exact q (.bl _) F1 H1 R1 st1 (.bl _)
 ·cases hg
end
noncomputable def HL (tk tv:TE):TE:=fun σ H Q=>∀p,H p=none->tk σ (upd H p (.dT [])) fun x H1=>tv σ H1 fun y H2=>∃x' y',[(x,y)]=[(x',y')]/\H2 p=some (.dT [])/\∃(b:Addr) (ks:D),x'= .ref b/\Kd H2 b ks/\Q (.ref p) (upd H2 p (.dT [(ks,y')]))
noncomputable def xQ (gk gv:GD):GE:=fun S=>(gk S).bind fun p=>(jk p.1).bind fun kk=>(gv p.2).map fun q=>(.m (.iO [(kk,q.1)]),q.2)
section
variable {X:Cx}{k v:Expr}{pos:Pos}{tk tv:TE}{gk gv:GD}
theorem Ck (hu:X.A.units+20 < cLine) (hk:PE X k tk) (hv:PE X v tv):PE X (.Dict [some k] [v] pos) (HL tk tv):=by
 intro pins s σ H Q I q
 have hn:=I.hok.fresh (Nat.le_refl s.heap.objs.size)
 have I1:=I.laid (a:=s.heap.objs.size) (o:=.dT []) (h':=s.heap.push {cls:=.type "dict",data:=.dict #[]}) (t':=s.toks) (fun _ _ q=>Heap.get?_push_of_some _ q) (Nat.le_refl _) (vA s.heap I.big)
 have q0:=q _ hn
 refine wpAny_Dict_any rfl rfl (by simp) (by simp) (fh (Bw hk hv (DT (pos:=pos)) pins _ σ _ (fun ps H2=>∃x y,ps=[(x,y)]/\H2 s.heap.objs.size=some (.dT [])/\∃(b:Addr) (ks:D),x= .ref b/\Kd H2 b ks/\Q (.ref s.heap.objs.size) (upd H2 s.heap.objs.size (.dT [(ks,y)]))) I1 q0) fun ws s2 ⟨ps,H2,I2,rel,x,y,ep,e,b,ks,ex,eb,q2⟩=>?_)
 subst ep ex
 cases rel with
 | @cons p w0 ps ws r rr=>
  cases rr
  obtain⟨u,w2⟩:=w0
  obtain⟨r1,r2⟩:=r
  cases(show u=Value.ref b from r1)
  obtain⟨z,hd,xs,rel,dd⟩:=Bq I2.hok e
  have kt:=KT.put rel ks eb r2
  cases rel
  unfold storeAll
  rw[List.forIn_cons]
  refine wpAny_bind (wpAny_bind (wpAny_dictSet_heap (hsz:=Nat.zero_le _) (show X.A.units+8 < cLine by omega) (qk I2.hok eb) dd fun h' Js hs=>wpAny_pure ?_))
  dsimp only
  rw[List.forIn_nil]
  refine wpAny_pure ⟨.ref s.heap.objs.size,_,?_,rfl,q2⟩
  obtain⟨q,es,ep,hq,h2,h3,h4,_,h5⟩:=Js
  refine tT I2 (by rw[e];exact True.intro) hs ⟨q,hq⟩ ⟨by rw[sizeLine_eq];show 1<=_;omega,hd,_,kt.keeps fun c ys ec=>?_,q,es,ep,hq,h2,h3,h4,h5⟩
  rw[aK (FF ec e (fun z=>nomatch z))]
  exact ec
theorem Co (hu:X.A.units+20 < cLine) (hk:JD X k gk) (hv:JD X v gv):JE X (.Dict [some k] [v] pos) (xQ gk gv):=⟨fun B=>(Ck hu (hk.h B) (hv.h B)).imp fun σ H Q ⟨S,F,u,S',R,hg,q⟩=>by
 obtain⟨⟨d1,S1⟩,h1,hg⟩:=aj hg
 obtain⟨ks,hk1,hg⟩:=aj hg
 obtain⟨⟨d2,S2⟩,h2,hg⟩:=aE hg
 cases hg
 intro p hp
 have n:=gT.obj (F:=F) hp (.dT [])
 have hn:¬bY S σ p:=fun m=>by obtain⟨o,ho⟩:=R.has m;rw[hp] at ho;cases ho
 refine⟨S,F,d1,S1,R.new n (R.sub.same n.same),h1,fun v1 F1 H1 R1 OW r1=>⟨S1,F1,d2,S2,R1,h2,fun v2 F2 H2 R2 st2 r2=>?_⟩⟩
 have st1:=OW.trans st2
 have hp1:H2 p=some (.dT []):=st1.ext.keep p _ aU hn
 have hf1:F2 p=none:=st1.ext.gM p _ aU hn (R.sub.fresh hp)
 have hn1:¬bY S2 σ p:=fun m=>hn (st1.mu p m)
 have hB:B.H p=none:=none_of R.ext.there hp
 obtain⟨b,rfl,hb⟩:=kY R2.sub (r1.le st2.ext.le) hk1
 refine⟨_,_,rfl,hp1,b,ks,rfl,hb,?_⟩
 have R3:=R2.OS (o':=.dT [(ks,v2)]) hn1 hf1 hB hp1 (fun _ _ z=>by cases z)
 refine q (.ref p) F2 _ R3 ⟨⟨st1.ext.le,fun b o z m=>?_,fun b o z m f=>?_,fun b o z=>?_,fun b ob w z=>?_⟩,st1.mu,st1.slots⟩ ⟨p,rfl,hp,hf1,⟨_,aU,.cons ⟨rfl,r2⟩ .nil⟩,hn1,hB⟩
 ·have hb:b≠p:=bz z hp
  rw[aK hb]
  exact st1.ext.keep b o (by rw[aK hb];exact z) m
 ·have hb:b≠p:=bz z hp
  exact st1.ext.gM b o (by rw[aK hb];exact z) m f
 ·have hb:b≠p:=bz z hp
  rw[aK hb]
  exact st1.ext.there b o (by rw[aK hb];exact z)
 ·have hb:b≠p:=bz z hp
  rw[aK hb]
  exact st1.ext.iI b ob w (by rw[aK hb];exact z)⟩
theorem lQ {i:Nat}{x:Str}{px:Pos}(hu:X.A.units+20 < cLine) (hk:JD X k gk) (hN:X.N[i]? =some x:=by rfl) (hv:Ba X.env.scope x:=by first | exact Or.inl rfl | exact Or.inr (Or.inl rfl) | exact Or.inr (Or.inr rfl)) (hd:(x == ("__debug__":Str))=false:=by decide) (hcd:(x == ("__classdict__":Str))=false:=by decide)
  (hm:behindInMarks .NotIn (.Name x px)=false:=by with_unfolding_all rfl):JT X (.Compare k [.NotIn] [.Name x px] pos) (qB (oK true i gk)):=⟨fun B=>(GG (Ag hu (hk.h B) (iJ hN hv hd hcd)) hm).imp fun σ H Q ⟨S,F,kk,S',R,hg,q⟩=>by
 have h:tD X.K B (oK true i gk) σ H (fun v H'=>∃d,v= .bl d/\Q d H'):=⟨S,F,.bl kk,S',R,lJ hg,fun v F' H' R' st r=>⟨kk,oE r,q F' H' R' st⟩⟩
 have h2:=En h
 simpa[tB,yO] using h2⟩
end
section
variable {X:Cx}{pins:List (Addr×Obj)}{σ:St}{H:Hp}{s:Shared}{a:Addr}{kvs:List (Str×Int)}
end
section
variable {X:Cx}{e f:Expr}{x:Str}{px pos apos cpos:Pos}{ty tx:TE}{g gd:GD}{a:Addr}{kvs:List (Str×Int)}
end
section
variable {X:Cx}{e:Expr}{x:Str}{px pos:Pos}{g:GD}{a:Addr}{zs:List Str}
end
noncomputable def US:U->D->Option (Option D)
 | .m (.dct kvs),k=>(keyOf k).map (bA kvs)
 | .b (.dct kvs),k=>(keyOf k).map (bA kvs)
 | .m (.iO kvs),k=>(jk k).map (bA kvs)
 | .b (.iO kvs),k=>(jk k).map (bA kvs)
 | _,_=>none
noncomputable def Lk:U->Bool
 | .m (.dct _)=>true
 | .b (.dct _)=>true
 | .m (.iO _)=>true
 | .b (.iO _)=>true
 | _=>false
section
variable {X:Cx}{e f:Expr}{x:Str}{px pos apos cpos:Pos}{gk gd:GD}{ge:GE}
end
end L2
end
section
namespace HT
open PySem PySem.Spec PyProof.Rows
section
variable {prog:Program}{w:World}{A:Around}{E:Value->Shared->Prop}{s:Shared}
end
end HT
namespace L2
open PySem PySem.Spec PyProof.Rows
section
variable {X:Cx}{e st:Expr}{te ts:TE}{pos p2:Pos}
end
noncomputable def nJ:List Int->Int
 | []=>0
 | [a]=>a
 | a :: b :: r=>max a (nJ (b :: r))
theorem zl : ∀ {ns : List Int} {M : Int}, M ∈ ns -> (∀ a ∈ ns, a <= M) -> nJ ns = M
  | [],_,h,_=>by cases h
  | [a],M,h,_=>by rw[List.mem_singleton.mp h];rfl
  | a :: b :: r, M, h, k => by
    have hb : ∀ x ∈ b :: r, x <= nJ (b :: r) := by
      have:∀(l:List Int),∀x∈l,x<=nJ l:=by
        intro l
        induction l with
        | nil=>intro x hx;cases hx
        | cons a l ih=>
          intro x hx
          cases l with
          | nil=>rw[List.mem_singleton.mp hx];exact Int.le_refl _
          | cons b r=>
            show x<=max a (nJ (b :: r))
            rcases List.mem_cons.mp hx with rfl | q
            . omega
            . have:=ih x q;omega
      exact this _
    have hm:∀(l:List Int),l≠[]->nJ l∈l:=by
      intro l
      induction l with
      | nil=>intro z;exact absurd rfl z
      | cons a l ih=>
        intro _
        cases l with
        | nil=>exact List.mem_singleton.mpr rfl
        | cons b r=>
          have:=ih (by simp)
          show max a (nJ (b :: r))∈_
          by_cases c:a<=nJ (b :: r)
          . rw[Int.max_eq_right c];exact List.mem_cons_of_mem _ this
          . rw[Int.max_eq_left (by omega)];exact List.mem_cons_self
    have h1:=hm (a :: b :: r) (by simp)
    have h2:=k _ h1
    show max a (nJ (b :: r))=M
    have h3:max a (nJ (b :: r))<=M:=h2
    rcases List.mem_cons.mp h with rfl | q
    . omega
    . have:=hb M q;omega
noncomputable def ju:List D->Option U
 | [.lst ds]=>(bT ds).bind fun bs=>if bs=[] then none else some (.t (.int (nJ bs)))
 | _=>none
theorem Cp {α:Type}{p:Prop} [Decidable p] {x y:α}(h:(if p then none else some x)=some y):¬p/\x=y:=by
 by_cases c:p
 ·rw[if_pos c] at h;cases h
 ·rw[if_neg c] at h;exact⟨c,Option.some.inj h⟩
section
variable {X:Cx}
theorem m8 (hc:X.calm=true):jm X (.builtin "max") (rP ju):=by
 intro pins s σ H xs us Q I r ⟨F,ds,w,sb,rs,hw,q⟩
 obtain⟨x,d,rfl,rfl,r1⟩:=uq (P:=fun _=>True) rs hw rfl (fun d _ _=>by cases d <;> rfl)
 cases d <;> try (simp[ju] at hw;done)
 rename_i ds
 obtain⟨bs,h1,hw⟩:=aj (show(bT ds).bind _=some w from hw)
 obtain⟨hne,rfl⟩:=Cp hw
 obtain⟨a,vs,rfl,fa,ha,mq⟩:=sb.jq r1
 obtain rfl:=qF mq h1
 obtain⟨u,rfl,ru⟩:=vals1 r
 cases ru
 obtain⟨its,rv,pl,hz⟩:=I.list (.inl ha)
 have hi:IntsAre its.toArray.toList bs:=intsAre_of rv
 obtain⟨ys,e⟩:=hi.allInts.items
 have hns:bs=ys.toList.map (·.1):=by rw[<-hi.numsOf,<-nums_intItems,<-e]
 have hb:0 < bs.length:=by cases bs with | nil=>exact absurd rfl hne | cons _ _=>simp
 have hsz:0 < ys.size:=by
  have h3:=hb;rw[hns,List.length_map,Array.length_toList] at h3;exact h3
 have hl:=pl.isList
 have e':its.toArray=intItems ys:=by rw[<-e]
 rw[e'] at hl
 refine max_intList (I.ok.hd hc) hl hsz fun v h' tk hv hk=>?_
 obtain⟨t,rfl⟩:=intItems_at hv
 obtain⟨k1,k2⟩:=argBest_gt (numAt ys) (ys.size - 1)
 have em:nJ bs=numAt ys (argBest (fun i j=>decide (numAt ys i > numAt ys j)) (ys.size - 1)):=by
  refine zl ?_ fun a ha=>?_
  ·rw[hns,numAt_eq];exact getD_mem (by rw[List.length_map,Array.length_toList];omega)
  ·rw[hns] at ha
   obtain⟨j,hj,rfl⟩:=mem_getD ha
   rw[List.length_map,Array.length_toList] at hj
   rw[<-numAt_eq];exact k2 j (by omega)
 rw[<-em]
 exact⟨.int _,H,I.kept (t':=tk) hk,⟨t,rfl⟩,q _ F H (gT.refl ..) sb (.int _)⟩
end
@[simp] theorem MQ (ds:List D):ju [.lst ds]=(bT ds).bind fun bs=>if bs=[] then none else some (.t (.int (nJ bs))):=rfl
end L2
namespace HT
open PySem PySem.Spec PyProof.Rows
section
variable {prog:Program}{w:World}{A:Around}{E:Value->Shared->Prop}{s:Shared}
end
end HT
namespace L2
open PySem PySem.Spec PyProof.Rows
section
variable {X:Cx}{pos:Pos}
end
end L2
end
section
namespace L2
open PySem PySem.Spec PyProof.Rows PySem.Calls
section
variable {prog:Program}{w:World}{A:Around}{E:Value->Shared->Prop}{s:Shared}{a I:Addr}{ep:Nat}{t:SetTable}
end
section
variable {X:Cx}{a:Expr}{pos p p1 p2:Pos}{ga:GD}
end
end L2
end
section
namespace L2
open PySem PySem.Spec PyProof.Rows
section
variable {X:Cx}{x:Str}{p:Pos}{a:Addr}
end
section
variable {X:Cx}{e:Expr}{es:List Expr}{gu:GU}{x:Str}{p pos:Pos}{k n i:Nat}{t:TA}
end
structure nK (X:Cx) (x y0:Str) (bH:List Str) (cap:List Nat) (scope:Scope) (cl:List (Str×Addr)):Prop where
 one:gO X x bH cap scope cl
 Ll:scope.names.lookup y0=some .local
 Ge:(x :: y0 :: bH).Nodup
noncomputable def HM (K:PySem.W.Frag) (wi:TI) (cap:List Nat) (tc:TT) (te:TE):TE:=fun σ H Q=>wi σ H fun J H1=>∃W:Nat->Nat->List V->Hp->Prop,(∃m,W 0 m [] H1)/\∀i m ys H,W i m ys H->ys.length < sizeLine/\
  ((J.stop i H/\∀p,H p=none->Q (.ref p) (upd H p (.lst ys)))\/
   (J.go i H/\∀x H',J.Jp i H x H'->∃a x1 x2,x= .ref a/\tM K H' a [x1,x2]/\tc (some x1 :: some x2 :: bN cap σ) H' fun b H2=>if b=true then te (some x1 :: some x2 :: bN cap σ) H2 fun y H3=>∃m',m' < m/\W (i+1) m' (ys++[y]) H3 else ∃m',m' < m/\W (i+1) m' ys H2))
theorem Aw {X : Cx} {pins : List (Addr × Obj)} {σ : St} {H : Hp} {s s4 : Shared} {x y0 : Str} {bH : List Str} {cap : List Nat} {scope : Scope} {cl : List (Str × Addr)} {C : Addr} {fp : List Addr} {m' : Str -> Option Value}
    (I:Inv X pins σ H s) (T2:nK X x y0 bH cap scope cl) (hfp:∀b∈fp,kD X pins H b) (hfo:∀b∈fp,∃o,s.heap.get? b=some o)
    (hC:s.heap.objs.size<=C) (hns:s4.heap.Ns C m') (hos:s4.os=s.os) (hg:s4.gens=s.gens)
    (kept:∀b o,s.heap.get? b=some o->s4.heap.get? b=some o):
    Inv (cG X (x :: y0 :: bH) scope cl C s H fp) [] (none :: none :: bN cap σ) H s4:=by
  have T:=T2.one
  have fr:∀b,s.heap.objs.size<=b->H b=none:=fun b hb=>I.hok.fresh hb
  refine⟨⟨I.ok.mod,T.kind,I.ok.glob,I.ok.blt,hC,fun y z c h1 h2=>I.ok.inj y z c (T.cells _ _ h1) (T.cells _ _ h2),fun y hy=>T.has y hy,fun y c h=>(by cases h),I.ok.hd,I.ok.frames,.inl rfl,fun b hb=>⟨?_,fun y c e z=>?_⟩,I.bs,Nat.le_trans I.ok.Dy I.sz,fun b o e hb=>?_,fun b hb z=>?_,I.stack,I.tL⟩,
    hos,by rw[hg];exact I.bare,Un.kept kept,⟨m',hns,fun i y v h1 h2 h3=>?_⟩,fun y c h=>?_,fr C hC,fun y c h=>I.kI y c (T.cells _ _ h),fun p hp=>?_,I.hok.kept kept,?_⟩
  . obtain⟨o,e⟩:=hfo b hb
    exact Nat.ne_of_lt (Nat.lt_of_lt_of_le (Heap.lt_size e) hC)
  . exact(hfp b hb).2.2.2.2.1 y c (T.cells _ _ e) z
  . rcases(hfp b hb).2.2.2.1 with z | z
    . exact I.ok.zY b o e z
    . exact absurd (Nat.lt_of_lt_of_le (Heap.lt_size e) (Nat.le_trans I.ok.Dy z)) (Nat.lt_irrefl _)
  . rcases List.mem_cons.mp (I.ou b z) with q | q
    . exact(hfp b hb).2.1 q
    . exact(hfp b hb).2.2.1 q
  . match i,h1,h2 with
    | 0,h1,h2=>cases h2
    | 1,h1,h2=>cases h2
    | j + 2, h1, h2 =>
      have h1:bH[j]? =some y:=by simpa[cG] using h1
      have h2:(bN cap σ)[j]? =some (some v):=by simpa using h2
      obtain⟨i,e1,e2,e3⟩:=T.slot j y h1
      have e4:σ[i]? =some (some v):=by
        unfold bN at h2
        rw[List.getElem?_map,e1] at h2
        have h2:some ((σ[i]?).join)=some (some v):=h2
        have h2:=Option.some.inj h2
        cases q:σ[i]? with
        | none=>rw[q] at h2;cases h2
        | some o=>rw[q] at h2;cases h2;rfl
      obtain⟨m,hn,hl⟩:=I.loc
      obtain⟨u,r,l⟩:=hl i y v e2 e4 e3
      obtain⟨k1,⟨c,hc⟩,k3⟩:=T.vis y (List.mem_of_getElem? h1)
      refine⟨u,r,.inr ⟨k1,c,hc,?_⟩⟩
      rcases l with⟨hk,_⟩ | ⟨hk,c',hc',z⟩
      . exact absurd hk k3
      . rw[T.cells _ _ hc] at hc'
        cases hc'
        obtain⟨o,ho,hd⟩:=z
        exact⟨o,kept _ _ ho,hd⟩
  . obtain⟨v,o,ho,hd⟩:=I.cell y c (T.cells _ _ h)
    exact⟨v,o,kept _ _ ho,hd⟩
  . exact absurd (show p∈([]:List (Addr×Obj)) from hp) (by simp)
  . show(none :: none :: bN cap σ).length=(x :: y0 :: bH).length
    simp[bN,T.len]
noncomputable def oM (P:Program) (w:World) (A:Around) (env:Env) (R:Result->Shared->Prop):Value->Shared->Prop:=notedBy (model P w) A env fun e s'=>R (.error e) s'
theorem ux {P:Program}{w:World}{A:Around}{R:Result->Shared->Prop}{s:Shared}{elt tg iter:Expr}{ifs:List Expr}{scope:Scope}{pos:Pos}{it acc:Value}{env:Env}(J:Nat->Shared->Prop)
    (turn : ∀ n s, J n s -> wpAny (model P w) A (pyNext it) (fun r s1 => match r with
      | none=>R (.ok .next) s1
      | some v=>wpAny (model P w) A (letOwnedTupleGo tg it v) (fun _ s1=>wpAny (model P w) A (assign tg env v) (fun _ s2=>
          wpAny (model P w) A (forIn ifs true fun c r=>if r=true then do let ok <-isTrue c env (eval c env);pure (ForInStep.yield ok) else pure (ForInStep.yield r)) (fun ok s3=>
            if ok=true then wpAny (model P w) A (eval elt env) (fun x s4=>wpAny (model P w) A (call (.builtin "list.append") [acc,x]) (fun _ s5=>∃m,m < n/\J m s5) (oM P w A env R) s4) (oM P w A env R) s3
            else ∃m,m < n/\J m s3) (oM P w A env R) s2) (oM P w A env R) s1) (oM P w A env R) s1) (oM P w A env R) s)
    (n:Nat) (h:J n s):codeAny (model P w) A (.compLoop (.ListComp elt [⟨tg,iter,ifs,0⟩] scope pos) 0 it acc env) R s:=by
  refine codeAny_loop rfl J (fun n s hJ=>?_) n h
  show wpAny _ A ((compTurn (.ListComp elt [⟨tg,iter,ifs,0⟩] scope pos) 0 it acc env).onRaise (fun x=>do noteFrame x env;theTreesLotGoes x)) _ _ s
  refine wpAny_noted ?_
  rw[compTurn_list]
  refine wpAny_bind (wpAny_standAt (wpAny_bind (wpAny_mono (turn n s hJ) (fun r s1 k1=>?_) fun _ _ z=>z)))
  cases r with
  | none=>exact wpAny_pure k1
  | some v=>
    refine wpAny_bind (wpAny_mono k1 (fun _ s1 k1=>?_) fun _ _ z=>z)
    refine wpAny_bind (wpAny_mono k1 (fun _ s2 k2=>wpAny_bind (wpAny_mono k2 (fun ok s3 k3=>?_) fun _ _ z=>z)) fun _ _ z=>z)
    cases ok with
    | false=>exact wpAny_pure ⟨rfl,k3⟩
    | true=>exact wpAny_bind (wpAny_bind (wpAny_mono k3 (fun x s4 k4=>wpAny_bind (wpAny_mono k4 (fun _ s5 k5=>wpAny_pure (wpAny_pure ⟨rfl,k5⟩)) fun _ _ z=>z)) fun _ _ z=>z))
theorem vW {X:Cx}{elt iter:Expr}{ifs:List Expr}{x y0:Str}{px py pt pos:Pos}{k0:Nat}{scope:Scope}{cl:List (Str×Addr)}{bH:List Str}{cap:List Nat}{wi:TI}{tc:TT}{te:TE}{pins:List (Addr×Obj)}{s:Shared}{σ:St}{H:Hp}{Q:VK}{use:Option (Value->Sem Unit)}{Qf:Value->Shared->Prop}{pos2:Pos}
    (T2:nK X x y0 bH cap scope cl) (hc:X.calm=true) (hi:PI X (.Tuple [.Name x px,.Name y0 py] k0 pt) iter wi)
    (ht:∀C s H fp,DZ (cG X (x :: y0 :: bH) scope cl C s H fp) ifs tc) (he:∀C s H fp,PE (cG X (x :: y0 :: bH) scope cl C s H fp) elt te)
    (hs:∀x,foldedSetIterable iter X.env x=pure x) (I:Inv X pins σ H s) (h:HM X.K wi cap tc te σ H Q)
    (hend:∀(D C:Addr) (s7:Shared) (H6:Hp) (ys:List V),Inv X pins σ (upd H6 D (.lst ys)) s7->(∃m,s7.heap.Ns C m)->kD X pins (upd H6 D (.lst ys)) C->Q (.ref D) (upd H6 D (.lst ys))->compPost (model X.prog X.w) X.A X.xe use Qf (.ref D) C (.ok .next) s7):
    wpAny (model X.prog X.w) X.A (comprehension (.ListComp elt [⟨.Tuple [.Name x px,.Name y0 py] k0 pt,iter,ifs,0⟩] scope pos) scope X.env pos2 (newList []) false (eval iter X.env) use) Qf X.xe s:=by
  have T:=T2.one
  refine wpAny_comprehension_free (use:=use) rfl hs T.clos T.kind T.names (fh (hi pins s σ H _ I h) fun v s1 h1=>fh h1 fun itv s2 h2=>?_)
  obtain⟨it,fp,tn,J,H2,rfl,I2,rK,st2,f2,W,⟨m0,w0⟩,turn⟩:=h2
  refine wpAny_newObj_type (wpAny_newFunctionEnv T.kO (by intro y hy;simp at hy) (fun h4 tY qq=>?_) T.kind)
  dsimp only at tY qq ⊢
  generalize Hl:s2.heap.push {cls:=.type "list",dict:=none,data:=.seq ([]:List Value).toArray}=H3 at tY qq ⊢
  have eC:H3.objs.size=s2.heap.objs.size+1:=by rw[<-Hl,Heap.size_push]
  generalize Uw:H3.objs.size=C at eC tY qq ⊢
  generalize eD:s2.heap.objs.size=D at eC ⊢
  have BH:C=D+1:=eC
  have hDC:D≠C:=by rw[BH];exact Nat.ne_of_lt (Nat.lt_succ_self D)
  have hC:s2.heap.objs.size<=C:=by rw[eD,BH];exact Nat.le_succ D
  have hD:s2.heap.objs.size<=D:=by rw[eD];exact Nat.le_refl D
  have kept:∀b o,s2.heap.get? b=some o->h4.get? b=some o:=fun b o e=>qq.extBut b o (Nat.ne_of_lt (Nat.lt_of_lt_of_le (Heap.lt_size e) hC)) (Heap.get?_push_of_some _ (Hl▸Heap.get?_push_of_some _ e))
  have hacc:h4.get? D=some {cls:=.type "list",data:=.seq ([]:List Value).toArray ([]:List Value).length}:=qq.extBut _ _ hDC (Heap.get?_push_of_some _ (Hl▸eD▸Heap.get?_push_size _ rfl))
  have KR:∀b∈fp,∃o,s2.heap.get? b=some o:=fun b hb=>let⟨o,e,_⟩:=rK.obj _ _ st2 b hb;⟨o,e⟩
  have hDf:D∉fp:=fun hb=>by
    obtain⟨o,e⟩:=KR D hb
    exact absurd (Nat.lt_of_lt_of_le (Heap.lt_size e) hD) (Nat.lt_irrefl _)
  have Ho:tn 0 h4:=rK.keep _ _ _ st2 fun b _ o e=>kept b o e
  have key : ∀ s5 : Shared, s5 = { s2 with heap := h4, toks := s2.toks + ([] : List (Str × Value)).length } ->
      codeAny (model X.prog X.w) X.A (.compLoop (.ListComp elt [⟨.Tuple [.Name x px,.Name y0 py] k0 pt,iter,ifs,0⟩] scope pos) 0 (.ref it) (.ref D) (compEnvC scope cl C X.env)) (compPost (model X.prog X.w) X.A X.xe use Qf (.ref D) C) s5:=by
    rintro s5 rfl
    have I4:Inv (cG X (x :: y0 :: bH) scope cl C s2 H2 fp) [] (none :: none :: bN cap σ) H2 {s2 with heap:=h4,toks:=s2.toks+([]:List (Str×Value)).length}:=
      Aw (s4:={s2 with heap:=h4,toks:=s2.toks+([]:List (Str×Value)).length}) I2 T2 f2 KR hC tY rfl rfl kept
    generalize hY:cG X (x :: y0 :: bH) scope cl C s2 H2 fp=Y at I4
    have fD:∀{H':Hp},H' D=none->kD Y [] H' D:=fun {H'} hn=>by
      subst hY
      refine⟨hn,hDC,fun z=>(List.mem_cons.mp (I2.ou D z)).elim (fun q=>absurd (Nat.lt_of_lt_of_le (q▸I2.lt) hD) (Nat.lt_irrefl _)) fun q=>I2.Gx hD q,.inr hD,fun y c e z=>?_,fun p hp=>absurd (show p∈([]:List (Addr×Obj)) from hp) (by simp)⟩
      obtain⟨v,q⟩:=I2.cell y c (T.cells _ _ e)
      exact absurd (Nat.lt_of_lt_of_le q.lt (by rw[z];exact hD)) (Nat.lt_irrefl _)
    have fF:∀{H':Hp},(∀b∈fp,H' b=none)->∀b∈fp,kD Y [] H' b:=fun {H'} hn b hb=>by
      have q:=I4.ok.MA b (by subst hY;exact hb)
      exact⟨hn b hb,fun z=>q.1 z,I4.ok.zZ b (by subst hY;exact hb),.inl (by subst hY;exact hb),fun y c e z=>q.2 y c e z,fun p hp=>absurd (show p∈([]:List (Addr×Obj)) from(by subst hY;exact hp)) (by simp)⟩
    have eA:Y.A=X.A:=by subst hY;rfl
    have eP:Y.prog=X.prog:=by subst hY;rfl
    have eW:Y.w=X.w:=by subst hY;rfl
    have eK:Y.K=X.K:=by subst hY;rfl
    have eE:Y.env=compEnvC scope cl C X.env:=by subst hY;rfl
    have eX:Y.xe=fun _ _=>False:=by subst hY;rfl
    have eN:Y.N=x :: y0 :: bH:=by subst hY;rfl
    have FW:Y.calm=true:=by subst hY;exact hc
    have Og:DZ Y ifs tc:=by subst hY;exact ht _ _ _ _
    have Oh:PE Y elt te:=by subst hY;exact he _ _ _ _
    have Oi:PG Y (.Tuple [.Name x px,.Name y0 py] k0 pt) (Kf Y.K 2 (Bd (pg 0) (Bd (pg 1) Ke))):=Be FW (qj (pR (by rw[eN];exact T2.Ge) (by rw[eN];rfl) (by rw[eE];exact .inl (lookup_relabel_local T.loc)) (.inr (by rw[eE];exact lookup_relabel_local T.loc))) (qj (pR (by rw[eN];exact T2.Ge) (by rw[eN];rfl) (by rw[eE];exact .inl (lookup_relabel_local T2.Ll)) (.inr (by rw[eE];exact lookup_relabel_local T2.Ll))) yJ))
    have mU:∀(E':Value->Shared->Prop) (e:Value) (s':Shared),Y.xe e s'->E' e s':=fun E' e s' z=>by rw[eX] at z;exact z.elim
    refine ux (fun n s'=>∃i ys us H' o o',Inv Y [] (o :: o' :: bN cap σ) H' s'/\tn i s'.heap/\(∀b∈fp,H' b=none)/\H' D=none/\s'.heap.get? D=some {cls:=.type "list",data:=.seq us.toArray us.length}/\Vals ys us/\W i n ys H') ?_ m0
      ⟨0,[],[],H2,none,none,I4,Ho,fun b hb=>(f2 b hb).1,I2.hok.fresh hD,hacc,.nil,w0⟩
    rintro n s6 ⟨i,ys,us,H6,o6,MR,I6,Hq,Hr,d6,a6,v6,w6⟩
    have Oj:us.length=ys.length:=v6.length.symm
    obtain⟨hz,BI⟩:=turn i n ys H6 w6
    rcases BI with⟨stop,qn⟩ | ⟨go,step⟩
    . have q := rK.done Y eP eW eK FW i [] s6 (o6 :: MR :: bN cap σ) H6 (notedBy (model X.prog X.w) X.A (compEnvC scope cl C X.env) fun e s' => compPost (model X.prog X.w) X.A X.xe use Qf (.ref D) C (.error e) s') I6 (fF Hr) Hq stop
      rw[eA] at q
      have Hs:=I6.pinned (fp:=[D]) (fun b hb=>by rw[List.mem_singleton.mp hb];exact fD d6) (fun b hb=>by rw[List.mem_singleton.mp hb];exact⟨_,a6,fun v z=>by cases z⟩)
      have q:=rK.done Y eP eW eK FW i _ s6 (o6 :: MR :: bN cap σ) H6 (notedBy (model X.prog X.w) X.A (compEnvC scope cl C X.env) fun e s'=>compPost (model X.prog X.w) X.A X.xe use Qf (.ref D) C (.error e) s') Hs (fun b hb=>?_) Hq stop
      . rw [eA] at q
        refine fh q fun r s7 ⟨hr,I7⟩=>?_
        subst hr
        have a7:s7.heap.get? D=_:=(I7.pin (D,{cls:=.type "list",data:=.seq us.toArray us.length}) (List.mem_append_right _ (List.mem_append_right _ (cD (List.mem_singleton.mpr rfl) a6)))).1
        obtain⟨m7,BJ,_⟩:=I7.loc
        rw[eE] at BJ
        have BK:H6 D=none:=d6
        have Ol:H6 C=none:=by have:=I7.free;rw[eE] at this;exact this
        have Ht:kG X.prog X.w H6 s7.heap:=by have q:=I7.hok;rw[eP,eW] at q;exact q
        have new:dX X.prog X.w (upd H6 D (.lst ys)) s7.heap D (.lst ys):=⟨Nat.le_of_lt hz,us,us.length,v6,a7⟩
        have u7:Un (frs X.stack) fp H2 H6 s2.heap s7.heap:=by have:=I7.base;subst hY;exact this
        have Om:∀b o,s2.heap.get? b=some o->b≠D:=fun b o e=>Nat.ne_of_lt (Nat.lt_of_lt_of_le (Heap.lt_size e) hD)
        have u8:Un (frs X.stack) fp H2 (upd H6 D (.lst ys)) s2.heap s7.heap:=
          ⟨u7.keep,u7.slot,fun b o e n hx=>by rw[aK (Om b o e)];exact u7.free b o e n hx,u7.there,
           fun b xs e=>by have z:=u7.tups b xs e;rw[aK (bz z BK)];exact z,fun b o u e=>by have z:=u7.p9 b o u e;rw[aK (bz z BK)];exact z,
           fun b ps e=>by obtain⟨more,z⟩:=u7.rG b ps e;exact⟨more,by rw[aK (bz z BK)];exact z⟩⟩
        have Oo:s7.os=s2.os:=by have:=I7.os;subst hY;exact this
        have I9:Inv X pins σ (upd H6 D (.lst ys)) s7:=I2.FH (ch:=fp) Oo u8 (Ht.FU BK new) I7.bare fun b hb=>⟨(f2 b hb).2.2.2.1,(f2 b hb).2.1,(f2 b hb).2.2.2.2.1,(f2 b hb).2.2.2.2.2⟩
        exact hend D C s7 H6 ys I9 ⟨m7,BJ⟩ (I2.vm hC (by rw[aK (Ne.symm hDC)];exact Ol)) (qn D BK)
      . obtain⟨f0,f1,Hu,f3,f4,f5⟩:=fF Hr b hb
        refine⟨f0,f1,Hu,f3,f4,fun p hp z=>?_⟩
        rcases List.mem_append.mp hp with q' | q'
        . exact f5 p (List.mem_append_left _ q') z
        . rcases List.mem_append.mp q' with q' | q'
          . exact absurd q' (by simp)
          . have:=(jF q').1
            rw[List.mem_singleton.mp this] at z
            exact hDf (z▸hb)
    . have Hs:=I6.pinned (fp:=[D]) (fun b hb=>by rw[List.mem_singleton.mp hb];exact fD d6) (fun b hb=>by rw[List.mem_singleton.mp hb];exact⟨_,a6,fun v z=>by cases z⟩)
      have KS:∀{H':Hp},(∀b∈fp,H' b=none)->∀b∈fp,kD Y ([]++jy [D] s6.heap) H' b:=fun {H'} hn b hb=>by
        obtain⟨f0,f1,Hu,f3,f4,f5⟩:=fF hn b hb
        refine⟨f0,f1,Hu,f3,f4,fun p hp z=>?_⟩
        rcases List.mem_append.mp hp with q' | q'
        . exact f5 p (List.mem_append_left _ q') z
        . rcases List.mem_append.mp q' with q' | q'
          . exact absurd q' (by simp)
          . have:=(jF q').1
            rw[List.mem_singleton.mp this] at z
            exact hDf (z▸hb)
      have q:=rK.item Y eP eW eK FW i _ s6 (o6 :: MR :: bN cap σ) H6 (notedBy (model X.prog X.w) X.A (compEnvC scope cl C X.env) fun e s'=>compPost (model X.prog X.w) X.A X.xe use Qf (.ref D) C (.error e) s') Hs (KS Hr) Hq go
      rw[eA] at q
      refine fh q fun r XS ⟨u,hr,h7⟩=>?_
      subst hr
      refine fh h7 fun _ s7 ⟨xv,H8,I8,r8,y8,D0,Oq⟩=>?_
      have Ot:=I8.pinned (KS Oq) (rK.obj _ _ D0)
      obtain⟨a8,x1,x2,e8,UT,stp⟩:=step xv _ y8
      have qa:=Oi _ s7 (o6 :: MR :: bN cap σ) H8 xv u (fun σ' H'=>σ'=some x1 :: some x2 :: bN cap σ/\H'=H8) Ot r8 ⟨a8,[x1,x2],e8,by rw[eK];exact UT,rfl,x1,[x2],rfl,x2,[],rfl,rfl,rfl,rfl⟩
      rw[eP,eW,eA,eE] at qa
      refine wpAny_mono qa (fun _ s9 h9=>?_) (mU _)
      obtain⟨Ux,H9,I9,e9,Ou⟩:=h9
      subst e9 Ou
      have qt:=Og _ s9 _ _ _ I9 stp
      rw[eP,eW,eA,eE] at qt
      refine wpAny_mono qt (fun ok KU h10=>?_) (mU _)
      obtain⟨Ov,KW,D3⟩:=h10
      have back:∀{s':Shared}{H':Hp},Inv Y (([]++jy [D] s6.heap)++jy fp s7.heap) (some x1 :: some x2 :: bN cap σ) H' s'->Inv Y [] (some x1 :: some x2 :: bN cap σ) H' s'/\tn (i+1) s'.heap/\(∀b∈fp,H' b=none)/\H' D=none/\s'.heap.get? D=some {cls:=.type "list",data:=.seq us.toArray us.length}:=fun {s' H'} J=>by
        refine⟨J.iT.iT,rK.keep _ _ _ D0 fun b hb o e=>(J.pin (b,o) (List.mem_append_right _ (List.mem_append_right _ (cD hb e)))).1,fun b hb=>?_,?_,?_⟩
        . obtain⟨o,e,d⟩:=rK.obj _ _ D0 b hb
          exact(J.pin (b,o) (List.mem_append_right _ (List.mem_append_right _ (cD hb e)))).2.1
        . exact(J.pin (D,_) (List.mem_append_right _ (List.mem_append_left _ (List.mem_append_right _ (cD (List.mem_singleton.mpr rfl) a6))))).2.1
        . exact(J.pin (D,_) (List.mem_append_right _ (List.mem_append_left _ (List.mem_append_right _ (cD (List.mem_singleton.mpr rfl) a6))))).1
      cases ok with
      | false=>
        rw[if_neg (by decide)] at D3 ⊢
        obtain⟨m',hm,Ow⟩:=D3
        obtain⟨b1,b2,b3,b4,b5⟩:=back KW
        exact⟨m',hm,i+1,ys,us,Ov,some x1,some x2,b1,b2,b3,b4,b5,v6,Ow⟩
      | true=>
        rw[if_pos rfl] at D3 ⊢
        have qe:=Oh _ KU _ _ _ KW D3
        rw[eP,eW,eA,eE] at qe
        refine wpAny_mono qe (fun y D4 h11=>?_) (mU _)
        obtain⟨yv,KY,Ox,Oz,m',hm,OA⟩:=h11
        obtain⟨b1,b2,b3,b4,b5⟩:=back Ox
        refine append_at (hsz:=by rw[List.size_toArray,Oj];exact Nat.le_of_lt hz) b5 fun h12 Hv Hw=>?_
        have BL:∀b o,b≠D->D4.heap.get? b=some o->h12.get? b=some o:=fun b o hb e=>Hv.extBut b o hb e
        obtain⟨g0,g1,g2,g3,g4,g5⟩:=fD b4
        have OB:Inv Y [] (some x1 :: some x2 :: bN cap σ) KY {D4 with heap:=h12}:=b1.turned (t':=D4.toks) BL g0 g1 g3 g4 g5
        refine⟨m',hm,i+1,ys++[yv],us++[y],KY,some x1,some x2,OB,rK.keep _ _ _ b2 fun b hb o e=>BL b o (fun z=>hDf (z▸hb)) e,b3,b4,Hw.trans (congrArg some (BE us y)),v6.append (.cons Oz .nil),OA⟩
  exact codeAny_compStart_list (key _ rfl) (rK.self _ 0 _ _ _ Ho (key _ rfl))
theorem Ax {X:Cx}{elt iter:Expr}{ifs:List Expr}{x y0:Str}{px py pt pos:Pos}{k0:Nat}{scope:Scope}{cl:List (Str×Addr)}{bH:List Str}{cap:List Nat}{wi:TI}{tc:TT}{te:TE}
  (T2:nK X x y0 bH cap scope cl) (hc:X.calm=true) (hi:PI X (.Tuple [.Name x px,.Name y0 py] k0 pt) iter wi)
  (ht:∀C s H fp,DZ (cG X (x :: y0 :: bH) scope cl C s H fp) ifs tc) (he:∀C s H fp,PE (cG X (x :: y0 :: bH) scope cl C s H fp) elt te)
  (hs:∀x,foldedSetIterable iter X.env x=pure x:=by intro _;rfl):
  PE X (.ListComp elt [⟨.Tuple [.Name x px,.Name y0 py] k0 pt,iter,ifs,0⟩] scope pos) (HM X.K wi cap tc te):=by
 intro pins s σ H Q I h
 rw[eval_ListComp]
 refine vW T2 hc hi ht he hs I h ?_
 rintro p C s7 H6 ys I9 ⟨m7,BJ⟩ ⟨g0,g1,g2,g3,g4,g5⟩ q
 exact⟨m7,BJ,fun h' hs'=>⟨.ref p,_,I9.turned (t':=s7.toks) (fun b o hb e=>hs'.extBut b o hb e) g0 g1 g3 g4 g5,rfl,q⟩⟩
noncomputable def fy (cap:List Nat) (q:GT) (g:GD):List D->SS->List D->Option (List D×SS)
 | [],S,acc=>some (acc,S)
 | .tup [a,b] :: ds,S,acc=>(bS S cap).bind fun us=>
  if(slotsOf us).Nodup/\cB us<=1 then(bX S us).bind fun ws=>(q (some (.t a) :: some (.t b) :: ws.map some)).bind fun p=>
   if p.1 then(g p.2).bind fun r=>(aP (.t a :: .t b :: ws) r.2).bind fun outs=>(wb us outs S).bind fun S'=>fy cap q g ds S' (acc++[r.1])
   else(aP (.t a :: .t b :: ws) p.2).bind fun outs=>(wb us outs S).bind fun S'=>fy cap q g ds S' acc
  else none
 | _ :: _,_,_=>none
noncomputable def qI (cap:List Nat) (gi:GI) (q:GT) (g:GD):GE:=fun S=>(gi S).bind fun p=>if p.1.length<=100000 then(fy cap q g p.1 p.2 []).map fun r=>(.m (.lst r.1),r.2) else none
theorem Cq {F:Hp}{xs:List V}{a b:D}(r:bD F xs [a,b]):∃x1 x2,xs=[x1,x2]/\Rep F x1 a/\Rep F x2 b:=by
 cases r with
 | cons r1 rr=>cases rr with
  | cons r2 UU=>cases UU;exact⟨_,_,rfl,r1,r2⟩
end L2
end
section
namespace L2
open PySem PySem.Spec PyProof.Rows PySem.Calls
section
variable {X:Cx}{o e:Expr}{m:Str}{apos cpos:Pos}{id:String}{go ge:GD}{f:List D->Option U}
end
section
variable {X:Cx}
end
noncomputable def OX:GS:=fun _=>none
theorem Lm {X:Cx}{st:Stmt}:JS X st OX:=⟨fun B pins s σ H Q I ⟨_,_,_,_,hg,_⟩=>by cases hg⟩
end L2
end
section
namespace L2
open PySem PySem.Spec PyProof.Rows
section
variable {X:Cx}{C:Addr}{e value:Expr}{es:List Expr}{gu:GU}{x y m:Str}{px p pos pos' apos tpos:Pos}{f:Str}{fm:FM}{fa:Addr}{fd:FuncData}{ps:List Str}{k n i:Nat}{g:GD}
end
end L2
end
section
namespace L2
open PySem PySem.Spec PyProof.Rows PySem.Calls
section
variable {X:Cx}
end
section
variable {X:Cx}{e f:Expr}{x:Str}{px pos apos cpos:Pos}{ty tx:TE}{g gd:GD}{a:Addr}{kvs:List (Str×Int)}
end
section
variable {prog:Program}{w:World}{A:Around}{E:Value->Shared->Prop}{s:Shared}
end
section
variable {X:Cx}{pins:List (Addr×Obj)}{σ:St}{A:Around}{R:Result->Shared->Prop}{N:Nat}{k0 k1:Bool}{l0 l1:Nat}{MN MP:List V}{S:Addr}{W:Nat->List V->Hp->Prop}{res:Value}
end
section
variable {X:Cx}{pins:List (Addr×Obj)}{σ:St}{A:Around}{E:Value->Shared->Prop}{N:Nat}{k0 k1:Bool}{l0 l1:Nat}{MN MP:List V}
end
section
variable {X:Cx}{a b:Expr}{p p2 pos pos2:Pos}{t:TA}{ga gb:GD}{gA:GA}
end
theorem xR {K : PySem.W.Frag} {B : Base} {cap : List Nat} {gi : GI} {q : GT} {g : GD} {σ : St} {H : Hp} {Q : VK} (h : tE K B (qI cap gi q g) σ H Q) : HM K (Li K B gi) cap (fun σ H Q => ∃ B, tQ K B q σ H Q) (fun σ H Q => ∃ B, tD K B g σ H Q) σ H Q := by
  obtain⟨x,_⟩:∃x:Str,True:=⟨"",trivial⟩
  obtain⟨S,F,u,S',R,hg,k⟩:=h
  obtain⟨⟨ds,S1⟩,h1,hg⟩:=aj hg
  dsimp only at hg
  split at hg
  . rename_i hlen
    obtain⟨⟨res,Sf⟩,h2,hg⟩:=aE hg
    cases hg
    refine⟨S,F,ds,S1,R,h1,fun J F1 H1 R1 st1 w=>?_⟩
    refine⟨fun i m ys H'=>∃S2 F2 acc,Rel K B S2 σ F2 H'/\Step S S2 σ F H F2 H'/\(∀b o,F1 b=some o->F2 b=some o)/\bD F2 ys acc/\acc.length<=i/\i<=ds.length/\m=ds.length - i/\fy cap q g (ds.drop i) S2 acc=some (res,Sf),
      ⟨_,S1,F1,[],R1,st1,fun _ _ z=>z,.nil,Nat.le_refl _,Nat.zero_le _,rfl,h2⟩,?_⟩
    rintro i m ys H' ⟨S2,F2,acc,R2,st2,le,ry,ha,hl,rfl,dI⟩
    refine⟨by rw[ry.length];exact Nat.lt_of_le_of_lt (Nat.le_trans ha (Nat.le_trans hl hlen)) (by decide),?_⟩
    have w':=w F2 H' le R2.sub i
    by_cases hlt:i < ds.length
    . have hd:ds[i]? =some ds[i]:=List.getElem?_eq_getElem hlt
      obtain⟨go,yl⟩:=w'.1 _ hd
      rw[List.drop_eq_getElem_cons hlt] at dI
      refine .inr ⟨go,fun xv H3 y=>?_⟩
      obtain⟨FN,n3,UW,rx⟩:=yl xv H3 y
      obtain⟨da,db,UX⟩:∃da db,ds[i]= .tup [da,db]:=by
        generalize ds[i]=dd at dI
        unfold fy at dI
        split at dI
        . rename_i z;cases z
        . rename_i z;injection z with z1 z2;exact⟨_,_,z1⟩
        . cases dI
      have R2:Rel K B S2 σ FN H3:=R2.new n3 UW
      have st2:Step S S2 σ F H FN H3:=st2.trans n3.step
      have le:∀b o,F1 b=some o->FN b=some o:=fun b o z=>n3.le b o (le b o z)
      have ry:=ry.le n3.le
      rw[UX] at dI rx
      obtain⟨pa,XT,UY,XU,hpa,BZ⟩:=R2.sub.iV rx
      obtain⟨x1,x2,exs,UZ,U0⟩:=Cq BZ
      subst exs UY
      obtain⟨us,e1,dI⟩:=aj (show(bS S2 cap).bind _=_ from dI)
      split at dI
      . rename_i hnd
        obtain⟨ws,e2,dI⟩:=aj dI
        obtain⟨⟨bk,T1⟩,e3,dI⟩:=aj dI
        obtain⟨vs,k1,k2⟩:=xH R2 e1
        have rr:Paired (fun v u=>iU K B S2 σ H3 FN H3 v u) (x1 :: x2 :: vs) (.t da :: .t db :: us):=.cons UZ (.cons U0 k2)
        have er:=qA R2 da (qA R2 db e2)
        have ar:=pX R2 rr er
        have nd:=dY R2 rr er hnd.1 hnd.2
        have R3:=oJ (n:=ws.length+2) R2.sub ar nd (List.replicate (ws.length+2) x) (by simp)
        have hvl:vs.length=ws.length:=by have:=ar.length;simpa using this
        have es:start (List.replicate (ws.length+2) x) (x1 :: x2 :: vs)=some x1 :: some x2 :: bN cap σ:=by
          unfold start;rw[k1];simp[hvl]
        have eS:(U.t da :: U.t db :: ws).map some++List.replicate (ws.length+2 - (U.t da :: U.t db :: ws).length) none=some (U.t da) :: some (U.t db) :: ws.map some:=by simp
        rw[es,eS] at R3
        have back:∀(T2:SS) (F3 H4:Hp) (outs:List MO) (S3:SS),Rel K ⟨lent (x1 :: x2 :: vs) (U.t da :: U.t db :: ws),FN,H3⟩ T2 (some x1 :: some x2 :: bN cap σ) F3 H4->aP (U.t da :: U.t db :: ws) T2=some outs->wb us outs S2=some S3->Rel K B S3 σ F3 H4/\Step S S3 σ F H F3 H4/\(∀b o,FN b=some o->F3 b=some o):=fun T2 F3 H4 outs S3 RT ho hw=>by
          have po:=post_of ar T2 _ F3 H4 outs RT ho
          obtain⟨Ra,An,_⟩:=mZ (S0:=S2) (F0:=FN) (H0:=H3) R2 (Step.refl ..) rr er (show wb (U.t da :: U.t db :: us) outs S2=some S3 by cases outs <;> exact hw) hnd.1 po
          exact⟨Ra,st2.trans An,An.ext.le⟩
        refine⟨pa,x1,x2,rfl,.inl hpa,_,_,FN,bk,T1,R3,e3,fun F3 H4 K8 ON=>?_⟩
        cases bk with
        | true=>
          obtain⟨⟨yd,T2⟩,e4,dI⟩:=aj (show(g T1).bind _=_ from dI)
          obtain⟨outs,e5,dI⟩:=aj dI
          obtain⟨S3,e6,dI⟩:=aj dI
          refine xA ⟨_,T1,F3,yd,T2,K8,e4,fun yv F4 H5 OO OP OQ=>?_⟩
          obtain⟨Ra,An,B9⟩:=back T2 F4 H5 outs S3 OO e5 e6
          refine⟨ds.length - (i+1),by omega,S3,F4,acc++[yd],Ra,An,fun b o z=>B9 b o (le b o z),(ry.le B9).append (.cons OQ .nil),by simp;omega,hlt,rfl,dI⟩
        | false=>
          obtain⟨outs,e5,dI⟩:=aj (show(aP (U.t da :: U.t db :: ws) T1).bind _=_ from dI)
          obtain⟨S3,e6,dI⟩:=aj dI
          obtain⟨Ra,An,B9⟩:=back T1 F3 H4 outs S3 K8 e5 e6
          exact xy ⟨ds.length - (i+1),by omega,S3,F3,acc,Ra,An,fun b o z=>B9 b o (le b o z),ry.le B9,by omega,hlt,rfl,dI⟩
      . cases dI
    . have e:i=ds.length:=by omega
      subst e
      rw[List.drop_length] at dI
      cases dI
      refine .inl ⟨w'.2 (Nat.le_refl _),fun p hp=>?_⟩
      have n:=gT.obj (F:=F2) hp (.lst ys)
      refine k (.ref p) F2 _ (R2.new n (R2.sub.same n.same)) (st2.trans n.step) ⟨p,rfl,none_of st2.ext.there hp,R2.sub.fresh hp,⟨ys,aU,ry⟩,fun m=>?_,none_of R2.ext.there hp⟩
      obtain⟨o,ho⟩:=R2.has m
      rw[hp] at ho
      cases ho
  . cases hg
theorem Ay {X:Cx}{elt iter:Expr}{ifs:List Expr}{x y0:Str}{px py pt pos:Pos}{k0:Nat}{scope:Scope}{cl:List (Str×Addr)}{bH:List Str}{cap:List Nat}{gi:GI}{q:GT}{g:GD}(T:nK X x y0 bH cap scope cl) (hc:X.calm=true) (hi:Lj X (.Tuple [.Name x px,.Name y0 py] k0 pt) iter gi)
  (ht:∀C s H fp,MM (cG X (x :: y0 :: bH) scope cl C s H fp) ifs q) (he:∀C s H fp,JD (cG X (x :: y0 :: bH) scope cl C s H fp) elt g)
  (hs:∀x,foldedSetIterable iter X.env x=pure x:=by intro _;rfl):JE X (.ListComp elt [⟨.Tuple [.Name x px,.Name y0 py] k0 pt,iter,ifs,0⟩] scope pos) (qI cap gi q g):=⟨fun B=>
 (Ax (tc:=fun σ H Q=>∃B,tQ X.K B q σ H Q) (te:=fun σ H Q=>∃B,tD X.K B g σ H Q) T hc (hi.h B) (fun C s H fp pins s' σ H' Q I ⟨B',z⟩=>(ht C s H fp).h B' pins s' σ H' Q I z) (fun C s H fp pins s' σ H' Q I ⟨B',z⟩=>(he C s H fp).h B' pins s' σ H' Q I z) hs).imp fun σ H Q h=>xR h⟩
section
variable {X:Cx}{tg a b:Expr}{p pos:Pos}{ta:TA}{gA:GA}
variable {p2 pos2:Pos}
end
end L2
end
section
namespace L2
open PySem PySem.Spec PyProof.Rows
section
variable {M:Model}{A:Around}{E:Value->Shared->Prop}{s:Shared}{Q:Value->Shared->Prop}
end
noncomputable def Ln (g g':GS):GS:=fun S=>(g S).or (g' S)
theorem Lo {X:Cx}{st:List Stmt}{g g':GS}(h:JB X st g) (h':JB X st g'):JB X st (Ln g g'):=⟨fun B pins s σ H Q I ⟨S,F,o,R,hg,q⟩=>by
 unfold Ln at hg
 cases e:g S with
 | some o'=>
  rw[e] at hg
  exact h.h B pins s σ H Q I ⟨S,F,o,R,by rw[e];exact hg,q⟩
 | none=>
  rw[e] at hg
  exact h'.h B pins s σ H Q I ⟨S,F,o,R,hg,q⟩⟩
section
variable {prog:Program}{w:World}{K:Type} [DecidableEq K] {knd:HeapKind prog w K}{A:Around}{E:Value->Shared->Prop}{s:Shared}
end
section
variable {X:Cx}{pins:List (Addr×Obj)}{σ:St}{H:Hp}{s:Shared}{a:Addr}{y v r:V}{u z:Value}{A:Around}{E:Value->Shared->Prop}
end
section
variable {X:Cx}{o e f:Expr}{td ty tx:TE}{x:Str}{px pos apos cpos:Pos}{gk gd:GD}
noncomputable def OY (o:MO) (k d:D):Option (D×MO):=match o with
 | .dct kvs=>(keyOf k).bind fun kk=>match bA kvs kk with
  | some e=>some (e,.dct kvs)
  | none=>if kvs.length < 100000 then some (d,.dct (putD kvs kk d)) else none
 | .iO kvs=>(jk k).bind fun kk=>match bA kvs kk with
  | some e=>some (e,.iO kvs)
  | none=>if kvs.length < 10000000 then some (d,.iO (putD kvs kk d)) else none
 | _=>none
end
noncomputable def Lp:List D->Option U
 | [.lst ds]=>(bT ds).bind fun ns=>if ns.length<=1000 then some (.t (.int (firstMet (fun i=>ns.getD i 0) ns.length).length)) else none
 | _=>none
section
variable {X:Cx}{a:Expr}{pos p p1 p2:Pos}{ga:GD}
end
noncomputable def nL:List D->Option U
 | [d,.dg]=>some (.t (.bl (!vV d)))
 | _=>none
theorem xS {X:Cx}:wY X (compareOp .IsNot) nL:=by
 intro pins s σ H x y v u Q I rx ry ⟨F,ds,w,sb,rs,hw,q⟩
 obtain⟨d,e,rfl,r1,r2⟩:=qx rs
 cases e <;> try (cases d <;> simp[nL] at hw;done)
 cases hw
 cases r2
 refine DM pins s σ H _ _ v u Q I rx ry ⟨rfl,?_⟩
 have k:Rep F (V.bl (!decide (x= .dg))) (.bl (!vV d)):=by
  cases r1 <;> exact .bl _
 exact q _ F H (gT.refl ..) sb k
@[simp] theorem Jw (d:D):nL [d,.dg]=some (.t (.bl (!vV d))):=rfl
theorem Eo:typeLookup (.type "list") "keys" =pure none:=by rw[typeLookup_type,builtinLookup_eq_fast];kernel_rfl
theorem sM:entryFor table "dict.update.loop" =some Builtin.«dict.update.loop»:=entryFor_of_tree (by kernel_rfl)
theorem lR:plainId "dict.update.loop" =true:=by decide +kernel
section
variable {prog:Program}{w:World}{A:Around}{E:Value->Shared->Prop}{s:Shared}
theorem Ep {a:Addr}{o:Obj}{xs:Array Value}{k:Nat}{name:Str}{u:Tok}{Q:Value->Shared->Prop}
  (hx:s.heap.get? a=some o) (hc:o.cls= .type "list") (hdat:o.data= .seq xs k) (hd:o.dict=none) (hmiss:typeLookup (.type "list") name=pure none) (hname:(["__module__","__name__","__qualname__","__doc__","__annotations__"]:List Str).contains name=false) (hA:A.handled=none)
  (h:∀h' tk e,Heap.NewExcOf s.heap h' e "AttributeError"->E (.ref e) {s with heap:=h',toks:=tk}) (hsz:name.length+100<=sizeLine:=by size_fits):
  wpAny (model prog w) A (getAttrBy (.ref a) (.str name u) false) Q E s:=by
 obtain⟨c,dct,dat,sl⟩:=o
 simp only at hc hdat hd
 subst hc hdat hd
 obtain⟨hp,g,d,tk,os⟩:=s
 have hT:∀tk',(⟨hp,g,d,tk',os⟩:Shared).TypeIs (.ref a) "list":=fun _=>⟨_,hx,rfl⟩
 have f1:=sub_AttributeError
 have f3:=F.slot_list_getattribute.lookup
 have f4:=F.slot_list_getattribute.bind (.ref a)
 have f5:=am_list_getattr_none
 unfold getAttrBy
 repeat (any_goals (first | assumption | exact hT _ | ((with_reducible show wpAny _ _ (call (Value.builtin "list.__getattribute__") _ _) _ _ _);refine call_meets F.slot_list_getattribute (hT _) am_entry_list_getattribute (F.args_list_getattribute_2 _ _) (meets_getattribute_miss_list a xs k sl name _ hmiss hname hsz) ⟨hx,hA,fun h' tk' e hx'=>?_⟩) | wp_step))
 obtain⟨t',u',he⟩:=hx'.there
 show wpAny _ _ (getattributeRaised _ _ _ _ _ _ _) _ _ _
 unfold getattributeRaised
 repeat (any_goals (first | assumption | wp_step))
 exact h _ _ _ hx'.of
theorem HN {a:Addr}{o:Obj}{xs:Array Value}{k:Nat}{name:Str}{Q:Option Value->Shared->Prop}
  (hx:s.heap.get? a=some o) (hc:o.cls= .type "list") (hdat:o.data= .seq xs k) (hd:o.dict=none) (hmiss:typeLookup (.type "list") name=pure none) (hname:(["__module__","__name__","__qualname__","__doc__","__annotations__"]:List Str).contains name=false) (hA:A.handled=none)
  (h:∀h' tk e,Heap.NewExcOf s.heap h' e "AttributeError"->Q none {s with heap:=h',toks:=tk}) (hsz:name.length+100<=sizeLine:=by size_fits):
  wpAny (model prog w) A (getAttr? (.ref a) name) Q E s:=by
 unfold getAttr?
 refine wpAny_bind (wpAny_mkText ?_)
 unfold getAttrBy?
 refine wpAny_bind (wpAny_attempt (Ep hx hc hdat hd hmiss hname hA (fun h' tk e n=>?_) hsz))
 obtain⟨ob,vs,h1,h2,_⟩:=n.there
 show wpAny _ _ (isInstance (.ref e) (.type "AttributeError") >>= _) _ _ _
 refine wpAny_bind (wpAny_isInstance (T:="AttributeError") ⟨ob,h1,h2⟩ sub_AttributeError ?_)
 exact wpAny_pure (h h' tk e n)
end
section
variable {prog:Program}{w:World}{A:Around}{R:Result->Shared->Prop}{I:Addr}{fp wr:List Addr}{G:Array GenState->Array GenState->Prop}{n:Nat}{P:Nat->Value->Prop}{St:Nat->Shared->Prop}{K:Type} [DecidableEq K] {knd:KeyKind prog w K}
noncomputable def putAll (ps:Nat->K×Value) (n:Nat):List (K×Value):=(List.range n).foldl (fun kvs i=>stored kvs (ps i).1 (ps i).2) []
theorem pF (ps:Nat->K×Value) (n:Nat):putAll ps (n+1)=stored (putAll ps n) (ps n).1 (ps n).2:=by
 unfold putAll
 rw[List.range_succ,List.foldl_append]
 rfl
theorem Cr (W:WalksS prog w A.in1 I fp wr G n P St) (S:Addr) (hSf:S∉fp) (h0:Heap) (ps:Nat->K×Value) (hz:∀i,i<=n->(putAll ps i).length<=sizeLine)
  (hval:∀i v,P i v->∃b o key m,v= .ref b/\b≠S/\b∉wr/\h0.get? b=some o/\o.cls= .type "tuple"/\o.data= .seq #[key,(ps i).2] m/\knd.is (ps i).1 key=true):
  ∀(k i:Nat) (s:Shared) (q:Int) (t:Tok),n - i=k->i<=n->St i s->s.heap.DictOf knd S (putAll ps i)->(∀b o,b≠S->b∉wr->h0.get? b=some o->s.heap.get? b=some o)->
   (∀s',Moved (S :: wr) G s s'->s'.heap.DictOf knd S (putAll ps n)->R (.ok (.ret .none)) s')->
   codeAny (model prog w) A (.builtin "dict.update.loop" ⟨[.ref S,.ref I,.int q t,.none],[]⟩) R s:=by
 have SX:S∉wr:=fun h=>hSf (W.sub _ h)
 have hsub:∀b∈wr,b∈S :: wr:=fun b hb=>List.mem_cons_of_mem _ hb
 intro k
 induction k with
 | zero=>
  intro i s q t hk hi hst hS hh hR
  have hin:i=n:=by omega
  subst hin
  refine codeAny_builtin sM ?_
  rw[Around.under_plainId lR _]
  show wpAny _ A.in1 (pyNext (.ref I) >>= _) _ _ s
  refine wpAny_bind (W.done s _ _ hst fun s' hm=>?_)
  show wpAny _ A.in1 (Builtin.Dict.addKeywords S [] >>= _) _ _ s'
  refine wpAny_bind (wpAny_pure ?_)
  exact wpAny_pure (hR s' (hm.mono hsub) (by
   obtain⟨o,es,ep,ho,rest⟩:=hS
   exact⟨o,es,ep,hm.heap S _ SX ho,rest⟩))
 | succ k ih=>
  intro i s q t hk hi hst hS hh hR
  have hlt:i < n:=by omega
  refine codeAny_builtin sM ?_
  rw[Around.under_plainId lR _]
  show wpAny _ A.in1 (pyNext (.ref I) >>= _) _ _ s
  refine wpAny_bind (W.item i s _ _ hlt hst fun v s' hP OZ hm=>?_)
  obtain⟨b,o,key,m,rfl,U1,SY,hb,hc,hd,hkey⟩:=hval i v hP
  have hb':s'.heap.get? b=some o:=hm.heap b o SY (hh b o U1 SY hb)
  have hS':s'.heap.DictOf knd S (putAll ps i):=by
   obtain⟨o,es,ep,ho,rest⟩:=hS
   exact⟨o,es,ep,hm.heap S _ SX ho,rest⟩
  refine wpAny_bind (wpAny_holding ?_)
  refine wpAny_bind (wpAny_tryCatch ?_)
  unfold Builtin.Dict.pairItems
  refine wpAny_bind (wpAny_typeOf (T:="tuple") ⟨o,hb',hc⟩ ?_)
  rw[if_pos (by decide)]
  refine wpAny_bind (wpAny_seqItems hb' hd (wpAny_pure ?_))
  show wpAny _ A.in1 (holding [key,(ps i).2] (dictSet S key (ps i).2)) _ _ s'
  refine wpAny_holding (wpAny_dictSet_pairs hkey hS' (fun h' hD hsb=>?_) (hz i hi))
  rw[<-pF] at hD
  refine wpAny_pure ⟨plainId_quiet lR _,ih (i+1) _ _ _ (by omega) hlt (W.frame _ s' _ _ OZ (Nat.le_succ _) fun c hc o e=>?_) hD (fun c o hcS hcw e=>?_) fun s'' O0 O1=>?_⟩
  ·rw[hsb.2 c (fun h:c=S=>hSf (by rw[<-h];exact hc))];exact e
  ·show h'.get? c=some o
   rw[hsb.2 c hcS];exact hm.heap c o hcw (hh c o hcS hcw e)
  ·refine hR s'' (Moved.trans W.gtrans ((hm.mono hsub).then_heap (Nat.le_succ _) fun b o hb e=>?_) O0) O1
   rw[hsb.2 b (fun h:b=S=>hb (by rw[h];exact List.mem_cons_self))];exact e
end
section
variable {prog:Program}{w:World}{A:Around}{E:Value->Shared->Prop}{s:Shared}{K:Type} [DecidableEq K] {knd:KeyKind prog w K}
theorem rO {l b:Addr}{o ob:Obj}{m mb:Nat}{k:K}{key x:Value}{Q:Value->Shared->Prop}(hh:A.handled=none) (hl:s.heap.get? l=some o) (hc:o.cls= .type "list") (hd:o.dict=none) (hdat:o.data= .seq #[.ref b] m)
  (hb:s.heap.get? b=some ob) (hbc:ob.cls= .type "tuple") (hbd:ob.data= .seq #[key,x] mb) (hk:knd.is k key=true)
  (h:∀h' tk,h'.DictOf knd s.heap.objs.size (stored [] k x)->(∀c oc,s.heap.get? c=some oc->h'.get? c=some oc)->Q (.ref s.heap.objs.size) {s with heap:=h',toks:=tk}):
  wpAny (model prog w) A (call (.type "dict") [.ref l]) Q E s:=by
 refine callType_codes (Q₁:=fun obj s₁=>obj= .ref s.heap.objs.size/\s₁={s with heap:=s.heap.push {cls:=.type "dict",data:=.dict #[]}}) F.kt_called_dict (F.kt_typeCall_dict_1 _) F.entry_dict_init (kt_code_dict_new _ ⟨rfl,rfl⟩) ?_
 rintro obj s₁ ⟨rfl,rfl⟩
 have hnew:(s.heap.push {cls:=.type "dict",data:=.dict #[]}).DictOf knd s.heap.objs.size []:=Heap.DictOf.new s.heap
 have ol:(s.heap.push {cls:=.type "dict",data:=.dict #[]}).get? l=some o:=Heap.get?_push_of_some _ hl
 refine⟨hnew.typeIs,F.args_dict_init_2 _ _,?_⟩
 unfold Builtin.«dict.__init__»
 refine wpAny_bind ?_
 unfold Builtin.Dict.selfAndRest
 refine wpAny_bind (wpAny_notOrdered_dict hnew.typeIs ?_)
 show wpAny _ _ (pure (s.heap.objs.size,[Value.ref l])) _ _ _
 refine wpAny_pure ?_
 show wpAny _ _ (Builtin.Dict.updateFrom "dict.__init__" s.heap.objs.size (.ref l) [] .none) _ _ _
 unfold Builtin.Dict.updateFrom
 refine wpAny_bind (wpAny_typeOf (T:="list") ⟨o,ol,hc⟩ ?_)
 rw[if_pos (by decide)]
 refine wpAny_bind (HN ol hc hdat hd Eo (by decide +kernel) (by simpa using hh) fun h1 XW e1 ne=>?_)
 rw[if_pos (show(none:Option Value).isNone=true from rfl)]
 have S4:h1.DictOf knd s.heap.objs.size []:=by
  obtain⟨o',es,ep,ho,r⟩:=hnew
  exact⟨o',es,ep,ne.keeps _ _ ho,r⟩
 have S5:h1.IsList l #[.ref b]:=⟨o,ne.keeps _ _ ol,hc,m,hdat⟩
 refine wpAny_bind (wpAny_rule ?_)
 refine wpAny_bind (wpAny_pyIter_list S5 ?_)
 have nS:s.heap.objs.size < h1.objs.size:=by
  obtain⟨o',es,ep,ho,r⟩:=S4
  exact Heap.lt_size ho
 have nl:l < s.heap.objs.size:=Heap.lt_size hl
 have nb:b < s.heap.objs.size:=Heap.lt_size hb
 have keep:∀c oc,s.heap.get? c=some oc->(h1.push {cls:=.type "list_iterator",data:=.fields #[.ref l,.int 0 0]}).get? c=some oc:=fun c oc z=>Heap.get?_push_of_some _ (ne.keeps _ _ (Heap.get?_push_of_some _ z))
 refine wpAny_pure ⟨plainId_quiet lR _,?_⟩
 refine Cr (Walks.list (by simpa using hh) _ l (Nat.ne_of_lt (Nat.lt_trans nl nS)) #[.ref b]).toS s.heap.objs.size ?_ s.heap (fun _=>(k,x)) ?_ ?_ 1 0 _ 0 0 rfl (Nat.zero_le _) ⟨⟨_,Heap.get?_push_size _ rfl,rfl,rfl⟩,S5.push _⟩ (S4.push _) (fun c oc _ _ z=>keep c oc z) fun s' hm hD=>?_
 ·simp only[List.mem_cons,List.not_mem_nil,or_false,not_or]
  exact⟨Nat.ne_of_lt nS,Nat.ne_of_gt nl⟩
 ·intro i hi
  have:i=0\/i=1:=by have:(#[Value.ref b]).size=1:=rfl;omega
  rcases this with rfl | rfl
  ·exact Nat.zero_le _
  ·rw[pF];show(stored [] k x).length<=_;unfold stored;simp;decide
 ·intro i v hP
  have hP:(#[Value.ref b])[i]? =some v:=hP
  have hi:i=0:=by
   have:=(Array.getElem?_eq_some_iff.mp hP).1
   have z:(#[Value.ref b]).size=1:=rfl
   omega
  subst hi
  cases hP
  refine⟨b,ob,key,mb,rfl,Nat.ne_of_lt nb,?_,hb,hbc,hbd,hk⟩
  simp only[List.mem_cons,List.not_mem_nil,or_false]
  exact Nat.ne_of_lt (Nat.lt_trans nb nS)
 ·obtain⟨h',g',d',tk',os'⟩:=s'
  have eg:g'=s.gens:=hm.gens
  have ed:d'=s.drawn:=hm.drawn
  have eo:os'=s.os:=hm.os
  subst eg;subst ed;subst eo
  refine⟨rfl,h h' tk' hD fun c oc z=>?_⟩
  have nc:c < s.heap.objs.size:=Heap.lt_size z
  refine hm.heap c oc ?_ (keep c oc z)
  simp only[List.mem_cons,List.not_mem_nil,or_false,not_or]
  exact⟨Nat.ne_of_lt nc,Nat.ne_of_lt (Nat.lt_trans nc nS)⟩
end
noncomputable def nM:List D->Option U
 | [.lst [.tup [k,x]]]=>(keyOf k).map fun kk=>.m (.dct [(kk,x)])
 | _=>none
theorem vX {d:D}{u:U}(h:nM [d]=some u):∃k x kk,d= .lst [.tup [k,x]]/\keyOf k=some kk/\u= .m (.dct [(kk,x)]):=by
 unfold nM at h
 split at h
 ·rename_i k x e
  cases e
  obtain⟨kk,h1,h2⟩:=aE h
  exact⟨k,x,kk,rfl,h1,h2.symm⟩
 ·cases h
section
variable {X:Cx}{a:Expr}{pos p p1 p2:Pos}{ga:GD}
theorem Az (hc : X.calm = true) (U3 : Gl X "dict") (hm1 : X.mg "dict" = none) (ha : JD X a ga) (hs2 : starEach [a] X.env = (false, eval a X.env) :: starEach [] X.env := by rfl) :
    JE X (.Call (.Name "dict" p) [a] [] pos) (eP nM (aa ga aC)):=⟨fun B=>by
  rintro pins s σ H Q I ⟨S,F,u,S',R,hg,q⟩
  obtain⟨⟨dl,S1⟩,h1,hg⟩:=aj hg
  obtain⟨w',h2,hg⟩:=aE hg
  cases hg
  obtain⟨⟨d,S2⟩,h3,h1⟩:=aj h1
  obtain⟨⟨dr,S3⟩,h4,h1⟩:=aE h1
  cases h4
  cases h1
  obtain⟨k,x,kk,rfl,hk,rfl⟩:=vX h2
  refine wpAny_Call_Name_kw (ow I U3 hm1 PyProof.Rows.Boot.dict ?_ (by decide) (by decide))
  refine PyProof.Rows.callWith_type1 (fh (lI (ha.h B) oA hs2 pos pins s σ H (fun vs H1=>∃v F1,vs=[v]/\Rel X.K B S2 σ F1 H1/\Step S S2 σ F H F1 H1/\Rep F1 v (.lst [.tup [k,x]])) I ⟨S,F,_,S2,R,h3,fun v F1 H1 R1 st1 r1=>⟨v,F1,rfl,R1,st1,r1⟩⟩) ?_) hs2 rfl
  rintro us s1 ⟨vs,H1,I1,r1,v,F1,rfl,R1,st1,rd⟩
  obtain⟨a',vs',rfl,fa,hla,mq⟩:=R1.sub.jq rd
  obtain⟨u',rfl,ru⟩:=vals1 r1
  cases ru
  cases mq with
  | cons rt rr =>
    cases rr
    obtain⟨b,vb,rfl,fb,hlb,Lq⟩:=R1.sub.iV rt
    cases Lq with
    | cons rk Lq =>
      cases Lq with
      | cons rx Lq =>
        cases Lq
        rename_i kv xv
        obtain⟨its,rv,pl,hz⟩:=I1.list (.inl hla)
        obtain⟨itb,iC,pb,XX⟩:=I1.tuple (.inl hlb)
        cases rv with
        | cons r0 rv=>
          cases rv
          cases r0
          cases iC with
          | cons r2 iC=>
            cases iC with
            | cons r3 iC=>
              cases iC
              rename_i ku xu
              obtain⟨o,n,e1,e2,e3,e4⟩:=pl
              obtain⟨ob,e5,e6,nb,e7⟩:=pb
              have ky:=jO rk hk
              refine rO (knd:=iN X.prog X.w) (I1.ok.hd hc) e1 e2 e3 e4 e5 e6 e7 (ky.is r2) fun h' tk hD keep=>?_
              have rel:KV [(kk,xv)] (stored [] kk xu):=by
                have:KV (putK [] kk xv) (stored [] kk xu):=KV.put .nil kk r3
                exact this
              have hsm:(s1.heap.objs.size == sysModules)=false:=by
                rw[beq_eq_false_iff_ne]
                exact Nat.ne_of_gt I1.big
              have I2:=I1.laid (a:=s1.heap.objs.size) (o:=.dK [(kk,xv)]) (h':=h') (t':=tk) keep (Nat.le_refl _) (Br (by show 1<=sizeLine;decide) hsm rel hD)
              have hp:H1 s1.heap.objs.size=none:=I1.hok.fresh (Nat.le_refl _)
              have nw:=gT.obj (F:=F1) hp (.dK [(kk,xv)])
              refine⟨.ref s1.heap.objs.size,_,I2,rfl,?_⟩
              exact q _ F1 _ (R1.new nw (R1.sub.same nw.same)) (st1.trans nw.step) (BR.Hy (u:=.m (.dct [(kk,x)])) R1 st1 ⟨_,rfl,hp,R1.sub.fresh hp,_,aU,.cons ⟨rfl,rx⟩ .nil⟩)⟩
end
structure NB (B B':Base) (N:List Addr):Prop where
 p:B'.P=B.P
 f:B'.F=B.F
 out:∀c,c∉N->B'.H c=B.H c
 new:∀c,c∈N->B.H c=none/\¬B.M c/\B.F c=none
structure NR (K:PySem.W.Frag) (B B':Base) (S:SS) (σ:St) (F H:Hp) (a:Addr) (bs:List Addr) (nest:List (List D)):Prop where
 r:Rel K B' S σ F H
 b:NB B B' (a :: bs)
 na:a∉bs
 nd:bs.Nodup
 top:B'.H a=some (.lst (bs.map V.ref))
 len:bs.length=nest.length
 ins:∀(k:Nat) c ds,bs[k]? =some c->nest[k]? =some ds->∃vs,B'.H c=some (.lst vs)/\bD F vs ds
noncomputable def Es (K:PySem.W.Frag) (B:Base) (S:SS) (σ:St) (F H:Hp) (a:Addr) (nest:List (List D)):Prop:=∃B' bs,NR K B B' S σ F H a bs nest
section
variable {K:PySem.W.Frag}{B B':Base}{S S':SS}{σ:St}{F H F' H':Hp}{a:Addr}{bs:List Addr}{nest:List (List D)}
theorem NB.notM {N:List Addr}(n:NB B B' N){c:Addr}(h:c∈N):¬B'.M c:=fun z=>(n.new c h).2.1 (by unfold Base.M at z ⊢;rw[n.p] at z;exact z)
theorem NR.at {c:Addr}{o:HO}(R:NR K B B' S σ F H a bs nest) (hc:c∈a :: bs) (h:B'.H c=some o):H c=some o/\F c=none:=
 ⟨R.r.ext.keep c o h (R.b.notM hc),R.r.ext.gM c o h (R.b.notM hc) (by rw[R.b.f];exact(R.b.new c hc).2.2)⟩
theorem NR.apart {c:Addr}{o:HO}(R:NR K B B' S σ F H a bs nest) (hc:c∈a :: bs) (h:B'.H c=some o):¬bY S σ c:=fun⟨i,u,h1,h2,h3⟩=>by
 cases u with
 | m q=>rw[R.r.own i q c h1 h3] at h;cases h
 | b q=>exact R.b.notM hc (R.r.bor i q c h1 h3)
 | t d=>cases h2
 | v d=>cases h2
 | s d=>cases h2
 | f d=>cases h2
theorem NR.step (R:NR K B B' S σ F H a bs nest) (R':Rel K B' S' σ F' H') (le:∀b o,F b=some o->F' b=some o):NR K B B' S' σ F' H' a bs nest:=
 ⟨R',R.b,R.na,R.nd,R.top,R.len,fun k c ds h1 h2=>let⟨vs,e,r⟩:=R.ins k c ds h1 h2;⟨vs,e,r.le le⟩⟩
theorem NR.bind {σ':St}(R:NR K B B' S σ F H a bs nest) (R':Rel K B' S' σ' F H):NR K B B' S' σ' F H a bs nest:=⟨R',R.b,R.na,R.nd,R.top,R.len,R.ins⟩
theorem NR.app (R : NR K B B' S σ F H a bs nest) {k : Nat} {c : Addr} {ds : List D} {vs : List V} {y : V} {d : D} (hc : bs[k]? = some c) (hn : nest[k]? = some ds) (hv : B'.H c = some (.lst vs)) (rs : bD F vs ds) (ry : Rep F y d) :
    NR K B ⟨B'.P,B'.F,upd B'.H c (.lst (vs++[y]))⟩ S σ F (upd H c (.lst (vs++[y]))) a bs (nest.set k (ds++[d])):=by
  have mc:c∈bs:=List.mem_of_getElem? hc
  have O2:c∈a :: bs:=List.mem_cons_of_mem _ mc
  have U4:a≠c:=fun z=>R.na (z▸mc)
  obtain⟨hH,hF⟩:=R.at O2 hv
  have ap:=R.apart O2 hv
  have Gd:∀b o u,H b=some (.iI o u)->upd H c (.lst (vs++[y])) b=some (.iI o u):=fun b o u z=>by
    rw[aK (fun e=>by rw[e,hH] at z;cases z)];exact z
  refine⟨⟨fun b o z=>?_,R.r.len,fun i u h=>?_,R.r.vF,fun i o b h1 h2=>?_,R.r.bor,R.r.par,⟨R.r.ext.le,fun b o z n=>?_,fun b o z n f=>?_,fun b o z=>?_,fun b o u z=>?_⟩⟩,⟨R.b.p,R.b.f,fun b hb=>?_,R.b.new⟩,R.na,R.nd,?_,by rw[List.length_set];exact R.len,fun j b es h1 h2=>?_⟩
  . rw[aK (fun e=>by rw[e,hF] at z;cases z)];exact R.r.sub b o z
  . obtain⟨v,h1,h2⟩:=R.r.rep i u h
    refine⟨v,h1,h2.le (fun _ _ z=>z) Gd fun b hm hb=>⟨fun o q=>?_,?_⟩⟩
    . rw[aK (fun e=>ap ⟨i,u,h,hm,by rw[h1,hb,e]⟩)];exact q
    . obtain⟨b',o,e,f,_⟩:=h2.bY hm
      rw[hb] at e
      cases e
      exact f
  . have z:=R.r.own i o b h1 h2
    show upd B'.H c _ b=none
    rw[aK (fun e=>by rw[e,hv] at z;cases z)]
    exact z
  . have z:upd B'.H c (.lst (vs++[y])) b=some o:=z
    by_cases e:b=c
    . subst e;rw[aU] at z ⊢;exact z
    . rw[aK e] at z ⊢;exact R.r.ext.keep b o z n
  . have z:upd B'.H c (.lst (vs++[y])) b=some o:=z
    by_cases e:b=c
    . subst e;exact hF
    . rw[aK e] at z;exact R.r.ext.gM b o z n f
  . have z:upd B'.H c (.lst (vs++[y])) b=some o:=z
    by_cases e:b=c
    . exact⟨_,by rw[e];exact aU⟩
    . rw[aK e] at z ⊢;exact R.r.ext.there b o z
  . have z:upd B'.H c (.lst (vs++[y])) b=some (.iI o u):=z
    have e:b≠c:=fun e=>by rw[e,aU] at z;cases z
    rw[aK e] at z ⊢
    exact R.r.ext.iI b o u z
  . show upd B'.H c _ b=_
    rw[aK (fun e:b=c=>hb (by rw[e];exact O2))]
    exact R.b.out b hb
  . show upd B'.H c _ a=_
    rw[aK U4]
    exact R.top
  . show ∃ws,upd B'.H c _ b=_/\_
    by_cases e:j=k
    . subst e
      rw[hc] at h1
      cases h1
      have hl:=(List.getElem?_eq_some_iff.mp hn).1
      rw[List.getElem?_set_self hl] at h2
      cases h2
      exact⟨vs++[y],aU,rs.append (.cons ry .nil)⟩
    . rw[List.getElem?_set_ne (Ne.symm e)] at h2
      obtain⟨ws,e1,r1⟩:=R.ins j b es h1 h2
      have ne:b≠c:=fun z=>e (by
        subst z
        have l1:=(List.getElem?_eq_some_iff.mp h1)
        have l2:=(List.getElem?_eq_some_iff.mp hc)
        obtain⟨p1,q1⟩:=l1
        obtain⟨p2,q2⟩:=l2
        have z1:=R.nd.idxOf_getElem j p1
        have z2:=R.nd.idxOf_getElem k p2
        rw[q1] at z1
        rw[q2] at z2
        rw[<-z1,<-z2])
      exact⟨ws,by rw[aK ne];exact e1,r1⟩
theorem NR.freeze (R : NR K B B' S σ F H a bs nest) {i : Nat} (hi : S[i]? = some (some (.f a))) : ∃ F', Rel K B (S.set i (some (.t (.lst (nest.map D.lst))))) σ F' H /\ (∀ b o, F b = some o -> F' b = some o) := by
  have hl:=(List.getElem?_eq_some_iff.mp hi).1
  have there:∀c,c∈a :: bs->∃o,B'.H c=some o:=fun c hc=>by
    rcases List.mem_cons.mp hc with rfl | m
    . exact⟨_,R.top⟩
    . obtain⟨k,hk⟩:=List.getElem?_of_mem m
      have:k < nest.length:=by rw[<-R.len];exact(List.getElem?_eq_some_iff.mp hk).1
      obtain⟨vs,e,_⟩:=R.ins k c _ hk (List.getElem?_eq_getElem this)
      exact⟨_,e⟩
  let F':Hp:=fun c=>if c∈a :: bs then H c else F c
  have pW:∀c,c∈a :: bs->F' c=H c:=fun c hc=>if_pos hc
  have out:∀c,c∉a :: bs->F' c=F c:=fun c hc=>if_neg hc
  have le:∀b o,F b=some o->F' b=some o:=fun b o z=>by
    by_cases m:b∈a :: bs
    . rw[pW b m];exact R.r.sub b o z
    . rw[out b m];exact z
  have back:∀{j:Nat}{w:U},(S.set i (some (.t (.lst (nest.map D.lst)))))[j]? =some (some w)->(i=j/\w= .t (.lst (nest.map D.lst)))\/(i≠j/\S[j]? =some (some w)):=fun {j w} h=>by
    rcases get_set h with⟨e,q,_⟩ | q
    . cases q;exact .inl ⟨e,rfl⟩
    . exact .inr q
  have O3:σ[i]? =some (some (.ref a)):=by
    obtain⟨v,h1,h2⟩:=R.r.rep i _ hi
    rw[h1]
    exact congrArg (fun z=>some (some z)) h2
  refine⟨F',⟨fun b o z=>?_,by rw[List.length_set];exact R.r.len,fun j u h=>?_,fun j k u w c h1 m1 h2 m2=>?_,fun j o c h=>?_,fun j o c h=>?_,fun j c h=>?_,?_⟩,le⟩
  . by_cases m:b∈a :: bs
    . rw[pW b m] at z;exact z
    . rw[out b m] at z;exact R.r.sub b o z
  . rcases back h with⟨rfl,rfl⟩ | ⟨ne,q⟩
    . refine⟨.ref a,O3,.lst (.inl (by rw[pW a List.mem_cons_self];exact(R.at List.mem_cons_self R.top).1)) ?_⟩
      have go:∀(cs:List Addr) (ns:List (List D)),cs.length=ns.length->(∀(k:Nat) c ds,cs[k]? =some c->ns[k]? =some ds->c∈a :: bs/\∃vs,B'.H c=some (.lst vs)/\bD F vs ds)->bD F' (cs.map V.ref) (ns.map D.lst):=by
        intro cs
        induction cs with
        | nil=>intro ns e _;cases ns with | nil=>exact .nil | cons=>cases e
        | cons c cs ih=>
          intro ns e h
          cases ns with
          | nil=>cases e
          | cons n ns=>
            obtain⟨m,vs,e1,r1⟩:=h 0 c n rfl rfl
            refine .cons (.lst (.inl (by rw[pW c m];exact(R.at m e1).1)) (r1.le le)) (ih ns (by simpa using e) fun k=>h (k+1))
      exact go bs nest R.len fun k c ds h1 h2=>⟨List.mem_cons_of_mem _ (List.mem_of_getElem? h1),R.ins k c ds h1 h2⟩
    . obtain⟨v,h1,h2⟩:=R.r.rep j u q
      refine⟨v,h1,h2.le le (fun _ _ _ z=>z) fun c hm hc=>⟨fun o z=>z,?_⟩⟩
      have nm:c∉a :: bs:=fun m=>by
        obtain⟨o,ho⟩:=there c m
        exact R.apart m ho ⟨j,u,q,hm,by rw[h1,hc]⟩
      rw[out c nm]
      obtain⟨c',o,e,f,_⟩:=h2.bY hm
      rw[hc] at e
      cases e
      exact f
  . rcases back h1 with⟨_,rfl⟩ | ⟨_,q1⟩
    . cases m1
    . rcases back h2 with⟨_,rfl⟩ | ⟨_,q2⟩
      . cases m2
      . exact R.r.vF j k u w c q1 m1 q2 m2
  . rcases back h with⟨_,z⟩ | ⟨_,q⟩
    . cases z
    . intro hc
      have z:=R.r.own j o c q hc
      by_cases m:c∈a :: bs
      . exact(R.b.new c m).1
      . rw[<-R.b.out c m];exact z
  . rcases back h with⟨_,z⟩ | ⟨_,q⟩
    . cases z
    . intro hc
      have z:=R.r.bor j o c q hc
      unfold Base.M at z ⊢
      rw[<-R.b.p];exact z
  . obtain⟨h1,o,h2⟩:=R.r.par j c (by rw[R.b.p];exact h)
    refine⟨h1,o,?_⟩
    have ne:i≠j:=fun z=>by subst z;rw[hi] at h2;cases h2
    rw[List.getElem?_set_ne ne]
    exact h2
  . have old:∀b o,B.H b=some o->b∉a :: bs/\B'.H b=some o:=fun b o z=>by
      have m:b∉a :: bs:=fun m=>by rw[(R.b.new b m).1] at z;cases z
      exact⟨m,by rw[R.b.out b m];exact z⟩
    have mm:∀b,B'.M b->B.M b:=fun b z=>by unfold Base.M at z ⊢;rw[<-R.b.p];exact z
    refine⟨fun b o z=>le b o (R.r.ext.le b o (by rw[R.b.f];exact z)),fun b o z n=>R.r.ext.keep b o (old b o z).2 fun q=>n (mm b q),fun b o z n f=>?_,fun b o z=>R.r.ext.there b o (old b o z).2,fun b o u z=>R.r.ext.iI b o u (old b _ z).2⟩
    rw[out b (old b o z).1]
    exact R.r.ext.gM b o (old b o z).2 (fun q=>n (mm b q)) (by rw[R.b.f];exact f)
end
noncomputable abbrev GN:=Addr->SS->List (List D)->Option (SS×List (List D))
noncomputable def Cs (S:SS) (i:Nat) (a:Addr):Bool:=match S[i]? with
 | some (some (.f b))=>b == a
 | _=>false
theorem xT {S:SS}{i:Nat}{a:Addr}(h:Cs S i a=true):S[i]? =some (some (.f a)):=by
 unfold Cs at h
 split at h
 ·rename_i b e;rw[e,eq_of_beq h]
 ·cases h
noncomputable def tN (K:PySem.W.Frag) (B:Base) (i:Nat) (g:GN):TS:=fun D σ H=>∃S F a nest S' pG,Es K B S σ F H a nest/\S[i]? =some (some (.f a))/\g a S nest=some (S',pG)/\
 ∀σ' F' H',Es K B S' σ' F' H' a pG->S'[i]? =some (some (.f a))->(∀b o,F b=some o->F' b=some o)->D.nx σ' H'
structure JN (X:Cx) (i:Nat) (st:Stmt) (g:GN):Prop where
 h:∀B,PS X st (tN X.K B i g)
noncomputable def Ct (i:Nat) (gk gv:GD):GN:=fun a S nest=>(gk S).bind fun p=>match p.1 with
 | .int k=>(uX nest.length k).bind fun j=>(nest[j]?).bind fun ds=>(gv p.2).bind fun q=>if Cs q.2 i a=true/\ds.length < 100000 then some (q.2,nest.set j (ds++[q.1])) else none
 | _=>none
section
variable {X:Cx}{e1 e2:Expr}{pos px ps apos cpos:Pos}{x:Str}{gk gv:GD}{i:Nat}
theorem HP (hk:JD X e1 gk) (hv:JD X e2 gv) (hx:pT e1) (hN:X.N[i]? =some x:=by rfl) (O4:Ba X.env.scope x:=by first | exact Or.inl rfl | exact Or.inr (Or.inl rfl) | exact Or.inr (Or.inr rfl))
  (hbase:attributeBase (.Subscript (.Name x px) e1 ps) "append" X.env (eval (.Subscript (.Name x px) e1 ps) X.env)=eval (.Subscript (.Name x px) e1 ps) X.env:=by rfl)
  (hfew:((backTo cpos (starEach [e2] X.env)).all (fun x=>!x.1) && (backToKw cpos (keywordEach [] X.env)).all (fun x=>x.1.isSome)
   && decide (([e2]:List Expr).length+([]:List Keyword).length+(if([]:List Keyword).isEmpty then 0 else 1) < 30))=true:=by rfl)
  (hline:(apos.endLine == cpos.line)=true:=by rfl) (hs:starEach [e2] X.env=(false,eval e2 X.env) :: starEach [] X.env:=by rfl) (hplain:(backTo cpos (starEach [] X.env)).any (·.1)=false:=by rfl)
  (hsw:swapsWith (.Call (.Attribute (.Subscript (.Name x px) e1 ps) "append" apos) [e2] [] cpos) none pos.line X.env=pure false:=by rfl)
  (hd:(x == ("__debug__":Str))=false:=by decide) (hcd:(x == ("__classdict__":Str))=false:=by decide):
  JN X i (.Expr (.Call (.Attribute (.Subscript (.Name x px) e1 ps) "append" apos) [e2] [] cpos) pos) (Ct i gk gv):=⟨fun B=>by
 intro pins s σ H D I ⟨S,F,a,nest,S',pG,⟨B',bs,R⟩,hi,hg,q⟩
 refine(yH (FT PySem.F.plainAttrs_list PySem.F.slot_list_append PySem.F.type_list_append iR (yS tW (iJ hN O4 hd hcd) (hk.h B') hx) (lI (hv.h B') oA hs) hbase hfew hline hs hplain) hsw) pins s σ H D I ?_
 unfold Ct at hg
 obtain⟨⟨dk,S1⟩,h1,hg⟩:=aj hg
 dsimp only at hg
 split at hg
 ·rename_i k
  obtain⟨j,h2,hg⟩:=aj hg
  obtain⟨ds,h3,hg⟩:=aj hg
  obtain⟨⟨d,S2⟩,h4,hg⟩:=aj hg
  obtain⟨⟨h5,h6⟩,hg⟩:=jI hg
  cases hg
  have O3:σ[i]? =some (some (.ref a)):=by
   obtain⟨v,z1,z2⟩:=R.r.rep i _ hi
   rw[z1]
   exact congrArg (fun z=>some (some z)) z2
  refine⟨.ref a,O3,S,F,_,S1,R.r,h1,fun v1 F1 H1 R1 st1 r1=>?_⟩
  have N1:=R.step R1 st1.ext.le
  have hj:j < bs.length:=by rw[R.len];exact(List.getElem?_eq_some_iff.mp h3).1
  have hb:bs[j]? =some bs[j]:=List.getElem?_eq_getElem hj
  generalize XY:bs[j]=c at hb
  have mc:c∈a :: bs:=List.mem_cons_of_mem _ (List.mem_of_getElem? hb)
  obtain⟨vs,e1,mq⟩:=N1.ins j c ds hb h3
  have hat:dW (bs.map V.ref) k=some (V.ref c):=by
   unfold dW
   rw[List.length_map,R.len,h2]
   show(bs.map V.ref)[j]? =_
   rw[List.getElem?_map,hb]
   rfl
  refine⟨a,bs.map V.ref,k,.ref c,rfl,iP r1,mR.of (N1.at List.mem_cons_self N1.top).1,hat,.inl ⟨rfl,vs,mR.of (N1.at mc e1).1⟩,?_⟩
  refine⟨S1,F1,d,S2,R1,h4,fun v2 F2 H2 R2 st2 r2=>?_⟩
  have N2:=N1.step R2 st2.ext.le
  refine⟨c,vs,v2,rfl,rfl,(N2.at mc e1).1,?_,?_⟩
  ·rw[mq.length];exact Nat.lt_of_lt_of_le h6 (by decide)
  ·exact q σ F2 _ ⟨_,bs,N2.app hb h3 e1 (mq.le st2.ext.le) r2⟩ (xT h5) fun b o z=>st2.ext.le b o (st1.ext.le b o z)
 ·cases hg⟩
end
noncomputable def zm (bd:GB) (g:GN) (a:Addr):List D->SS->List (List D)->Option (SS×List (List D))
 | [],S,nest=>some (S,nest)
 | d :: ds,S,nest=>(bd d S).bind fun S1=>(g a S1 nest).bind fun q=>zm bd g a ds q.1 q.2
noncomputable def Cw (i:Nat) (bd:GB) (gi:GI) (g:GN):GN:=fun a S nest=>(gi S).bind fun p=>if Cs p.2 i a=true then zm (fun d S=>(bd d S).bind fun S1=>if Cs S1 i a=true then some S1 else none) g a p.1 p.2 nest else none
section
variable {X:Cx}{tg iter:Expr}{body:Stmt}{bd:GB}{gi:GI}{g:GN}{i:Nat}{pos:Pos}
theorem HQ (hp:PassesOwn (model X.prog X.w) X.A X.env X.xe) (hc:X.calm=true) (hi:Lj X tg iter gi) (hg:JG X tg bd) (hb:JN X i body g) (hs:∀x,foldedSetIterable iter X.env x=pure x:=by intro _;rfl):
  JN X i (.For tg iter [body] [] pos) (Cw i bd gi g):=⟨fun B=>by
 refine(PS.orelse fun D σ H ⟨S,F,a,nest,Sf,nf,⟨B',bs,R⟩,hS,hw,k⟩=>?_)
 refine⟨_,xm hp hc (hi.h B') (g:=fun v σ H Q=>∃B,SQ X.K B bd v σ H Q) (fun pins s σ H v u Q I r ⟨B2,z⟩=>hg.h B2 pins s σ H v u Q I r z) (yG (hb.h B)) hs,?_⟩
 obtain⟨⟨ds,S1⟩,h1,hw⟩:=aj hw
 dsimp only at hw
 obtain⟨U5,hw⟩:=jI hw
 refine⟨S,F,ds,S1,R.r,h1,fun J F1 H1 R1 st1 w=>?_⟩
 refine⟨fun n m σ' H'=>∃S' F' pG,Es X.K B S' σ' F' H' a pG/\S'[i]? =some (some (.f a))/\(∀b o,F1 b=some o->F' b=some o)/\n<=ds.length/\m=ds.length - n/\zm (fun d S=>(bd d S).bind fun S1=>if Cs S1 i a=true then some S1 else none) g a (ds.drop n) S' pG=some (Sf,nf),⟨_,S1,F1,nest,⟨B',bs,R.step R1 st1.ext.le⟩,xT U5,fun _ _ z=>z,Nat.zero_le _,rfl,hw⟩,?_⟩
 rintro n m σ' H' ⟨S',F',pG,⟨B2,cs,R'⟩,hS',le,hl,rfl,dI⟩
 have w':=w F' H' le R'.r.sub n
 by_cases hlt:n < ds.length
 ·have hd:ds[n]? =some ds[n]:=List.getElem?_eq_getElem hlt
  obtain⟨go,yl⟩:=w'.1 _ hd
  rw[List.drop_eq_getElem_cons hlt] at dI
  obtain⟨S2,e2,dI⟩:=aj dI
  obtain⟨XZ,U6,e2⟩:=aj e2
  obtain⟨O5,e2⟩:=jI e2
  cases e2
  obtain⟨⟨S3,Gg⟩,e3,dI⟩:=aj dI
  refine .inr ⟨go,_,fun σ2 H2 z=>⟨ds.length - (n+1),by omega,z⟩,fun x H2 y=>?_⟩
  obtain⟨F2,nw,OV,rx⟩:=yl x H2 y
  have R2:=R'.r.new nw OV
  have N2:=R'.step R2 nw.le
  refine⟨B2,S',F2,_,S2,R2,rx,U6,fun σ3 R3=>⟨S2,F2,a,pG,S3,Gg,⟨B2,cs,N2.bind R3⟩,xT O5,e3,fun uY F4 H4 R4 U7 pM=>?_⟩⟩
  exact⟨S3,F4,Gg,R4,U7,fun b o z=>pM b o (nw.le b o (le b o z)),hlt,rfl,dI⟩
 ·have e:n=ds.length:=by omega
  subst e
  rw[List.drop_length] at dI
  cases dI
  exact .inl ⟨w'.2 (Nat.le_refl _),k σ' F' H' ⟨B2,cs,R'⟩ hS' fun b o z=>le b o (st1.ext.le b o z)⟩⟩
end
section
variable {K:PySem.W.Frag}{B:Base}{S:SS}{σ:St}{F H:Hp}{a:Addr}{bs:List Addr}{i:Nat}
theorem Et (R : Rel K B S σ F H) (hl : i < S.length) (nb : ∀ o, S[i]? ≠ some (some (.b o))) (ha : H a = some (.lst (bs.map V.ref))) (hb : ∀ c, c ∈ bs -> H c = some (.lst [])) (na : a ∉ bs) (nd : bs.Nodup)
    (fr:∀c,c∈a :: bs->F c=none/\¬bY S σ c/\B.H c=none/\¬B.M c/\B.F c=none):
    Es K B (S.set i (some (.f a))) (σ.set i (some (.ref a))) F H a (List.replicate bs.length []):=by
  have hl':i < σ.length:=by rw[<-R.len];exact hl
  have AA:∀{j:Nat},i≠j->(σ.set i (some (V.ref a)))[j]? =σ[j]?:=fun ne=>List.getElem?_set_ne ne
  have back:∀{j:Nat}{w:U},(S.set i (some (.f a)))[j]? =some (some w)->(i=j/\w= .f a)\/(i≠j/\S[j]? =some (some w)):=fun {j w} h=>by
    rcases get_set h with⟨e,q,_⟩ | q
    . cases q;exact .inl ⟨e,rfl⟩
    . exact .inr q
  let B':Base:=⟨B.P,B.F,fun c=>if c∈a :: bs then H c else B.H c⟩
  have pW:∀c,c∈a :: bs->B'.H c=H c:=fun c hc=>if_pos hc
  have out:∀c,c∉a :: bs->B'.H c=B.H c:=fun c hc=>if_neg hc
  refine⟨B',bs,⟨R.sub,by rw[List.length_set,List.length_set];exact R.len,fun j u h=>?_,fun j k u w c h1 m1 h2 m2 g1 g2=>?_,fun j o c h hc=>?_,fun j o c h hc=>?_,fun j c h=>?_,⟨R.ext.le,fun b o z n=>?_,fun b o z n f=>?_,fun b o z=>?_,fun b o u z=>?_⟩⟩,⟨rfl,rfl,out,fun c hc=>⟨(fr c hc).2.2.1,(fr c hc).2.2.2.1,(fr c hc).2.2.2.2⟩⟩,na,nd,by rw[pW a List.mem_cons_self];exact ha,by rw[List.length_replicate],fun k c ds h1 h2=>?_⟩
  . rcases back h with⟨rfl,rfl⟩ | ⟨ne,q⟩
    . exact⟨.ref a,List.getElem?_set_self hl',rfl⟩
    . obtain⟨v,h1,h2⟩:=R.rep j u q
      exact⟨v,by rw[AA ne];exact h1,h2⟩
  . rcases back h1 with⟨_,rfl⟩ | ⟨n1,q1⟩
    . cases m1
    . rcases back h2 with⟨_,rfl⟩ | ⟨n2,q2⟩
      . cases m2
      . rw[AA n1] at g1
        rw[AA n2] at g2
        exact R.vF j k u w c q1 m1 q2 m2 g1 g2
  . rcases back h with⟨_,z⟩ | ⟨n,q⟩
    . cases z
    . rw[AA n] at hc
      rw[out c (fun m=>(fr c m).2.1 ⟨j,_,q,rfl,hc⟩)]
      exact R.own j o c q hc
  . rcases back h with⟨_,z⟩ | ⟨n,q⟩
    . cases z
    . rw[AA n] at hc
      exact R.bor j o c q hc
  . obtain⟨h1,o,h2⟩:=R.par j c h
    have ne:i≠j:=fun z=>by subst z;exact nb o h2
    exact⟨by rw[AA ne];exact h1,o,by rw[List.getElem?_set_ne ne];exact h2⟩
  . by_cases m:b∈a :: bs
    . rw[pW b m] at z;exact z
    . rw[out b m] at z;exact R.ext.keep b o z n
  . by_cases m:b∈a :: bs
    . exact(fr b m).1
    . rw[out b m] at z;exact R.ext.gM b o z n f
  . by_cases m:b∈a :: bs
    . rw[pW b m] at z;exact⟨o,z⟩
    . rw[out b m] at z;exact R.ext.there b o z
  . by_cases m:b∈a :: bs
    . rw[pW b m] at z;exact z
    . rw[out b m] at z;exact R.ext.iI b o u z
  . have m:c∈bs:=List.mem_of_getElem? h1
    have e:ds=[]:=by
      have:=List.mem_of_getElem? h2
      exact List.eq_of_mem_replicate this
    subst e
    exact⟨[],by rw[pW c (List.mem_cons_of_mem _ m)];exact hb c m,.nil⟩
end
open Classical in
noncomputable def nN (i:Nat) (g:GN) (S:SS) (n:Nat):Option SS:=
 if h:∃r,∀a,(g a (S.set i (some (.f a))) (List.replicate n [])).map (fun q=>q.1.set i (some (.t (.lst (q.2.map D.lst)))))=some r then some (Classical.choose h) else none
theorem uy {i:Nat}{g:GN}{S r:SS}{n:Nat}(h:nN i g S n=some r) (a:Addr):∃S' nest,g a (S.set i (some (.f a))) (List.replicate n [])=some (S',nest)/\r=S'.set i (some (.t (.lst (nest.map D.lst)))):=by
 unfold nN at h
 split at h
 ·rename_i hx
  cases h
  obtain⟨⟨S',nest⟩,e,q⟩:=aE (Classical.choose_spec hx a)
  exact⟨S',nest,e,q.symm⟩
 ·cases h
theorem xU {i:Nat}{g:GN}{S r:SS}{n:Nat}(h:∀a,(g a (S.set i (some (.f a))) (List.replicate n [])).map (fun q=>q.1.set i (some (.t (.lst (q.2.map D.lst)))))=some r):nN i g S n=some r:=by
 unfold nN
 rw[dif_pos ⟨r,h⟩]
 have:=Classical.choose_spec (⟨r,h⟩:∃r,∀a,(g a (S.set i (some (.f a))) (List.replicate n [])).map (fun q=>q.1.set i (some (.t (.lst (q.2.map D.lst)))))=some r) 0
 rw[h 0] at this
 exact congrArg some (Option.some.inj this).symm
noncomputable def zo (i:Nat) (gi:GI) (g:GN):GS:=fun S=>(gi S).bind fun p=>match p.2[i]? with
 | some (some (.b _))=>none
 | some _=>if p.1.length<=100000 then(nN i g p.2 p.1.length).map .nx else none
 | none=>none
section
variable {X:Cx}{iter:Expr}{st2:Stmt}{rest:List Stmt}{gi:GI}{g:GN}{gr:GS}{i:Nat}{pos px py pe spos:Pos}{x y:Str}{scope:Scope}{cl:List (Str×Addr)}
theorem Eu (hN : X.N.Nodup) (hy : X.N[i]? = some y) (hx : Loc X.env.scope y) (T : gO X x [] [] scope cl) (hc : X.calm = true) (hi : JI X (.Name x px) iter gi) (h2 : JN X i st2 g) (hr : JB X rest gr)
    (hsw:swapsWith (.ListComp (.List [] pe) [⟨.Name x px,iter,[],0⟩] scope pos) (some (.Name y py)) spos.line X.env=pure true:=by rfl) (hf:X.fn y=true\/X.env.scope.names.lookup y=some .local:=by first | exact .inl rfl | exact .inr rfl | assumption)
    (hs:∀x,foldedSetIterable iter X.env x=pure x:=by intro _;rfl):
    JB X (.Assign [.Name y py] (.ListComp (.List [] pe) [⟨.Name x px,iter,[],0⟩] scope pos) spos :: st2 :: rest) (aZ (zo i gi g) gr):=⟨fun B=>by
  refine(qg (vD T hc (hi.h B) (fun C s H fp=>yV) (fun C s H fp=>Bo oA) hs hN hy hx hsw hf) (qg (h2.h B) (hr.h B))).imp fun D σ H ⟨S,F,o,R,h,k⟩=>?_
  obtain⟨o1,e1,h⟩:=aj h
  obtain⟨⟨ds,S1⟩,h1,e1⟩:=aj e1
  dsimp only at e1
  split at e1
  . cases e1
  . rename_i w hi1 hnb
    obtain⟨hlen,e1⟩:=jI e1
    obtain⟨r,h3,e1⟩:=aE e1
    cases e1
    have hil:i < S1.length:=(List.getElem?_eq_some_iff.mp hnb).1
    refine⟨S,F,ds,S1,R,h1,fun J F1 H1 R1 st1 w=>?_⟩
    refine⟨fun n m ys H'=>∃bs:List Addr,ys=bs.map V.ref/\bs.length=n/\n<=ds.length/\m=ds.length - n/\gT F1 H1 F1 H'/\Sub F1 H'/\bs.Nodup/\∀c,c∈bs->H' c=some (.lst [])/\H1 c=none,⟨_,[],rfl,rfl,Nat.zero_le _,rfl,gT.refl ..,R1.sub,List.nodup_nil,fun c hc=>(by cases hc)⟩,?_⟩
    rintro n m ys H' ⟨bs,rfl,O6,hn,rfl,nw,sb,nd,hb⟩
    refine⟨by rw[List.length_map,O6];exact Nat.lt_of_le_of_lt (Nat.le_trans hn hlen) (by decide),?_⟩
    have w':=w F1 H' (fun _ _ z=>z) sb n
    by_cases hlt:n < ds.length
    . have hd:ds[n]? =some ds[n]:=List.getElem?_eq_getElem hlt
      obtain⟨go,yl⟩:=w'.1 _ hd
      refine .inr ⟨go,fun xv H3 y=>?_⟩
      obtain⟨rfl,rx⟩:=yl xv H3 y
      simp only[KQ,↓reduceIte]
      refine⟨by show 0<=_;exact Nat.zero_le _,fun p hp=>⟨ds.length - (n+1),by omega,bs++[p],by rw[List.map_append];rfl,by rw[List.length_append,O6];rfl,hlt,rfl,nw.trans (gT.obj hp _),sb.same (gT.obj (F:=F1) hp (.lst [])).same,?_,fun c hc=>?_⟩⟩
      . rw[List.nodup_append]
        refine⟨nd,by simp,fun c hc d hd e=>?_⟩
        rw[List.mem_singleton] at hd
        rw[<-e,] at hd
        rw[<-hd] at hp
        rw[(hb c hc).1] at hp
        cases hp
      . have old:H1 p=none:=none_of (fun b o z=>⟨o,nw.same b o z⟩) hp
        rcases List.mem_append.mp hc with m | m
        . have ne:c≠p:=fun e=>by rw[e] at m;rw[(hb p m).1] at hp;cases hp
          exact⟨by rw[aK ne];exact(hb c m).1,(hb c m).2⟩
        . rw[List.mem_singleton.mp m]
          exact⟨aU,old⟩
    . have e:n=ds.length:=by omega
      subst e
      refine .inl ⟨w'.2 (Nat.le_refl _),fun p hp=>?_⟩
      have old:H1 p=none:=none_of (fun b o z=>⟨o,nw.same b o z⟩) hp
      have S6:=nw.trans (gT.obj (F:=F1) hp (.lst (bs.map V.ref)))
      have R2:=R1.new S6 (R1.sub.same S6.same)
      have S7:p∉bs:=fun m=>by rw[(hb p m).1] at hp;cases hp
      have fresh:∀c,H1 c=none->F1 c=none/\¬bY S1 σ c/\B.H c=none/\¬B.M c/\B.F c=none:=fun c hc=>by
        have fc:=R1.sub.fresh hc
        refine⟨fc,fun mm=>?_,none_of R1.ext.there hc,fun mm=>?_,?_⟩
        . obtain⟨o,ho⟩:=R1.has mm;rw[hc] at ho;cases ho
        . obtain⟨q,hq⟩:=List.getElem?_of_mem mm
          obtain⟨g1,o,g2⟩:=R1.par q c hq
          obtain⟨v,g3,g4⟩:=R1.rep q _ g2
          rw[g1] at g3
          cases g3
          obtain⟨c',g5,_,g6⟩:=g4
          cases g5
          obtain⟨u,g7⟩:=g6.has
          rw[hc] at g7
          cases g7
        . cases e:B.F c with
          | none=>rfl
          | some o=>rw[R1.ext.le c o e] at fc;cases fc
      have RN:=Et R2 hil (fun o z=>by rw[hnb] at z;cases z;exact hi1 _ rfl) aU (fun c hc=>by rw[aK (fun e:c=p=>S7 (e▸hc))];exact(hb c hc).1) S7 nd fun c hc=>by
        rcases List.mem_cons.mp hc with rfl | m
        . exact fresh c old
        . exact fresh c (hb c m).2
      rw[O6] at RN
      obtain⟨S2,nest,e4,rfl⟩:=uy h3 p
      refine⟨_,F1,p,_,S2,nest,RN,List.getElem?_set_self hil,e4,fun σ' F' H2 ⟨B2,cs,R3⟩ O5 le=>?_⟩
      obtain⟨F3,R4,U8⟩:=R3.freeze O5
      exact⟨_,F3,o,R4,h,k.mono fun b o z=>U8 b o (le b o (st1.ext.le b o z))⟩
  . cases e1⟩
end
section
variable {X:Cx}{e1 e2:Expr}{pos:Pos}{gk gv:GD}
end
@[simp] theorem Jx (k x:D):nM [.lst [.tup [k,x]]]=(keyOf k).map fun q1=>.m (.dct [(q1,x)]):=rfl
noncomputable abbrev zp (h:Heap) (N:Nat) (f0:Value) (f1:Bool):Prop:=
 h.get? (N+4)=some {cls:=.type "zip",dict:=none,data:=.fields #[f0,.bool f1,.bool false,.ref (N+2),.ref (N+3)],slots:=#[]}
structure Ew (N:Nat) (k0 k1:Bool) (l0 l1:Nat) (i:Nat) (h:Heap):Prop where
 z:∃f0 f1,zp h N f0 f1/\(f0= .none\/∃a:Nat,f0=rawInt a)
 ti:TupAt h (N+2) #[.ref N,.ref (N+1)]
 to:∃v:List Value,v.length=2/\TupAt h (N+3) v.toArray
 c0:kH k0 h N l0 i
 c1:kH k1 h (N+1) l1 i
section
variable {prog:Program}{w:World}{A:Around}{E:Value->Shared->Prop}{s:Shared}
theorem Gh {N:Nat}{f0:Value}{f1:Bool}{Q:Bool->Shared->Prop}(hz:zp s.heap N f0 f1) (hf:f0= .none\/∃a:Nat,f0=rawInt a) (qt:Q true s)
  (qf:∀h',zp h' N f0 true->Heap.SameBut (N+4) s.heap h'->Q false {s with heap:=h'}):wpAny (model prog w) A (Builtin.SmallTypes.ownedTupleIsFree (.ref (N+4))) Q E s:=by
 unfold Builtin.SmallTypes.ownedTupleIsFree
 refine wpAny_bind (wpAny_field hz rfl (x:=f0) rfl ?_)
 rcases hf with rfl | ⟨a,rfl⟩
 ·exact wpAny_pure qt
 ·show wpAny _ _ (loadIfAlive (Int.toNat (a:Int)) >>= _) _ _ _
  refine wpAny_bind (fun Γ p hΓ=>?_)
  show Sem.wp _ _ (Sem.loadIfAlive _ Sem.pure) _ _ _ _
  rw[Sem.wp_loadIfAlive]
  refine wpAny_pure ?_ Γ p hΓ
  cases hg:s.heap.get? (Int.toNat (a:Int)) with
  | none=>exact wpAny_pure qt
  | some o=>
   show wpAny _ _ (field (.ref (N+4)) 1 >>= _) _ _ _
   refine wpAny_bind (wpAny_field hz rfl (x:=.bool f1) rfl ?_)
   cases f1 with
   | true=>exact wpAny_pure (qf s.heap hz (Heap.SameBut.refl ..))
   | false=>exact wpAny_bind (wpAny_setField_rec hz (by simp) fun h' z e=>wpAny_pure (qf h' z e))
theorem Cy {N i:Nat}{k0 k1:Bool}{l0 l1:Nat}{v0 v1:Array Value}{x0 x1:Value}{Q:Option Value->Shared->Prop}(st:Ew N k0 k1 l0 l1 i s.heap)
  (DB:pD k0 s.heap l0 v0) (AB:v0[i]? =some x0) (MS:l0 < N)
  (DC:pD k1 s.heap l1 v1) (Cz:v1[i]? =some x1) (MT:l1 < N)
  (q:∀h',Ew N k0 k1 l0 l1 (i+1) h'->TupAt h' s.heap.objs.size #[x0,x1]->(∀(b:Nat) o,b∉kE N->s.heap.get? b=some o->h'.get? b=some o)->Q (some (.ref s.heap.objs.size)) {s with heap:=h'}):
  wpAny (model prog w) A (pyNext (.ref (N+4))) Q E s:=by
 obtain⟨⟨f0,f1,hz,MU⟩,hTI,⟨w0,hw0,hTO⟩,d0,d1⟩:=st
 obtain⟨a0,a1,rfl⟩:∃a0 a1,w0=[a0,a1]:=by
  match w0,hw0 with
  | [a0,a1],_=>exact⟨_,_,rfl⟩
 have hT:s.TypeIs (.ref (N+4)) "zip":=⟨_,hz,rfl⟩
 unfold pyNext
 refine wpAny_bind (wpAny_attempt (wpAny_callSpecial?_slot (name:=Str.ofString "__next__") hT F.slot_zip_next (wpAny_call_entry F.slot_zip_next hT F.entry_zip_next ?_ (F.args_zip_next_1 _))))
 show wpAny _ _ (field (.ref (N+4)) 2 >>= _) _ _ _;refine wpAny_bind (wpAny_field hz rfl (x:=.bool false) rfl ?_)
 show wpAny _ _ (field (.ref (N+4)) 3 >>= _) _ _ _;refine wpAny_bind (wpAny_field hz rfl (x:=.ref (N+2)) rfl ?_)
 refine wpAny_bind (wpAny_seqItems hTI rfl ?_);show wpAny _ _ (Builtin.SmallTypes.ownedTupleIsFree (.ref (N+4)) >>= _) _ _ _
 refine wpAny_bind (Gh hz MU ?_ fun g0 z0 e0=>?_)
 ·simp only[if_true];refine wpAny_bind (wpAny_rule ?_);refine wpAny_bind (wpAny_field hz rfl (x:=.ref (N+3)) rfl ?_)
  refine wpAny_bind (wpAny_setField_rec hz (by simp) fun g0 z0 e0=>?_)
  have z0:zp g0 N .ellipsis f1:=z0
  have e0:Heap.SameBut (N+4) s.heap g0:=e0
  refine wpAny_bind ?_;simp only[List.zipIdx_cons,List.zipIdx_nil,List.forIn_cons,List.forIn_nil]
  have t0:TupAt g0 (N+3) #[a0,a1]:=(e0.2 _ (by first | omega | (show @Ne Nat _ _;omega))).trans hTO
  have m0:∀(b:Nat) o,b∉kE N->s.heap.get? b=some o->g0.get? b=some o:=fun b o hb y=>(e0.2 b fun z=>hb (bu.mpr (by have z:@Eq Nat b _:=z;omega))).trans y
  have Ex:kH k0 g0 N l0 i:=d0.at fun o y=>(e0.2 _ (by first | omega | (show @Ne Nat _ _;omega))).trans y
  have xV:kH k1 g0 (N+1) l1 i:=d1.at fun o y=>(e0.2 _ (by first | omega | (show @Ne Nat _ _;omega))).trans y
  refine wpAny_bind (wpAny_bind (wpAny_onRaise ?_));show wpAny _ _ (Builtin.SmallTypes.nextOf (.ref N) >>= _) _ _ _
  refine wpAny_bind (nextK Ex (DB.at fun o y=>m0 _ o (fun z=>by have:=bu.mp z;omega) y) AB fun g1 c0 e1=>wpAny_pure ?_)
  have e1:Heap.SameBut N g0 g1:=e1
  have t1:TupAt g1 (N+3) #[a0,a1]:=(e1.2 _ (by first | omega | (show @Ne Nat _ _;omega))).trans t0
  refine wpAny_bind (wpAny_seqItems t1 rfl ?_);refine wpAny_bind (HK t1 (show 2<=sizeLine by decide) fun g2 t2 e2=>?_)
  have t2:TupAt g2 (N+3) #[x0,a1]:=t2
  have e2:Heap.SameBut (N+3) g1 g2:=e2
  have z1:zp g2 N .ellipsis f1:=(e2.2 _ (by first | omega | (show @Ne Nat _ _;omega))).trans ((e1.2 _ (by first | omega | (show @Ne Nat _ _;omega))).trans z0)
  have m2:∀(b:Nat) o,b∉kE N->s.heap.get? b=some o->g2.get? b=some o:=fun b o hb y=>(e2.2 b fun z=>hb (bu.mpr (by have z:@Eq Nat b _:=z;omega))).trans ((e1.2 b fun z=>hb (bu.mpr (by have z:@Eq Nat b _:=z;omega))).trans (m0 b o hb y))
  refine wpAny_bind (wpAny_letGo (wpAny_pure ?_))
  have c0:kH k0 g2 N l0 (i+1):=c0.at fun o y=>(e2.2 _ (by first | omega | (show @Ne Nat _ _;omega))).trans y
  have xV:kH k1 g2 (N+1) l1 i:=xV.at fun o y=>(e2.2 _ (by first | omega | (show @Ne Nat _ _;omega))).trans ((e1.2 _ (by first | omega | (show @Ne Nat _ _;omega))).trans y)
  have i0:g2.get? (N+2)=s.heap.get? (N+2):=by rw[e2.2 _ (by first | omega | (show @Ne Nat _ _;omega)),e1.2 _ (by first | omega | (show @Ne Nat _ _;omega)),e0.2 _ (by first | omega | (show @Ne Nat _ _;omega))]
  have s0:g2.objs.size=s.heap.objs.size:=by rw[e2.1,e1.1,e0.1]
  refine wpAny_bind (wpAny_bind (wpAny_onRaise ?_));show wpAny _ _ (Builtin.SmallTypes.nextOf (.ref (N+1)) >>= _) _ _ _
  refine wpAny_bind (nextK xV (DC.at fun o y=>m2 _ o (fun z=>by have:=bu.mp z;omega) y) Cz fun g3 c1 e3=>wpAny_pure ?_)
  have e3:Heap.SameBut (N+1) g2 g3:=e3
  have t3:TupAt g3 (N+3) #[x0,a1]:=(e3.2 _ (by first | omega | (show @Ne Nat _ _;omega))).trans t2
  refine wpAny_bind (wpAny_seqItems t3 rfl ?_);refine wpAny_bind (HK t3 (show 2<=sizeLine by decide) fun g4 t4 e4=>?_)
  have t4:TupAt g4 (N+3) #[x0,x1]:=t4
  have e4:Heap.SameBut (N+3) g3 g4:=e4
  have z2:zp g4 N .ellipsis f1:=(e4.2 _ (by first | omega | (show @Ne Nat _ _;omega))).trans ((e3.2 _ (by first | omega | (show @Ne Nat _ _;omega))).trans z1)
  have m4:∀(b:Nat) o,b∉kE N->s.heap.get? b=some o->g4.get? b=some o:=fun b o hb y=>(e4.2 b fun z=>hb (bu.mpr (by have z:@Eq Nat b _:=z;omega))).trans ((e3.2 b fun z=>hb (bu.mpr (by have z:@Eq Nat b _:=z;omega))).trans (m2 b o hb y))
  refine wpAny_bind (wpAny_letGo (wpAny_pure (wpAny_pure ?_)))
  have c0:kH k0 g4 N l0 (i+1):=c0.at fun o y=>(e4.2 _ (by first | omega | (show @Ne Nat _ _;omega))).trans ((e3.2 _ (by first | omega | (show @Ne Nat _ _;omega))).trans y)
  have c1:kH k1 g4 (N+1) l1 (i+1):=c1.at fun o y=>(e4.2 _ (by first | omega | (show @Ne Nat _ _;omega))).trans y
  have i1:g4.get? (N+2)=s.heap.get? (N+2):=by rw[e4.2 _ (by first | omega | (show @Ne Nat _ _;omega)),e3.2 _ (by first | omega | (show @Ne Nat _ _;omega)),i0]
  have s1:g4.objs.size=s.heap.objs.size:=by rw[e4.1,e3.1,s0]
  refine wpAny_bind (wpAny_seqItems t4 rfl ?_);refine wpAny_bind (wpAny_newTuple ?_)
  have S8:(N+4) < g4.objs.size:=Heap.lt_size z2
  show wpAny _ _ (Builtin.SmallTypes.ownedTupleHandOut (.ref (N+4)) (.ref g4.objs.size) >>= _) _ _ _;refine wpAny_bind ?_;unfold Builtin.SmallTypes.ownedTupleHandOut
  have y0:zp (g4.push {cls:=.type "tuple",data:=.seq #[x0,x1]}) N .ellipsis f1:=Heap.get?_push_of_some _ z2
  refine wpAny_bind (wpAny_setField_rec y0 (by simp) fun U9 y1 r1=>?_)
  have y1:zp U9 N (rawInt g4.objs.size) f1:=y1
  refine wpAny_setField_rec y1 (by simp) fun MV y2 r2=>?_
  have y2:zp MV N (rawInt g4.objs.size) false:=y2
  have up:∀b o,b≠(N+4)->g4.get? b=some o->MV.get? b=some o:=fun b o hb y=>r2.extBut _ _ hb (r1.extBut _ _ hb (Heap.get?_push_of_some _ y))
  have tt:TupAt MV g4.objs.size #[x0,x1]:=r2.extBut _ _ (Nat.ne_of_gt S8) (r1.extBut _ _ (Nat.ne_of_gt S8) (Heap.get?_push_size _ rfl))
  rw[s1] at y2 tt
  refine wpAny_pure ⟨_,rfl,wpAny_pure ?_⟩
  rw[s1]
  exact q MV ⟨⟨_,_,y2,.inr ⟨_,rfl⟩⟩,up _ _ (by first | omega | (show @Ne Nat _ _;omega)) (i1.trans hTI),⟨[x0,x1],rfl,up _ _ (by first | omega | (show @Ne Nat _ _;omega)) t4⟩,c0.at fun o y=>up _ o (by first | omega | (show @Ne Nat _ _;omega)) y,c1.at fun o y=>up _ o (by first | omega | (show @Ne Nat _ _;omega)) y⟩ tt fun b o hb y=>up b o (fun z=>hb (bu.mpr (by have z:@Eq Nat b _:=z;omega))) (m4 b o hb y)
 ·simp only[Bool.false_eq_true,if_false]
  have X0:Heap.SameBut (N+4) s.heap g0:=e0
  have m0:∀(b:Nat) o,b∉kE N->s.heap.get? b=some o->g0.get? b=some o:=fun b o hb y=>(e0.2 b fun z=>hb (bu.mpr (by have z:@Eq Nat b _:=z;omega))).trans y
  have Ex:kH k0 g0 N l0 i:=d0.at fun o y=>(e0.2 _ (by first | omega | (show @Ne Nat _ _;omega))).trans y
  have xV:kH k1 g0 (N+1) l1 i:=d1.at fun o y=>(e0.2 _ (by first | omega | (show @Ne Nat _ _;omega))).trans y
  refine wpAny_bind ?_
  simp only[<-Array.forIn_toList,List.forIn_cons,List.forIn_nil]
  refine wpAny_bind (wpAny_bind (wpAny_holding ?_));show wpAny _ _ (Builtin.SmallTypes.nextOf (.ref N) >>= _) _ _ _
  refine wpAny_bind (nextK Ex (DB.at fun o y=>m0 _ o (fun z=>by have:=bu.mp z;omega) y) AB fun g1 c0 e1=>wpAny_pure ?_)
  have e1:Heap.SameBut N g0 g1:=e1
  have m1:∀(b:Nat) o,b∉kE N->s.heap.get? b=some o->g1.get? b=some o:=fun b o hb y=>(e1.2 b fun z=>hb (bu.mpr (by have z:@Eq Nat b _:=z;omega))).trans (m0 b o hb y)
  have xV:kH k1 g1 (N+1) l1 i:=xV.at fun o y=>(e1.2 _ (by first | omega | (show @Ne Nat _ _;omega))).trans y
  refine wpAny_pure ?_
  refine wpAny_bind (wpAny_bind (wpAny_holding ?_));show wpAny _ _ (Builtin.SmallTypes.nextOf (.ref (N+1)) >>= _) _ _ _
  refine wpAny_bind (nextK xV (DC.at fun o y=>m1 _ o (fun z=>by have:=bu.mp z;omega) y) Cz fun g2 c1 e2=>wpAny_pure ?_)
  have e2:Heap.SameBut (N+1) g1 g2:=e2
  have m2:∀(b:Nat) o,b∉kE N->s.heap.get? b=some o->g2.get? b=some o:=fun b o hb y=>(e2.2 b fun z=>hb (bu.mpr (by have z:@Eq Nat b _:=z;omega))).trans (m1 b o hb y)
  refine wpAny_pure (wpAny_pure ?_)
  refine wpAny_bind (wpAny_newTuple ?_ (hsz:=show 2<=sizeLine by decide))
  have sz:g2.objs.size=s.heap.objs.size:=by rw[e2.1,e1.1,e0.1]
  have up:∀b o,g2.get? b=some o->(g2.push {cls:=.type "tuple",data:=.seq #[x0,x1]}).get? b=some o:=fun b o y=>Heap.get?_push_of_some _ y
  refine wpAny_pure ⟨_,rfl,wpAny_pure ?_⟩
  have tt:TupAt (g2.push {cls:=.type "tuple",data:=.seq #[x0,x1]}) g2.objs.size #[x0,x1]:=Heap.get?_push_size _ rfl
  rw[sz] at tt
  show Q (some (.ref g2.objs.size)) _
  rw[sz]
  exact q _ ⟨⟨_,_,up _ _ ((e2.2 _ (by first | omega | (show @Ne Nat _ _;omega))).trans ((e1.2 _ (by first | omega | (show @Ne Nat _ _;omega))).trans z0)),MU⟩,up _ _ ((e2.2 _ (by first | omega | (show @Ne Nat _ _;omega))).trans ((e1.2 _ (by first | omega | (show @Ne Nat _ _;omega))).trans ((e0.2 _ (by first | omega | (show @Ne Nat _ _;omega))).trans hTI))),⟨[a0,a1],rfl,up _ _ ((e2.2 _ (by first | omega | (show @Ne Nat _ _;omega))).trans ((e1.2 _ (by first | omega | (show @Ne Nat _ _;omega))).trans ((e0.2 _ (by first | omega | (show @Ne Nat _ _;omega))).trans hTO)))⟩,c0.at fun o y=>up _ o ((e2.2 _ (by first | omega | (show @Ne Nat _ _;omega))).trans y),c1.at fun o y=>up _ o y⟩ tt fun b o hb y=>up b o (m2 b o hb y)
theorem Ey {N i : Nat} {k0 k1 : Bool} {l0 l1 : Nat} {v0 v1 : Array Value} {Q : Option Value -> Shared -> Prop} (hn : A.handled = none) (st : Ew N k0 k1 l0 l1 i s.heap)
    (DB:pD k0 s.heap l0 v0) (MS:l0 < N)
    (DC:pD k1 s.heap l1 v1) (MT:l1 < N)
    (hend:v0[i]? =none\/v1[i]? =none)
    (q:∀h',(∀(b:Nat) o,b∉kE N->s.heap.get? b=some o->h'.get? b=some o)->Q none {s with heap:=h'}):
    wpAny (model prog w) A (pyNext (.ref (N+4))) Q E s:=by
  obtain⟨⟨f0,f1,hz,MU⟩,hTI,⟨w0,hw0,hTO⟩,d0,d1⟩:=st
  obtain⟨a0,a1,rfl⟩:∃a0 a1,w0=[a0,a1]:=by
    match w0,hw0 with
    | [a0,a1],_=>exact⟨_,_,rfl⟩
  have hT:s.TypeIs (.ref (N+4)) "zip":=⟨_,hz,rfl⟩
  unfold pyNext
  refine wpAny_bind (wpAny_attempt (wpAny_callSpecial?_slot (name:=Str.ofString "__next__") hT F.slot_zip_next (wpAny_call_entry F.slot_zip_next hT F.entry_zip_next ?_ (F.args_zip_next_1 _))))
  show wpAny _ _ (field (.ref (N+4)) 2 >>= _) _ _ _;refine wpAny_bind (wpAny_field hz rfl (x:=.bool false) rfl ?_)
  show wpAny _ _ (field (.ref (N+4)) 3 >>= _) _ _ _;refine wpAny_bind (wpAny_field hz rfl (x:=.ref (N+2)) rfl ?_)
  refine wpAny_bind (wpAny_seqItems hTI rfl ?_);show wpAny _ _ (Builtin.SmallTypes.ownedTupleIsFree (.ref (N+4)) >>= _) _ _ _
  refine wpAny_bind (Gh hz MU ?_ fun g0 z0 e0=>?_)
  . simp only[if_true];refine wpAny_bind (wpAny_rule ?_);refine wpAny_bind (wpAny_field hz rfl (x:=.ref (N+3)) rfl ?_)
    refine wpAny_bind (wpAny_setField_rec hz (by simp) fun g0 z0 e0=>?_)
    have z0:zp g0 N .ellipsis f1:=z0
    have e0:Heap.SameBut (N+4) s.heap g0:=e0
    refine wpAny_bind ?_;simp only[List.zipIdx_cons,List.zipIdx_nil,List.forIn_cons,List.forIn_nil]
    have t0:TupAt g0 (N+3) #[a0,a1]:=(e0.2 _ (by first | omega | (show @Ne Nat _ _;omega))).trans hTO
    have m0:∀(b:Nat) o,b∉kE N->s.heap.get? b=some o->g0.get? b=some o:=fun b o hb y=>(e0.2 b fun z=>hb (bu.mpr (by have z:@Eq Nat b _:=z;omega))).trans y
    have Ex:kH k0 g0 N l0 i:=d0.at fun o y=>(e0.2 _ (by first | omega | (show @Ne Nat _ _;omega))).trans y
    have xV:kH k1 g0 (N+1) l1 i:=d1.at fun o y=>(e0.2 _ (by first | omega | (show @Ne Nat _ _;omega))).trans y
    refine wpAny_bind (wpAny_bind (wpAny_onRaise ?_));show wpAny _ _ (Builtin.SmallTypes.nextOf (.ref N) >>= _) _ _ _
    have CA:pD k0 g0 l0 v0:=DB.at fun o y=>m0 _ o (fun z=>by have:=bu.mp z;omega) y
    cases AB:v0[i]? with
    | none=>
      refine wpAny_bind (As hn Ex CA AB fun u1 e r1 he=>?_)
      have r1:Heap.ExtBut N g0 u1:=r1
      obtain⟨oe,CB,hce⟩:=he
      have y1:zp u1 N .ellipsis f1:=r1 _ _ (by first | omega | (show @Ne Nat _ _;omega)) z0
      have O7:e≠(N+4):=fun x=>by subst x;rw[y1] at CB;cases CB;simp at hce
      refine wpAny_setField_rec y1 (by simp) fun u2 _ r2=>?_
      have r2:Heap.SameBut (N+4) u1 u2:=r2
      refine wpAny_bind (wpAny_isInstance (T:="StopIteration") (b:=true) ⟨oe,r2.extBut _ _ O7 CB,hce⟩ isSubtype_stop (wpAny_pure (q _ fun b o hb y=>r2.extBut _ _ (fun z=>hb (bu.mpr (by have z:@Eq Nat b _:=z;omega))) (r1 _ _ (fun z=>hb (bu.mpr (by have z:@Eq Nat b _:=z;omega))) (m0 b o hb y)))))
    | some x0=>
      refine wpAny_bind (nextK Ex CA AB fun g1 c0 e1=>wpAny_pure ?_)
      have e1:Heap.SameBut N g0 g1:=e1
      have t1:TupAt g1 (N+3) #[a0,a1]:=(e1.2 _ (by first | omega | (show @Ne Nat _ _;omega))).trans t0
      refine wpAny_bind (wpAny_seqItems t1 rfl ?_);refine wpAny_bind (HK t1 (show 2<=sizeLine by decide) fun g2 t2 e2=>?_)
      have t2:TupAt g2 (N+3) #[x0,a1]:=t2
      have e2:Heap.SameBut (N+3) g1 g2:=e2
      have z1:zp g2 N .ellipsis f1:=(e2.2 _ (by first | omega | (show @Ne Nat _ _;omega))).trans ((e1.2 _ (by first | omega | (show @Ne Nat _ _;omega))).trans z0)
      have m2:∀(b:Nat) o,b∉kE N->s.heap.get? b=some o->g2.get? b=some o:=fun b o hb y=>(e2.2 b fun z=>hb (bu.mpr (by have z:@Eq Nat b _:=z;omega))).trans ((e1.2 b fun z=>hb (bu.mpr (by have z:@Eq Nat b _:=z;omega))).trans (m0 b o hb y))
      refine wpAny_bind (wpAny_letGo (wpAny_pure ?_))
      have xV:kH k1 g2 (N+1) l1 i:=xV.at fun o y=>(e2.2 _ (by first | omega | (show @Ne Nat _ _;omega))).trans ((e1.2 _ (by first | omega | (show @Ne Nat _ _;omega))).trans y)
      refine wpAny_bind (wpAny_bind (wpAny_onRaise ?_));show wpAny _ _ (Builtin.SmallTypes.nextOf (.ref (N+1)) >>= _) _ _ _
      have HR:pD k1 g2 l1 v1:=DC.at fun o y=>m2 _ o (fun z=>by have:=bu.mp z;omega) y
      cases Cz:v1[i]? with
      | none=>
        refine wpAny_bind (As hn xV HR Cz fun u1 e r1 he=>?_)
        have r1:Heap.ExtBut (N+1) g2 u1:=r1
        obtain⟨oe,CB,hce⟩:=he
        have y1:zp u1 N .ellipsis f1:=r1 _ _ (by first | omega | (show @Ne Nat _ _;omega)) z1
        have O7:e≠(N+4):=fun x=>by subst x;rw[y1] at CB;cases CB;simp at hce
        refine wpAny_setField_rec y1 (by simp) fun u2 _ r2=>?_
        have r2:Heap.SameBut (N+4) u1 u2:=r2
        refine wpAny_bind (wpAny_isInstance (T:="StopIteration") (b:=true) ⟨oe,r2.extBut _ _ O7 CB,hce⟩ isSubtype_stop (wpAny_pure (q _ fun b o hb y=>r2.extBut _ _ (fun z=>hb (bu.mpr (by have z:@Eq Nat b _:=z;omega))) (r1 _ _ (fun z=>hb (bu.mpr (by have z:@Eq Nat b _:=z;omega))) (m2 b o hb y)))))
      | some x1=>
          exact absurd hend (by simp only[AB,Cz];rintro(h | h) <;> cases h)
  . simp only[Bool.false_eq_true,if_false]
    have e0:Heap.SameBut (N+4) s.heap g0:=e0
    have m0:∀(b:Nat) o,b∉kE N->s.heap.get? b=some o->g0.get? b=some o:=fun b o hb y=>(e0.2 b fun z=>hb (bu.mpr (by have z:@Eq Nat b _:=z;omega))).trans y
    have Ex:kH k0 g0 N l0 i:=d0.at fun o y=>(e0.2 _ (by first | omega | (show @Ne Nat _ _;omega))).trans y
    have xV:kH k1 g0 (N+1) l1 i:=d1.at fun o y=>(e0.2 _ (by first | omega | (show @Ne Nat _ _;omega))).trans y
    refine wpAny_bind ?_
    simp only[<-Array.forIn_toList,List.forIn_cons,List.forIn_nil]
    refine wpAny_bind (wpAny_bind (wpAny_holding ?_));show wpAny _ _ (Builtin.SmallTypes.nextOf (.ref N) >>= _) _ _ _
    have CA:pD k0 g0 l0 v0:=DB.at fun o y=>m0 _ o (fun z=>by have:=bu.mp z;omega) y
    cases AB:v0[i]? with
    | none=>
      refine wpAny_bind (As hn Ex CA AB fun u1 e r1 he=>?_)
      have r1:Heap.ExtBut N g0 u1:=r1
      obtain⟨oe,CB,hce⟩:=he
      refine wpAny_bind (wpAny_isInstance (T:="StopIteration") (b:=true) ⟨oe,CB,hce⟩ isSubtype_stop (wpAny_pure (q _ fun b o hb y=>(r1 _ _ (fun z=>hb (bu.mpr (by have z:@Eq Nat b _:=z;omega))) (m0 b o hb y)))))
    | some x0=>
      refine wpAny_bind (nextK Ex CA AB fun g1 c0 e1=>wpAny_pure ?_)
      have e1:Heap.SameBut N g0 g1:=e1
      have m1:∀(b:Nat) o,b∉kE N->s.heap.get? b=some o->g1.get? b=some o:=fun b o hb y=>(e1.2 b fun z=>hb (bu.mpr (by have z:@Eq Nat b _:=z;omega))).trans (m0 b o hb y)
      have xV:kH k1 g1 (N+1) l1 i:=xV.at fun o y=>(e1.2 _ (by first | omega | (show @Ne Nat _ _;omega))).trans y
      refine wpAny_pure ?_
      refine wpAny_bind (wpAny_bind (wpAny_holding ?_));show wpAny _ _ (Builtin.SmallTypes.nextOf (.ref (N+1)) >>= _) _ _ _
      have HR:pD k1 g1 l1 v1:=DC.at fun o y=>m1 _ o (fun z=>by have:=bu.mp z;omega) y
      cases Cz:v1[i]? with
      | none=>
        refine wpAny_bind (As hn xV HR Cz fun u1 e r1 he=>?_)
        have r1:Heap.ExtBut (N+1) g1 u1:=r1
        obtain⟨oe,CB,hce⟩:=he
        refine wpAny_bind (wpAny_isInstance (T:="StopIteration") (b:=true) ⟨oe,CB,hce⟩ isSubtype_stop (wpAny_pure (q _ fun b o hb y=>(r1 _ _ (fun z=>hb (bu.mpr (by have z:@Eq Nat b _:=z;omega))) (m1 b o hb y)))))
      | some x1=>
          exact absurd hend (by simp only[AB,Cz];rintro(h | h) <;> cases h)
end
theorem Ez {prog:Program}{w:World}{A:Around}{E:Value->Shared->Prop}{s:Shared}{N:Nat}{f0:Value}{f1:Bool}{Q:Value->Shared->Prop}(hz:zp s.heap N f0 f1) (h:Q (.ref (N+4)) s):wpAny (model prog w) A (pyIter (.ref (N+4))) Q E s:=by
 have hT:s.TypeIs (.ref (N+4)) "zip":=⟨_,hz,rfl⟩
 refine wpAny_pyIter_slot hT F.slot_zip_iter (wpAny_call_entry F.slot_zip_iter hT F.entry_zip_iter ?_ (F.args_zip_iter_1 _))
 show wpAny _ _ (ret (.ref (N+4))) _ _ s
 exact wpAny_pure ⟨_,rfl,"zip",_,hT,F.slot_zip_next.lookup,h⟩
theorem xW {P:Program}{w:World}{K:PySem.W.Frag}{nm:Str}{pos:Pos}(k0 k1:Bool) (l0 l1:Nat) (N:Nat) (MS:l0 < N) (MT:l1 < N):Turn P w K (.Name nm pos) (Lf K k0 k1 l0 l1) (kE N) (N+4) (fun i h=>Ew N k0 k1 l0 l1 i h) where
 mem:=by rw[bu];omega
 obj:=fun i h ⟨⟨f0,f1,hz,_⟩,hTI,⟨w0,hw0,hTO⟩,d0,d1⟩ b hb=>by
  unfold kE at hb
  simp only[List.mem_cons,List.not_mem_nil,or_false] at hb
  rcases hb with rfl | rfl | rfl | rfl | rfl
  ·exact⟨_,hz,fun v z=>by cases z⟩
  ·exact⟨_,hTI,fun v z=>by cases z⟩
  ·exact⟨_,hTO,fun v z=>by cases z⟩
  ·exact d0.obj
  ·exact d1.obj
 keep:=fun i h h' ⟨⟨f0,f1,hz,hf⟩,hTI,⟨w0,hw0,hTO⟩,d0,d1⟩ g=>⟨⟨f0,f1,g _ (by rw[bu];omega) _ hz,hf⟩,g _ (by rw[bu];omega) _ hTI,⟨w0,hw0,g _ (by rw[bu];omega) _ hTO⟩,d0.at fun o q=>g _ (by rw[bu];omega) o q,d1.at fun o q=>g _ (by rw[bu];omega) o q⟩
 item:=by
  intro X hP hw hK hc i pins s σ H E I hf st hg
  subst hP hw hK
  obtain⟨a0,x0,a1,x1,⟨b0,AB⟩,⟨b1,Cz⟩⟩:=hg
  obtain⟨Lr,MW,p0,hz0⟩:=I.Ef b0
  obtain⟨u0,Va,Vb⟩:=MW.get AB
  obtain⟨Ls,MX,p1,hz1⟩:=I.Ef b1
  obtain⟨u1,hu1,Vc⟩:=MX.get Cz
  have slt:∀b∈kE N,b < s.heap.objs.size:=fun b hb=>by obtain⟨_,_,hz,_⟩:=st.z;have h1:=bu.mp hb;have h2:@LT.lt Nat _ (N+4) s.heap.objs.size:=Heap.lt_size hz;show @LT.lt Nat _ b s.heap.objs.size;omega
  refine Cy st p0 (by simpa using Va) MS p1 (by simpa using hu1) MT fun h' st' hT hk=>?_
  refine⟨_,rfl,?_⟩
  show wpAny _ _ (pure ()) _ _ _
  refine wpAny_pure ?_
  have I2:Inv X pins σ (upd H s.heap.objs.size (.tup [x0,x1])) {s with heap:=h',toks:=s.toks}:=
   I.handed (its:=[u0,u1]) hf slt (fun b o hb q=>hk b o hb q) hT (.cons Vb (.cons Vc (.nil))) (show 2<=sizeLine by decide)
  refine⟨.ref s.heap.objs.size,_,I2,rfl,⟨_,x0,x1,I.fresh,rfl,rfl,fun ys hy=>by rw[I.uu hy b0];exact AB,fun ys hy=>by rw[I.uu hy b1];exact Cz⟩,st',fun b hb=>?_⟩
  rw[aK (Nat.ne_of_lt (slt b hb))]
  exact(hf b hb).1
 done:=by
  intro X hP hw hK hc i pins s σ H E I hf st hg
  subst hP hw hK
  obtain⟨a0,a1,b0,b1,hend⟩:=hg
  obtain⟨Lr,MW,p0,hz0⟩:=I.Ef b0
  have X3:=MW.length
  obtain⟨Ls,MX,p1,hz1⟩:=I.Ef b1
  have hl1:=MX.length
  refine Ey (I.ok.hd hc) st p0 MS p1 MT ?_ fun h' hk=>⟨rfl,I.uv (t':=s.toks) hk hf⟩
  simp only[List.getElem?_toArray,List.getElem?_eq_none_iff]
  omega
 self:=fun _ _ _ _ _ st h=>by
  obtain⟨_,_,hz,_⟩:=st.z
  exact Ez hz h
section
variable {X:Cx}{a b c e:Expr}{nm:Str}{pos p tpos:Pos}
theorem CC {ta:TA}(hg:Gl X "zip") (hm:X.mg "zip" =none) (ha:PA X [a,b] ta) (hs:starEach [a,b] X.env=[(false,eval a X.env),(false,eval b X.env)]:=by rfl) (hs2:starEach [b] X.env=[(false,eval b X.env)]:=by rfl):
  PI X (.Name nm tpos) (.Call (.Name "zip" p) [a,b] [] pos) (Lh X.K ta):=by
 intro pins s σ H R I h
 refine Call_ (ow I hg hm boot_zip (PyProof.Rows.callWith_type1 (fh (ha pos pins s σ H _ I h) fun us s1 ⟨vs,H1,I1,r1,q1⟩=>?_) (by rw[hs,hs2]) (by rw[hs2];rfl)))
 obtain⟨k0,k1,a0,a1,MN,MP,rfl,h0,h1,q⟩:=q1
 obtain⟨u0,u1,rfl,e0,e1⟩:=r1.two
 cases e0
 cases e1
 obtain⟨Lr,MW,p0,hz0⟩:=I1.Ef h0
 obtain⟨Ls,MX,p1,hz1⟩:=I1.Ef h1
 refine Cd p0 p1 fun h' st hk=>wpAny_pyIter_zip st.z ?_
 refine⟨_,kE s1.heap.objs.size,_,_,H1,rfl,I1.kept (t':=s1.toks) hk,xW k0 k1 a0 a1 s1.heap.objs.size p0.lt p1.lt,⟨⟨_,_,st.z,.inl rfl⟩,st.ti,st.to,st.c0,st.c1⟩,fun b hb=>?_,q⟩
 have hb:s1.heap.objs.size<=b:=(bu.mp hb).1
 exact I1.vm hb (I1.hok.fresh hb)
theorem CD {gA : GA} (hg : Gl X "zip") (hm : X.mg "zip" = none) (ha : JA X [a, b] gA) (hs : starEach [a, b] X.env = [(false, eval a X.env), (false, eval b X.env)] := by rfl) (hs2 : starEach [b] X.env = [(false, eval b X.env)] := by rfl) :
    Lj X (.Name nm tpos) (.Call (.Name "zip" p) [a,b] [] pos) (zg gA):=
  ⟨fun B=>PI.orelse fun σ H R0 ⟨S,F,ds,S',R,hg',k⟩=>by
  obtain⟨⟨args,S1⟩,h1,hg'⟩:=aj hg'
  refine⟨_,CC hg hm (ha.h B) hs hs2,S,F,args,S1,R,h1,fun vs F1 H1 R1 st1 r1=>?_⟩
  dsimp only at hg'
  split at hg'
  . obtain⟨⟨k0,Ve⟩,h2,hg'⟩:=aj hg'
    obtain⟨⟨k1,es1⟩,h3,hg'⟩:=aE hg'
    cases hg'
    cases r1 with
    | cons r rr=>
      cases rr with
      | cons r' rr=>
        cases rr
        obtain⟨a0,MY,rfl,S9,DB⟩:=R1.sub.Ce (K:=X.K) r h2
        obtain⟨a1,MZ,rfl,mq,DC⟩:=R1.sub.Ce (K:=X.K) r' h3
        refine⟨k0,k1,a0,a1,MY,MZ,rfl,DB F1 H1 (fun _ _ z=>z) R1.sub,DC F1 H1 (fun _ _ z=>z) R1.sub,k _ F1 H1 R1 st1 fun F' H' le sb i=>⟨fun d hd=>?_,fun hl=>⟨MY,MZ,DB F' H' le sb,DC F' H' le sb,?_⟩⟩⟩
        . rw[List.getElem?_zipWith] at hd
          cases q0:Ve[i]? with
          | none=>rw[q0] at hd;cases hd
          | some d0=>
            cases q1:es1[i]? with
            | none=>rw[q0,q1] at hd;cases hd
            | some d1=>
              rw[q0,q1] at hd
              cases hd
              obtain⟨v0,m0,n0⟩:=S9.get q0
              obtain⟨v1,m1,n1⟩:=mq.get q1
              refine⟨⟨MY,v0,MZ,v1,⟨DB F' H' le sb,m0⟩,DC F' H' le sb,m1⟩,fun x H2 y=>?_⟩
              obtain⟨p,y0,y1,hp,rfl,rfl,Vf,hy1⟩:=y
              have e0:=Vf MY (DB F' H' le sb)
              have e1:=hy1 MZ (DC F' H' le sb)
              rw[m0] at e0
              rw[m1] at e1
              cases e0
              cases e1
              have Tc:=fun b o z=>j6 (o:=.tup [v0,v1]) (sb.fresh hp) b o (le b o z)
              exact⟨_,gT.root sb hp _,sb.mW hp,.tup aU (.cons (n0.le Tc) (.cons (n1.le Tc) .nil))⟩
        . rw[List.length_zipWith,<-S9.length,<-mq.length] at hl
          omega
  . cases hg'⟩
end
section
variable (S:SS) (d e:D) (o:MO) (i j:Nat) (g ga gb gc:GD) (ge:GE) (q q1 q2:GT) (gA:GA) (gu:GU) (a b:GS) (f f':List D->Option U) (fm:FM) (bd:GB) (gi:GI)
@[simp] theorem O8:ak i S=match S[i]? with | some (some (.t d))=>some (.t d,S) | some (some (.s d))=>some (.s d,S) | some (some (.f d))=>some (.f d,S) | some (some _)=>some (.v i,S) | _=>none:=rfl
@[simp] theorem Vg:eC d S=some (d,S):=rfl
@[simp] theorem O9:aC S=some ([],S):=rfl
@[simp] theorem M0:aa g gA S=(g S).bind fun p=>(gA p.2).map fun q=>(p.1 :: q.1,q.2):=rfl
@[simp] theorem Vh:eP f gA S=(gA S).bind fun p=>(f p.1).map fun u=>(u,p.2):=rfl
@[simp] theorem Vi:eF ge S=(ge S).bind fun p=>fz p.1 p.2:=rfl
@[simp] theorem Vj:eT g S=(g S).map fun p=>(.t p.1,p.2):=rfl
@[simp] theorem Pa:fz (.t d) S=some (d,S):=rfl
@[simp] theorem Pb (ds:List D):fz (.m (.lst ds)) S=some (.lst ds,S):=rfl
@[simp] theorem Pc:fz (.v i) S=match S[i]? with | some (some (.t d))=>some (d,S) | some (some (.m (.lst ds)))=>some (.lst ds,S.set i (some (.t (.lst ds)))) | _=>none:=rfl
@[simp] theorem Vk:qB g S=(g S).bind fun p=>match p.1 with | .bl k=>some (k,p.2) | _=>none:=rfl
@[simp] theorem Pd:Al q S=(q S).map fun p=>(!p.1,p.2):=rfl
@[simp] theorem Pe:ue q1 q2 S=(q1 S).bind fun p=>if p.1 then q2 p.2 else some (false,p.2):=rfl
@[simp] theorem Td:OE q1 q2 S=(q1 S).bind fun p=>if p.1 then some (true,p.2) else q2 p.2:=rfl
@[simp] theorem Vl:eQ q S=(q S).map fun p=>(.bl p.1,p.2):=rfl
@[simp] theorem M1:aV S=some (true,S):=rfl
@[simp] theorem Pf:gX S=some (.nx S):=rfl
@[simp] theorem Pg:aZ a b S=(a S).bind fun o=>match o with | .nx S1=>b S1 | o=>some o:=rfl
@[simp] theorem Ph:bJ i ge S=(ge S).bind fun p=>match p.1 with | .m o=>(mw i (.m o) p.2).map .nx | u=>(fz u p.2).bind fun q=>(mw i (.t q.1) q.2).map .nx:=rfl
@[simp] theorem gZ (u:U):mw i u S=match S[i]? with | some (some (.b _))=>none | some _=>some (S.set i (some u)) | none=>none:=rfl
@[simp] theorem M3:pA ge S=(ge S).map fun p=>.nx p.2:=rfl
@[simp] theorem Pj:cT ge S=(ge S).bind fun p=>match p.1 with
 | .v i=>match p.2[i]? with
  | some (some (.t d))=>some (.rt (.t d) p.2)
  | some (some (.m o))=>some (.rt (.m o) (p.2.set i none))
  | _=>none
 | .s _=>none
 | .f _=>none
 | u=>some (.rt u p.2):=rfl
@[simp] theorem Te:oG q a b S=(q S).bind fun p=>if p.1 then a p.2 else b p.2:=rfl
@[simp] theorem M4:bName i d S=mw i (.t d) S:=rfl
@[simp] theorem uz:j9 bd gi a S=(gi S).bind fun p=>loop bd a p.1 p.2:=rfl
@[simp] theorem HS:D7 g S=(g S).bind fun p=>match p.1 with | .tup ds=>some (ds,p.2) | .lst ds=>some (ds,p.2) | _=>none:=rfl
@[simp] theorem EA:iW gA S=(gA S).bind fun p=>match p.1 with | [.int j]=>if j < 1000000/\-1000000 < j then some (mF 0 j.toNat,p.2) else none | _=>none:=rfl
@[simp] theorem HU:loop bd a [] S=some (.nx S):=rfl
@[simp] theorem Pk:bB S=some ([],S):=rfl
@[simp] theorem Pn:aF g gu S=(g S).bind fun p=>(gu p.2).map fun q=>(.t p.1 :: q.1,q.2):=rfl
@[simp] theorem Po:gQ ge gu S=(ge S).bind fun p=>(gu p.2).map fun q=>(p.1 :: q.1,q.2):=rfl
@[simp] theorem M5:aR fm gu S=(gu S).bind fun p=>if(slotsOf p.1).Nodup/\cB p.1<=1 then(bX p.2 p.1).bind fun us=>(fm us).bind fun r=>(wb p.1 r.2 p.2).map fun S2=>(r.1,S2) else none:=rfl
@[simp] theorem Jy:bX S []=some []:=rfl
@[simp] theorem HV (u:U) (us:List U):bX S (u :: us)=(resolve S u).bind fun w=>(bX S us).map fun ws=>w :: ws:=rfl
@[simp] theorem M6:resolve S (.t d)=some (.t d):=rfl
@[simp] theorem M7:resolve S (.m o)=some (.b o):=rfl
@[simp] theorem M8 (ns:List Int):resolve S (.s ns)=some (.s ns):=rfl
@[simp] theorem M9:resolve S (.v i)=match S[i]? with | some (some (.m o))=>some (.b o) | some (some (.b o))=>some (.b o) | _=>none:=rfl
@[simp] theorem Lu:slotsOf []=[]:=rfl
@[simp] theorem Pp (us:List U):slotsOf (.t d :: us)=slotsOf us:=rfl
@[simp] theorem Pq (us:List U):slotsOf (.m o :: us)=slotsOf us:=rfl
@[simp] theorem Pr (ns:List Int) (us:List U):slotsOf (.s ns :: us)=slotsOf us:=rfl
@[simp] theorem Pu (us:List U):slotsOf (.v i :: us)=i :: slotsOf us:=rfl
@[simp] theorem Lv:cB []=0:=rfl
@[simp] theorem Pw (us:List U):cB (.t d :: us)=cB us:=rfl
@[simp] theorem Px (us:List U):cB (.m o :: us)=cB us+1:=rfl
@[simp] theorem Py (ns:List Int) (us:List U):cB (.s ns :: us)=cB us:=rfl
@[simp] theorem Pz (us:List U):cB (.v i :: us)=cB us:=rfl
@[simp] theorem Lw:wb [] [] S=some S:=rfl
@[simp] theorem PB (us:List U) (os:List MO):wb (.t d :: us) os S=wb us os S:=by cases os <;> rfl
@[simp] theorem PD (us:List U) (os:List MO):wb (.m o :: us) (o' :: os) S=wb us os S:=rfl
@[simp] theorem PF (us:List U) (os:List MO):wb (.v i :: us) (o :: os) S=match S[i]? with | some (some (.m _))=>wb us os (S.set i (some (.m o))) | some (some (.b _))=>wb us os (S.set i (some (.b o))) | _=>none:=rfl
@[simp] theorem PJ:bg i gb S=match S[i]? with | some (some _)=>(gb S).bind fun p=>(match p.2[i]? with | some (some u)=>(dZ u p.1).map fun d=>(d,p.2) | _=>none) | _=>none:=rfl
@[simp] theorem PK:jA i S=match S[i]? with | some (some u)=>(ur u).map fun n=>(.int (n:Nat),S) | _=>none:=rfl
@[simp] theorem Vm (h:List D->MO->Option (D×MO)):eM i h gA S=if B6 S i then(gA S).bind fun p=>kg p.2 i (h p.1) else none:=rfl
@[simp] theorem PL (gk gv:GD):qE i gk gv S=(gv S).bind fun p=>match p.2[i]? with | some (some _)=>(gk p.2).bind fun r=>(kg r.2 i fun o=>(gY o r.1 p.1).map fun o'=>(.dg,o')).map fun z=>.nx z.2 | _=>none:=rfl
@[simp] theorem HW (ds:List D) (k:Int):dZ (.t (.tup ds)) (.int k)=dW ds k:=rfl
@[simp] theorem HX (ds:List D) (k:Int):dZ (.t (.lst ds)) (.int k)=dW ds k:=rfl
@[simp] theorem HY (ds:List D) (k:Int):dZ (.m (.lst ds)) (.int k)=dW ds k:=rfl
@[simp] theorem HZ (ds:List D) (k:Int):dZ (.b (.lst ds)) (.int k)=dW ds k:=rfl
@[simp] theorem xX (kvs:List (Key×D)) (k:D):dZ (.m (.dct kvs)) k=(keyOf k).bind (bA kvs):=by cases k <;> rfl
@[simp] theorem xY (kvs:List (Key×D)) (k:D):dZ (.b (.dct kvs)) k=(keyOf k).bind (bA kvs):=by cases k <;> rfl
@[simp] theorem Jz (ns:List Int) (k:Int):dZ (.s ns) (.int k)=(dW ns k).map D.int:=rfl
@[simp] theorem Na (k:Int):keyOf (.int k)=some (.inl k):=rfl
@[simp] theorem Nb (k:Str):keyOf (.str k)=some (.inr k):=rfl
@[simp] theorem JC (ds:List D):ur (.t (.tup ds))=some ds.length:=rfl
@[simp] theorem JF (ds:List D):ur (.t (.lst ds))=some ds.length:=rfl
@[simp] theorem JH (ds:List D):ur (.m (.lst ds))=some ds.length:=rfl
@[simp] theorem JJ (ds:List D):ur (.b (.lst ds))=some ds.length:=rfl
@[simp] theorem Lx (ns:List Int):ur (.s ns)=some ns.length:=rfl
@[simp] theorem Tf (C:Int->Int->Bool) (h:Int->Int->D) (x y:Int):Dz C h [.int x,.int y]=if C x y then some (.t (h x y)) else none:=rfl
@[simp] theorem Ly (x y:Int):ji [.int x,.int y]=some (.t (.int (x+y))):=rfl
@[simp] theorem Lz (x y:Str):ji [.str x,.str y]=if x.length+y.length<=100000 then some (.t (.str (x++y))) else none:=rfl
@[simp] theorem LA (x y:List D):ji [.tup x,.tup y]=if x.length+y.length<=100000 then some (.t (.tup (x++y))) else none:=rfl
@[simp] theorem LB (x y:List D):ji [.lst x,.lst y]=if x.length+y.length<=100000 then some (.m (.lst (x++y))) else none:=rfl
@[simp] theorem PM (x y:Int):xE [.int x,.int y]=if((decide (-(2 ^ 64) < x) && decide (x < 2 ^ 64)) || (decide (-(2 ^ 64) < y) && decide (y < 2 ^ 64))) then some (.t (.int (x * y))) else none:=rfl
@[simp] theorem PN (ds:List D):dF ds=if ds.length<=100000 then some (.t (.tup ds)) else none:=rfl
@[simp] theorem PO (ds:List D):iK ds=if ds.length<=100000 then some (.m (.lst ds)) else none:=rfl
@[simp] theorem Nc (ds:List D) (k:Int):xF [.tup ds,.int k]=(dW ds k).map .t:=rfl
@[simp] theorem Nd (ds:List D) (k:Int):xF [.lst ds,.int k]=(dW ds k).map .t:=rfl
@[simp] theorem Tg:w4 [d,e]=if fX d<=40 then some (.t (.bl (uo d e))) else none:=rfl
@[simp] theorem Th:zb [d,e]=if fX d<=40 then some (.t (.bl (!uo d e))) else none:=rfl
@[simp] theorem LC (ds:List D):rL [.tup ds]=some (.t (.int ds.length)):=rfl
@[simp] theorem LD (ds:List D):rL [.lst ds]=some (.t (.int ds.length)):=rfl
@[simp] theorem JK (ds:List D):vN [.tup ds]=some (.m (.lst ds)):=rfl
@[simp] theorem JL (ds:List D):vN [.lst ds]=some (.m (.lst ds)):=rfl
@[simp] theorem Ia (ds:List D):cE [.tup ds]=some (.t (.tup ds)):=rfl
@[simp] theorem Ib (ds:List D):cE [.lst ds]=some (.t (.tup ds)):=rfl
@[simp] theorem Nf (x y:Int):uo (.int x) (.int y)=(x == y):=by simp[uo]
@[simp] theorem Ng (x:Int):fX (.int x)=0:=by simp[fX]
@[simp] theorem PR (h:MO->Option (D×MO)):kg S i h=match S[i]? with | some (some (.m o))=>(h o).map fun r=>(r.1,S.set i (some (.m r.2))) | some (some (.b o))=>(h o).map fun r=>(r.1,S.set i (some (.b r.2))) | _=>none:=rfl
@[simp] theorem Ti:B6 S i=match S[i]? with | some (some (.m (.lst _)))=>true | some (some (.b (.lst _)))=>true | _=>false:=rfl
@[simp] theorem AD (kvs:List (Key×D)) (k:D):gY (.dct kvs) k d=(keyOf k).bind fun kk=>if kvs.length < 100000 then some (.dct (putD kvs kk d)) else none:=rfl
@[simp] theorem JM (ds:List D) (k:Int):gY (.lst ds) (.int k) d=(uX ds.length k).map fun j=>.lst (ds.set j d):=rfl
@[simp] theorem LF (ds:List D):hAppend [d] (.lst ds)=if ds.length < 100000 then some (.dg,.lst (ds++[d])) else none:=rfl
@[simp] theorem Nh (us:List U) (o2:MO):aP (.b o2 :: us) (some (.b o) :: S)=(aP us S).map fun os=>o :: os:=rfl
@[simp] theorem zq (us:List U) (x:Option U):aP (.t d :: us) (x :: S)=aP us S:=by cases x <;> rfl
end
end L2
end
section
namespace Sw
open PySem PySem.Spec PyProof.Rows L2
noncomputable def oN (T:List (Str×Int)):D:=.tup (T.map fun p=>.tup [.str p.1,.int p.2])
noncomputable def upTo (n:Nat):List Int:=(List.range n).map fun(k:Nat)=>(k:Int)
theorem CF (n:Nat):mF 0 n=(upTo n).map D.int:=by
 unfold mF upTo
 simp
theorem CG:∀(ts:List D) (S:SS),S.length=ts.length->aP (ts.map U.t) S=some []
 | [],S,_=>by cases S <;> rfl
 | d :: ts,[],h=>by cases h
 | d :: ts,x :: S,h=>by
  show aP (U.t d :: ts.map U.t) (x :: S)=_
  rw[zq]
  exact CG ts S (by simpa using h)
theorem Gi (S:SS):∀ts:List D,bX S (ts.map U.t)=some (ts.map U.t)
 | []=>rfl
 | d :: ts=>by
  show(some (U.t d)).bind _=_
  rw[Gi S ts]
  rfl
theorem LG:∀ts:List D,slotsOf (ts.map U.t)=[]
 | []=>rfl
 | d :: ts=>LG ts
theorem LH:∀ts:List D,cB (ts.map U.t)=0
 | []=>rfl
 | d :: ts=>LH ts
theorem Ic (S:SS):∀ts:List D,wb (ts.map U.t) [] S=some S
 | []=>rfl
 | d :: ts=>Ic S ts
theorem uA {cap:List Nat}{q:GT}{g:GD}{S:SS}{ts:List D}(hc:bS S cap=some (ts.map U.t)) (p:D->Bool) (f:D->D):∀(ds acc:List D),
    (∀d∈ds,q (some (.t d) :: ts.map fun x=>some (.t x))=some (p d,some (.t d) :: ts.map fun x=>some (.t x)))->(∀d∈ds,p d=true->g (some (.t d) :: ts.map fun x=>some (.t x))=some (f d,some (.t d) :: ts.map fun x=>some (.t x)))->
    br cap q g ds S acc=some (acc++(ds.filter p).map f,S)
  | [],acc,_,_=>by simp[br]
  | d :: ds, acc, hq, hg => by
    have em:(ts.map U.t).map some=ts.map fun x=>some (U.t x):=by simp
    have eo:aP (.t d :: ts.map U.t) (some (.t d) :: ts.map fun x=>some (.t x))=some []:=by rw[zq];exact CG ts _ (by simp)
    have q0:=hq d (List.mem_cons_self)
    unfold br
    rw[hc]
    simp only[Option.bind_some]
    rw[if_pos ⟨by rw[LG];exact List.nodup_nil,by rw[LH];exact Nat.zero_le _⟩,Gi]
    simp only[Option.bind_some]
    rw[em,q0]
    simp only[Option.bind_some]
    by_cases hp:p d=true
    . rw[if_pos hp,hg d List.mem_cons_self hp]
      simp only[Option.bind_some]
      rw[eo]
      simp only[Option.bind_some]
      rw[Ic]
      simp only[Option.bind_some]
      rw[uA hc p f ds (acc++[f d]) (fun e he=>hq e (List.mem_cons_of_mem _ he)) (fun e he=>hg e (List.mem_cons_of_mem _ he)),List.filter_cons_of_pos hp]
      simp
    . rw[if_neg hp,eo]
      simp only[Option.bind_some]
      rw[Ic]
      simp only[Option.bind_some]
      rw[uA hc p f ds acc (fun e he=>hq e (List.mem_cons_of_mem _ he)) (fun e he=>hg e (List.mem_cons_of_mem _ he)),List.filter_cons_of_neg hp]
@[simp] theorem EB (cap:List Nat) (gi:GI) (q:GT) (g:GD) (S:SS):bQ cap gi q g S=(gi S).bind fun p=>if p.1.length<=100000 then(br cap q g p.1 p.2 []).map fun r=>(.m (.lst r.1),r.2) else none:=rfl
theorem fY (g:GD) (S:SS):cU g S=(g S).bind fun p=>match p.1 with | .tup ds=>some (ds,p.2) | .lst ds=>some (ds,p.2) | .str z=>some (z.cps.toList.map fun c=>.str ⟨#[c]⟩,p.2) | _=>none:=rfl
noncomputable def xZ (p:Str×Int):D:=.tup [.str p.1,.int p.2]
structure uB (z:Str):Prop where
 len:z.length<=8
 X4:∀c∈z.cps.toList,c < 16 ^ 8
structure uC (p:Str×Int):Prop where
 nm:uB p.1
 lo:0<=p.2
 hi:p.2<=10
theorem getD_mem {α:Type}{l:List α}{i:Nat}{x:α}(h:i < l.length):l.getD i x∈l:=by simp[List.getD,h]
end Sw
end
section
namespace L2
open PySem PySem.Spec PyProof.Rows
section
variable (S:SS) (d:D) (i:Nat) (g ga gb gc:GD) (gA:GA)
@[simp] theorem PU (f:Int->Int->Int):Ec f i g S=match S[i]? with
 | some (some (.t (.int n)))=>(g S).bind fun p=>match p.1 with
  | .int m=>(mw i (.t (.int (f n m))) p.2).map .nx
  | _=>none
 | _=>none:=rfl
@[simp] theorem PV (ds:List D) (k:Int):OT [.lst ds,.int k]=if 0<=k/\k.toNat<=100000/\ds.length * k.toNat<=100000 then some (.m (.lst (List.replicate k.toNat ds).flatten)) else none:=rfl
@[simp] theorem JO (es ds:List D):jr [.lst es] (.lst ds)=if ds.length+es.length<=100000 then some (.dg,.lst (ds++es)) else none:=rfl
@[simp] theorem Ni:mJ gA S=(gA S).bind fun p=>match p.1 with
 | [d]=>(rN d).map fun q=>(iE q.2,p.2)
 | _=>none:=rfl
@[simp] theorem Nj:zg gA S=(gA S).bind fun p=>match p.1 with
 | [d,e]=>(rN d).bind fun q=>(rN e).map fun r=>(List.zipWith (fun a b=>.tup [a,b]) q.2 r.2,p.2)
 | _=>none:=rfl
@[simp] theorem LI (ds:List D):rN (.lst ds)=some (true,ds):=rfl
@[simp] theorem LJ (ds:List D):rN (.tup ds)=some (false,ds):=rfl
theorem cF (cap:List Nat) (gi:GI) (q:GT):bQ cap gi q g S=(gi S).bind fun p=>if p.1.length<=100000 then(br cap q g p.1 p.2 []).map fun r=>(.m (.lst r.1),r.2) else none:=rfl
end
end L2
namespace Sq
open PySem PySem.Spec PyProof.Rows L2 Sw
theorem uD {bd:GB}{body:GS}:∀(ds:List D) (I:List D->SS->Prop) (S:SS),I ds S->(∀d r S,I (d :: r) S->∃S1 S2,bd d S=some S1/\body S1=some (.nx S2)/\I r S2)->∃S',loop bd body ds S=some (.nx S')/\I [] S'
 | [],I,S,h,_=>⟨S,rfl,h⟩
 | d :: ds,I,S,h,k=>by
  obtain⟨S1,S2,e1,e2,h2⟩:=k d ds S h
  obtain⟨S',e,h'⟩:=uD ds I S2 h2 k
  refine⟨S',?_,h'⟩
  show((bd d S).bind fun S1=>(body S1).bind _)=_
  rw[e1,Option.bind_some,e2,Option.bind_some]
  exact e
theorem gz (cap : List Nat) (q : GT) (g : GD) (d : D) (ds : List D) (S : SS) (acc : List D) : br cap q g (d :: ds) S acc = (br cap q g [d] S acc).bind fun r => br cap q g ds r.2 r.1 := by
  simp only[br]
  cases bS S cap with
  | none=>rfl
  | some us =>
    simp only[Option.bind_some]
    split
    . cases bX S us with
      | none=>rfl
      | some ws =>
        simp only[Option.bind_some]
        cases q (some (.t d) :: ws.map some) with
        | none=>rfl
        | some p=>
          simp only[Option.bind_some]
          split
          . cases g p.2 with
            | none=>rfl
            | some r=>
              simp only[Option.bind_some]
              cases aP (.t d :: ws) r.2 with
              | none=>rfl
              | some outs=>
                simp only[Option.bind_some]
                cases wb us outs S with
                | none=>rfl
                | some S'=>rfl
          . cases aP (.t d :: ws) p.2 with
            | none=>rfl
            | some outs=>
              simp only[Option.bind_some]
              cases wb us outs S with
              | none=>rfl
              | some S'=>rfl
    . rfl
theorem zu {cap:List Nat}{g:GD}:∀(ds:List D) (I:List D->List D->SS->Prop) (S:SS) (acc:List D),I ds acc S->(∀d r acc S,I (d :: r) acc S->∃acc' S',br cap aV g [d] S acc=some (acc',S')/\I r acc' S')->∃acc' S',br cap aV g ds S acc=some (acc',S')/\I [] acc' S'
 | [],I,S,acc,h,_=>⟨acc,S,rfl,h⟩
 | d :: ds,I,S,acc,h,k=>by
  obtain⟨a1,S1,e1,h1⟩:=k d ds acc S h
  obtain⟨a2,S2,e2,h2⟩:=zu ds I S1 a1 h1 k
  exact⟨a2,S2,by rw[gz,e1];exact e2,h2⟩
theorem oO {α:Type}{l:List α}{i:Int}{x:α}(h0:0<=i) (h:l[i.toNat]? =some x):dW l i=some x:=by
 have hl:=(List.getElem?_eq_some_iff.mp h).1
 unfold dW uX
 rw[if_pos h0,if_pos (by omega)]
 exact h
theorem Ie {α:Type}{l:List α}{i:Int}(h0:0<=i) (h1:i < l.length):∃x,dW l i=some x/\l[i.toNat]? =some x:=by
 have h:i.toNat < l.length:=by omega
 exact⟨l[i.toNat],oO h0 (List.getElem?_eq_getElem h),List.getElem?_eq_getElem h⟩
theorem sN {gA:GA}{S S':SS}{j:Int}(h:gA S=some ([.int j],S')) (h1:j < 1000000) (h2:-1000000 < j):iW gA S=some (mF 0 j.toNat,S'):=by
 unfold iW
 rw[h]
 simp only[Option.bind_some]
 rw[if_pos ⟨h1,h2⟩]
theorem Ig (i n:Nat) (j:Int) (S:SS) (h:S[i]? =some (some (.t (.int j)))) (hj:j.toNat=n) (h1:j < 1000000) (h2:-1000000 < j):iW (aa (eF (ak i)) aC) S=some (mF 0 n,S):=by
 have e:(aa (eF (ak i)) aC) S=some ([.int j],S):=by simp[h]
 rw[sN e h1 h2,hj]
theorem CH (n:Nat):(-1000000:Int) < n:=Int.lt_of_lt_of_le (by decide) (Int.natCast_nonneg n)
theorem x8 (i n:Nat) (S:SS) (h:S[i]? =some (some (.t (.int n)))) (hn:n < 1000000):iW (aa (eF (ak i)) aC) S=some (mF 0 n,S):=
 Ig i n n S h (Int.toNat_natCast n) (Int.ofNat_lt.mpr hn) (CH n)
noncomputable abbrev fd (c i l:Int):MO:=.lst [.int c,.int i,.int l]
end Sq
end
section
namespace L2
open PySem PySem.Spec PyProof.Rows
noncomputable def mC:Option U->Bool
 | some (.b _)=>true
 | _=>false
@[simp] theorem Tj:mC none=false:=rfl
@[simp] theorem Tn (d:D):mC (some (.t d))=false:=rfl
@[simp] theorem To (o:MO):mC (some (.m o))=false:=rfl
theorem fO (i:Nat) (u:U) (S:SS):mw i u S=(S[i]?).bind fun x=>if mC x then none else some (S.set i (some u)):=by
 unfold mw
 cases S[i]? with
 | none=>rfl
 | some x=>cases x with
  | none=>rfl
  | some u=>cases u <;> rfl
@[simp] theorem PX (n:Nat) (bs:DA) (ds:List D) (S:SS):oH n bs (.tup ds) S=if ds.length=n then bs ds S else none:=rfl
@[simp] theorem Nk (b:GB) (bs:DA) (d:D) (r:List D) (S:SS):fU b bs (d :: r) S=(b d S).bind fun S1=>bs r S1:=rfl
@[simp] theorem PY (S:SS):pL [] S=some S:=rfl
@[simp] theorem Nl (S:SS):Cj S=some (.m (.iO []),S):=rfl
@[simp] theorem Nm (S:SS):qH S=some (.m (.dct []),S):=rfl
@[simp] theorem x9 (kvs:List (D×D)) (k:D):dZ (.m (.iO kvs)) k=(jk k).bind (bA kvs):=by cases k <;> rfl
@[simp] theorem ya (kvs:List (D×D)) (k:D):dZ (.b (.iO kvs)) k=(jk k).bind (bA kvs):=by cases k <;> rfl
@[simp] theorem AE (kvs:List (D×D)) (k d:D):gY (.iO kvs) k d=(jk k).bind fun kk=>if kvs.length < 10000000 then some (.iO (putD kvs kk d)) else none:=by cases k <;> rfl
@[simp] theorem LK (z:Str):sE (.str z)=true:=rfl
@[simp] theorem LL (b:Bool):sE (.bl b)=true:=rfl
@[simp] theorem LM (b:Int):sE (.int b)=true:=rfl
theorem nO {bd:GB}{body:GS}(ds:List D) (I:Nat->SS->Prop) (S:SS) (h0:I 0 S) (hs:∀j d S,ds[j]? =some d->I j S->∃S1 S2,bd d S=some S1/\body S1=some (.nx S2)/\I (j+1) S2):∃S',loop bd body ds S=some (.nx S')/\I ds.length S':=by
 obtain⟨S',e,j,hr,hj,hI⟩:=Sq.uD (bd:=bd) (body:=body) ds (fun r S=>∃j,ds.drop j=r/\j<=ds.length/\I j S) S ⟨0,rfl,Nat.zero_le _,h0⟩ (by
  rintro d r S ⟨j,hr,hj,hI⟩
  have hlt:j < ds.length:=by
   have:=congrArg List.length hr
   rw[List.length_drop,List.length_cons] at this
   omega
  rw[List.drop_eq_getElem_cons hlt] at hr
  injection hr with h1 h2
  obtain⟨S1,S2,e1,e2,h3⟩:=hs j d S (by rw[List.getElem?_eq_getElem hlt,h1]) hI
  exact⟨S1,S2,e1,e2,j+1,h2,hlt,h3⟩)
 have:j=ds.length:=by
  have:=congrArg List.length hr
  rw[List.length_drop,List.length_nil] at this
  omega
 subst this
 exact⟨S',e,hI⟩
theorem nP {cap:List Nat}{g:GD}(ds:List D) (I:Nat->List D->SS->Prop) (S:SS) (h0:I 0 [] S) (hs:∀j d acc S,ds[j]? =some d->I j acc S->∃x S',br cap aV g [d] S acc=some (acc++[x],S')/\I (j+1) (acc++[x]) S'):∃acc S',br cap aV g ds S []=some (acc,S')/\I ds.length acc S':=by
 obtain⟨acc,S',e,j,hr,hj,hI⟩:=Sq.zu (cap:=cap) (g:=g) ds (fun r acc S=>∃j,ds.drop j=r/\j<=ds.length/\I j acc S) S [] ⟨0,rfl,Nat.zero_le _,h0⟩ (by
  rintro d r acc S ⟨j,hr,hj,hI⟩
  have hlt:j < ds.length:=by
   have:=congrArg List.length hr
   rw[List.length_drop,List.length_cons] at this
   omega
  rw[List.drop_eq_getElem_cons hlt] at hr
  injection hr with h1 h2
  obtain⟨x,S',e1,h3⟩:=hs j d acc S (by rw[List.getElem?_eq_getElem hlt,h1]) hI
  exact⟨_,S',e1,j+1,h2,hlt,h3⟩)
 have:j=ds.length:=by
  have:=congrArg List.length hr
  rw[List.length_drop,List.length_nil] at this
  omega
 subst this
 exact⟨acc,S',e,hI⟩
theorem EC {n j:Nat}{d:D}(h:(mF 0 n)[j]? =some d):j < n/\d= .int j:=by
 unfold mF at h
 rw[List.getElem?_map] at h
 cases e:(List.range n)[j]? with
 | none=>rw[e] at h;cases h
 | some k=>
  rw[e] at h
  obtain⟨h1,h2⟩:=List.getElem?_eq_some_iff.mp e
  rw[List.getElem_range] at h2
  rw[List.length_range] at h1
  subst h2
  refine⟨h1,?_⟩
  have:=Option.some.inj h
  rw[<-this]
  show D.int (0+(j:Int))=_
  rw[Int.zero_add]
theorem g8 (bd:GB) (body:GS) (d:D) (ds:List D) (S:SS):loop bd body (d :: ds) S=(bd d S).bind fun S1=>(body S1).bind fun o=>match o with
  | .nx S2=>loop bd body ds S2
  | .ct S2=>loop bd body ds S2
  | .bk S2=>some (.nx S2)
  | .rt u S2=>some (.rt u S2):=rfl
end L2
end
section
namespace Sw
open PySem PySem.Spec PyProof.Rows L2
noncomputable def one (p:Str×Int):List (Str×Int):=(upTo (p.2+1).toNat).map fun k=>(p.1,k)
noncomputable def ng (T:List (Str×Int)):List (Str×Int):=T.flatMap one
theorem vY (n:Nat):(upTo n).length=n:=by simp[upTo]
theorem qJ:∀{T:List (Str×Int)},(∀p∈T,uC p)->(ng T).length<=11 * T.length
 | [],_=>Nat.le_refl _
 | p :: T,h=>by
  have ih:=qJ (T:=T) fun q hq=>h q (List.mem_cons_of_mem _ hq)
  have a:=(h p List.mem_cons_self).lo
  have b:=(h p List.mem_cons_self).hi
  have e:(ng (p :: T)).length=(one p).length+(ng T).length:=by show(one p++ng T).length=_;rw[List.length_append]
  have e2:(one p).length=(p.2+1).toNat:=by unfold one;rw[List.length_map,vY]
  rw[e,e2]
  show _<=11 * (T.length+1)
  omega
theorem at2 (a b:D):dW [a,b] 0=some a/\dW [a,b] 1=some b:=⟨rfl,rfl⟩
end Sw
end
section
namespace Sq
open PySem PySem.Spec PyProof.Rows L2 Sw
theorem ki (n:Nat):(mF 0 n).length=n:=by simp[mF]
noncomputable def Gj (x:Option U):Prop:=x=none\/∃d,x=some (.t d)
theorem Gj.t {d:D}:Gj (some (.t d)):=.inr ⟨d,rfl⟩
theorem Gj.n:Gj none:=.inl rfl
noncomputable def cK:GS:=
 (pA (eT (eM 1 jr (aa (eF (bQ [2] (iW (aa (eF (eP ji (aa (eF (ak 3)) (aa (eC (.int 1)) aC)))) aC)) aV (eF (eP dF (aa (eF (ak 1)) (aa (eF (ak 0)) aC)))))) aC))))
noncomputable def dw:GS:=
 (aZ (bJ 1 (eP iK aC))
 (aZ (j9 (oH 2 (fU (bName 2) (fU (bName 3) pL))) (D7 (eF (ak 0))) (cK))
 (cT (ak 1))))
noncomputable def gj:FM:=bM 4 dw
theorem CI:∀us r,gj us=some r->bM 4 dw us=some r:=fun _ _ h=>h
theorem AF {p:Str×Int}{td:D}{acc:List D}{x2 x3:Option U}(hp:uC p) (ha:acc.length < 1000) (h2:Gj x2) (h3:Gj x3):∃S1,oH 2 (fU (bName 2) (fU (bName 3) pL)) (xZ p) [some (.t td),some (.m (.lst acc)),x2,x3]=some S1/\
  cK S1=some (.nx [some (.t td),some (.m (.lst (acc++(one p).map xZ))),some (.t (.str p.1)),some (.t (.int p.2))]):=by
 refine⟨[some (.t td),some (.m (.lst acc)),some (.t (.str p.1)),some (.t (.int p.2))],?_,?_⟩
 ·rcases h2 with rfl | ⟨a,rfl⟩ <;> rcases h3 with rfl | ⟨b,rfl⟩ <;> rfl
 ·have a:=hp.lo
  have b:=hp.hi
  have b1:p.2+1 < 1000000:=by omega
  have b2:-1000000 < p.2+1:=by omega
  have e:=uA (cap:=[2]) (q:=aV) (g:=eF (eP dF (aa (eF (ak 1)) (aa (eF (ak 0)) aC)))) (S:=[some (.t td),some (.m (.lst acc)),some (.t (.str p.1)),some (.t (.int p.2))]) (ts:=[.str p.1]) rfl (fun _=>true) (fun d=>.tup [.str p.1,d]) (mF 0 (p.2+1).toNat) [] (fun d _=>rfl) (fun d _ _=>by simp)
  have e5:(mF 0 (p.2+1).toNat).map (fun d=>D.tup [.str p.1,d])=(one p).map xZ:=by rw[CF];unfold one xZ;simp
  have e6:((one p).map xZ).length=(p.2+1).toNat:=by unfold one;rw[List.length_map,List.length_map,vY]
  rw[List.filter_eq_self.mpr (fun _ _=>rfl),e5,List.nil_append] at e
  have l1:(p.2+1).toNat<=100000:=by omega
  have l2:acc.length+((one p).map xZ).length<=100000:=by rw[e6];omega
  simp only[List.length_map] at l2
  simp[cK,EB,b1,b2,ki,l1,e,l2,B6,kg]
theorem ED {T:List (Str×Int)}(h:T.length<=4) (h2:∀p∈T,uC p):gj [.t (oN T)]=some (.m (.lst ((ng T).map xZ)),[]):=by
 obtain⟨S',e,done,rest,x2,x3,hd,hr,q2,q3,hs⟩:=uD (bd:=oH 2 (fU (bName 2) (fU (bName 3) pL))) (body:=cK) (T.map xZ)
  (fun r S=>∃(done rest:List (Str×Int)) (x2 x3:Option U),T=done++rest/\r=rest.map xZ/\Gj x2/\Gj x3/\S=[some (.t (oN T)),some (.m (.lst ((ng done).map xZ))),x2,x3])
  [some (.t (oN T)),some (.m (.lst [])),none,none] ⟨[],T,none,none,rfl,rfl,.n,.n,rfl⟩ (by
  rintro d r S ⟨done,rest,x2,x3,hd,hr,q2,q3,rfl⟩
  cases rest with
  | nil=>cases hr
  | cons p rest=>
   injection hr with hr1 hr2
   subst hr1
   have hl:=qJ (T:=done) fun q hq=>h2 q (by rw[hd];exact List.mem_append_left _ hq)
   have hdl:done.length<=4:=by have:=congrArg List.length hd;simp at this;omega
   obtain⟨S1,e1,e2⟩:=AF (p:=p) (td:=oN T) (acc:=(ng done).map xZ) (x2:=x2) (x3:=x3) (h2 p (by rw[hd];simp)) (by rw[List.length_map];omega) q2 q3
   refine⟨S1,_,e1,e2,done++[p],rest,some (.t (.str p.1)),some (.t (.int p.2)),by rw[hd];simp,hr2,.t,.t,?_⟩
   have:ng (done++[p])=ng done++one p:=by simp[ng]
   rw[this,List.map_append])
 have:rest=[]:=by
  cases rest with
  | nil=>rfl
  | cons a b=>cases hr
 subst this
 rw[List.append_nil] at hd
 subst hd
 subst hs
 have e:loop (oH 2 (fU (bName 2) (fU (bName 3) pL))) cK (T.map xZ) [some (.t (oN T)),some (.m (.lst [])),none,none]=_:=e
 have ei:D7 (eF (ak 0)) [some (.t (oN T)),some (.m (.lst [])),none,none]=some (T.map xZ,[some (.t (oN T)),some (.m (.lst [])),none,none]):=rfl
 simp only[gj,bM,dw]
 simp[ei,e,aP,-HS]
noncomputable def bT (r:List Int):D:=.tup (r.map D.int)
theorem bE {a b:GS}{S S1:SS}(h:a S=some (.nx S1)):aZ a b S=b S1:=by
 show(a S).bind _=_
 rw[h]
 rfl
end Sq
end
section
namespace Sx
open PySem PySem.Spec PyProof.Rows L2 Sw Sq
end Sx
end
section
namespace Sl
open PySem PySem.Spec PyProof.Rows L2
section
variable {κ:Type} [DecidableEq κ]
noncomputable def lT (acc:List κ):List κ->List κ
 | []=>acc
 | k :: ks=>lT (if k∈acc then acc else acc++[k]) ks
theorem kj {x:κ}:∀{ks acc:List κ},x∈lT acc ks↔x∈acc\/x∈ks
  | [],acc=>by simp[lT]
  | k :: ks, acc => by
    show x∈lT (if k∈acc then acc else acc++[k]) ks↔_
    rw[kj]
    by_cases h:k∈acc
    . rw[if_pos h,List.mem_cons]
      constructor
      . rintro(a | a);exact .inl a;exact .inr (.inr a)
      . rintro(a | rfl | a);exact .inl a;exact .inl h;exact .inr a
    . rw[if_neg h,List.mem_append,List.mem_singleton,List.mem_cons,or_assoc]
theorem yc:∀{ks acc:List κ},acc.Nodup->(lT acc ks).Nodup
  | [],acc,h=>h
  | k :: ks, acc, h => by
    show(lT (if k∈acc then acc else acc++[k]) ks).Nodup
    refine yc ?_
    by_cases c:k∈acc
    . rw[if_pos c];exact h
    . rw[if_neg c,List.nodup_append]
      exact⟨h,by simp,fun a ha b hb e=>c (by rw[<-List.mem_singleton.mp hb,<-e];exact ha)⟩
theorem zw:∀(ks acc:List κ),∃r,lT acc ks=acc++r
 | [],acc=>⟨[],by simp[lT]⟩
 | k :: ks,acc=>by
  obtain⟨r,e⟩:=zw ks (if k∈acc then acc else acc++[k])
  by_cases h:k∈acc
  ·rw[if_pos h] at e;exact⟨r,by show lT (if k∈acc then acc else acc++[k]) ks=_;rw[if_pos h,e]⟩
  ·rw[if_neg h] at e;exact⟨k :: r,by show lT (if k∈acc then acc else acc++[k]) ks=_;rw[if_neg h,e,List.append_assoc];rfl⟩
noncomputable def jQ (ks:List κ):List Nat:=ks.map fun k=>(lT [] ks).idxOf k
theorem qK (ks:List κ):(jQ ks).length=ks.length:=List.length_map ..
end
noncomputable def na (ns:List Nat) (i:Nat):Nat:=ns.getD i 0
theorem cj {ns:List Nat}{i:Nat}(h:i < ns.length):ns[i]? =some (na ns i):=by
 unfold na
 rw[List.getD_eq_getElem?_getD,List.getElem?_eq_getElem h]
 rfl
theorem dR {ns:List Nat}{i:Nat}(h:i < ns.length):na ns i∈ns:=List.mem_of_getElem? (cj h)
structure vZ (ns:List Nat) (c:Nat):Prop where
 lt:∀v∈ns,v < c
 on:∀v,v < c->v∈ns
section
variable {κ:Type} [DecidableEq κ]
theorem pY {ks:List κ}{i:Nat}{k:κ}(h:ks[i]? =some k):na (jQ ks) i=(lT [] ks).idxOf k:=by
 unfold na jQ
 rw[List.getD_eq_getElem?_getD,List.getElem?_map,h]
 rfl
theorem uE {ks:List κ}{i j:Nat}{a b:κ}(ha:ks[i]? =some a) (hb:ks[j]? =some b):na (jQ ks) i=na (jQ ks) j↔a=b:=by
 rw[pY ha,pY hb]
 have ma:a∈lT [] ks:=kj.mpr (.inr (List.mem_of_getElem? ha))
 have mb:b∈lT [] ks:=kj.mpr (.inr (List.mem_of_getElem? hb))
 constructor
 ·intro e
  have la:=List.idxOf_lt_length_of_mem ma
  have lb:=List.idxOf_lt_length_of_mem mb
  have ea:(lT [] ks)[(lT [] ks).idxOf a]=a:=List.getElem_idxOf la
  have eb:(lT [] ks)[(lT [] ks).idxOf b]=b:=List.getElem_idxOf lb
  rw[<-ea,<-eb]
  simp only[e]
 ·rintro rfl;rfl
theorem qL (ks:List κ):vZ (jQ ks) (lT [] ks).length where
 lt:=fun v hv=>by
  obtain⟨k,hk,rfl⟩:=List.mem_map.mp hv
  exact List.idxOf_lt_length_of_mem (kj.mpr (.inr hk))
 on:=fun v hv=>by
  have m:(lT [] ks)[v]∈ks:=by
   rcases kj.mp (List.getElem_mem hv) with h | h
   ·cases h
   ·exact h
  refine List.mem_map.mpr ⟨_,m,?_⟩
  exact List.Nodup.idxOf_getElem (yc List.nodup_nil) v hv
end
theorem AG {ns ns':List Nat}{c c' n:Nat}(h:vZ ns c) (h':vZ ns' c') (hl:ns.length=n) (hl':ns'.length=n) (fin:∀i j,i < n->j < n->na ns' i=na ns' j->na ns i=na ns j){f g:Nat}(hf:f < n) (hg:g < n) (e:na ns f=na ns g) (ne:na ns' f≠na ns' g):c+1<=c':=by
 have rep:∀v,v < c->ns.idxOf v < n/\na ns (ns.idxOf v)=v:=fun v hv=>by
  have m:=h.on v hv
  have l:=List.idxOf_lt_length_of_mem m
  refine⟨by omega,?_⟩
  have a:=cj l
  rw[List.getElem?_eq_getElem l,List.getElem_idxOf l] at a
  exact(Option.some.inj a).symm
 have v0:na ns f < c:=h.lt _ (dR (by omega))
 obtain⟨w,hw,Vn,hwn⟩:∃w,w < n/\na ns w=na ns f/\na ns' w≠na ns' (ns.idxOf (na ns f)):=by
  by_cases q:na ns' f=na ns' (ns.idxOf (na ns f))
  ·exact⟨g,hg,e.symm,fun z=>ne (q.trans z.symm)⟩
  ·exact⟨f,hf,rfl,q⟩
 have nd:(na ns' w :: (List.range c).map fun v=>na ns' (ns.idxOf v)).Nodup:=by
  rw[List.nodup_cons]
  constructor
  ·intro m
   obtain⟨v,hv,ev⟩:=List.mem_map.mp m
   have r:=rep v (List.mem_range.mp hv)
   have z:=fin _ _ r.1 hw ev
   rw[r.2,Vn] at z
   rw[z] at ev
   exact hwn ev.symm
  ·rw[List.nodup_iff_pairwise_ne,List.pairwise_map]
   refine List.Pairwise.imp_of_mem (R:=fun a b=>a≠b) ?_ (List.nodup_iff_pairwise_ne.mp List.nodup_range)
   intro a b ha hb hab q
   have ra:=rep a (List.mem_range.mp ha)
   have rb:=rep b (List.mem_range.mp hb)
   have z:=fin _ _ ra.1 rb.1 q
   rw[ra.2,rb.2] at z
   exact hab z
 have sub:∀v∈(na ns' w :: (List.range c).map fun v=>na ns' (ns.idxOf v)),v∈List.range c':=fun v hv=>by
  rw[List.mem_range]
  rcases List.mem_cons.mp hv with rfl | m
  ·exact h'.lt _ (dR (by omega))
  ·obtain⟨u,hu,rfl⟩:=List.mem_map.mp m
   have r:=rep u (List.mem_range.mp hu)
   exact h'.lt _ (dR (by omega))
 have:=nd.length_le_of_subset sub
 simpa using this
section
variable (nx:Nat->Nat->Nat) (wd:Nat->D) (W:Nat)
noncomputable def led:List Nat->Nat->Nat
 | [],s=>s
 | c :: cs,s=>led cs (nx s c)
variable {nx wd W}
end
end Sl
end
section
namespace Sl
open PySem PySem.Spec PyProof.Rows L2 Sw
section
variable {κ:Type} [DecidableEq κ]
noncomputable def ent:Nat->List κ->List (κ×D)
 | _,[]=>[]
 | i,k :: ks=>(k,.int (i:Nat)) :: ent (i+1) ks
theorem nQ:∀(ks:List κ) (i:Nat),(ent i ks).length=ks.length
 | [],_=>rfl
 | k :: ks,i=>congrArg Nat.succ (nQ ks (i+1))
theorem v5:∀(ks:List κ) (i:Nat) (k:κ),ent i (ks++[k])=ent i ks++[(k,.int ((i+ks.length:Nat):Int))]
 | [],_,_=>rfl
 | g :: ks,i,k=>by
  show _ :: ent (i+1) (ks++[k])=_
  rw[v5 ks (i+1) k,show i+1+ks.length=i+(ks.length+1) by omega]
  rfl
theorem v7 : ∀ {ks : List κ} {k : κ} (i : Nat), k ∈ ks -> bA (ent i ks) k = some (.int ((i + ks.idxOf k : Nat) : Int))
  | [],_,_,h=>by cases h
  | g :: ks, k, i, h => by
    unfold bA
    by_cases e:g=k
    . subst e
      simp[ent]
    . have m:k∈ks:=by
        rcases List.mem_cons.mp h with rfl | m
        . exact absurd rfl e
        . exact m
      have ih:=v7 (i+1) m
      unfold bA at ih
      rw[show ent i (g :: ks)=(g,.int (i:Nat)) :: ent (i+1) ks from rfl,List.find?_cons_of_neg (by simpa using e),ih]
      have:(g :: ks).idxOf k=ks.idxOf k+1:=by rw[List.idxOf_cons,cond_eq_ite,if_neg (by simpa using e)]
      rw[this]
      congr 3
      omega
theorem jR {ks:List κ}{k:κ}(h:k∈ks):bA (ent 0 ks) k=some (.int (ks.idxOf k:Nat)):=by
 rw[v7 0 h,Nat.zero_add]
theorem jv:∀{ks:List κ}{k:κ}(i:Nat),k∉ks->bA (ent i ks) k=none
  | [],_,_,_=>rfl
  | g :: ks, k, i, h => by
    have ih:=jv (ks:=ks) (k:=k) (i+1) fun m=>h (List.mem_cons_of_mem _ m)
    unfold bA at ih ⊢
    rw[show ent i (g :: ks)=(g,.int (i:Nat)) :: ent (i+1) ks from rfl,List.find?_cons_of_neg (by
      simp only[decide_eq_true_eq];rintro rfl;exact h List.mem_cons_self)]
    exact ih
theorem v8 {kvs:List (κ×D)}{k:κ}(h:bA kvs k=none):(kvs.any fun kv=>decide (kv.1=k))=false:=by
 unfold bA at h
 rw[Option.map_eq_none_iff,List.find?_eq_none] at h
 rw[List.any_eq_false]
 exact fun x hx=>h x hx
theorem zx {kvs:List (κ×D)}{k:κ}{d:D}(h:bA kvs k=none):putD kvs k d=kvs++[(k,d)]:=by
 unfold putD
 rw[v8 h]
 rfl
theorem uF {ks:List κ}{k:κ}(h:k∉ks):putD (ent 0 ks) k (.int (ks.length:Nat))=ent 0 (ks++[k]):=by
 rw[zx (jv 0 h),v5,Nat.zero_add]
structure Kk (mk:List (κ×D)->MO) (ky:D->Option κ):Prop where
 has:∀kvs d k,ky d=some k->Av (.m (mk kvs)) d=some (bA kvs k).isSome
 rd:∀kvs d k,ky d=some k->dZ (.m (mk kvs)) d=bA kvs k
 rb:∀kvs d k,ky d=some k->dZ (.b (mk kvs)) d=bA kvs k
 wr:∀kvs d k v,ky d=some k->kvs.length < 100000->gY (mk kvs) d v=some (mk (putD kvs k v))
 ln:∀kvs,ur (.m (mk kvs))=some kvs.length
 dc:∀kvs,Lk (.m (mk kvs))=true
 df:∀kvs d k v,ky d=some k->kvs.length < 100000->OY (mk kvs) d v=some (match bA kvs k with | some e=>(e,mk kvs) | none=>(v,mk (putD kvs k v)))
end
theorem CJ:Kk MO.dct keyOf where
 has:=fun kvs d k h=>by show(keyOf d).map _=_;rw[h];rfl
 rd:=fun kvs d k h=>by rw[xX,h];rfl
 rb:=fun kvs d k h=>by rw[xY,h];rfl
 wr:=fun kvs d k v h hl=>by rw[AD,h,Option.bind_some,if_pos hl]
 ln:=fun kvs=>rfl
 dc:=fun kvs=>rfl
 df:=fun kvs d k v h hl=>by
  show(keyOf d).bind _=_
  rw[h,Option.bind_some]
  cases bA kvs k with
  | some e=>rfl
  | none=>exact if_pos hl
theorem EE:Kk MO.iO jk where
 has:=fun kvs d k h=>by show(jk d).map _=_;rw[h];rfl
 rd:=fun kvs d k h=>by rw[x9,h];rfl
 rb:=fun kvs d k h=>by rw[ya,h];rfl
 wr:=fun kvs d k v h hl=>by rw[AE,h,Option.bind_some,if_pos (by omega)]
 ln:=fun kvs=>rfl
 dc:=fun kvs=>rfl
 df:=fun kvs d k v h hl=>by
  show(jk d).bind _=_
  rw[h,Option.bind_some]
  cases bA kvs k with
  | some e=>rfl
  | none=>exact if_pos (by omega)
noncomputable def iD (ns:List Nat):List D:=ns.map fun n=>.int (n:Nat)
noncomputable def cu:GS:=
 (oG (qB (oK true 1 (eF (ak 2)))) (qE 1 (eF (ak 2)) (jA 1)) gX)
noncomputable def v9:GS:=
 (oG (qB (oK true 1 (eF (ak 2)))) (qE 1 (eF (ak 2)) (jA 1)) gX)
noncomputable def dH:GS:=
 (Ln (aZ (bJ 1 qH)
 (aZ (j9 (bName 2) (cU (eF (ak 0))) (cu))
 (cT (bQ [1] (cU (eF (ak 0))) aV (bg 1 (eF (ak 0)))))))
 (aZ (bJ 1 Cj)
 (aZ (j9 (bName 2) (cU (eF (ak 0))) (v9))
 (cT (bQ [1] (cU (eF (ak 0))) aV (bg 1 (eF (ak 0))))))))
noncomputable def qM:FM:=bM 3 dH
theorem EF:∀us r,qM us=some r->bM 3 dH us=some r:=fun _ _ h=>h
section
variable {κ:Type} [DecidableEq κ] {mk:List (κ×D)->MO}{ky:D->Option κ}
theorem CK (K:Kk mk ky){sd d:D}{k:κ}{acc:List κ}(h:ky d=some k) (hl:acc.length < 1000):cu [some (.t sd),some (.m (mk (ent 0 acc))),some (.t d)]=some (.nx [some (.t sd),some (.m (mk (ent 0 (if k∈acc then acc else acc++[k])))),some (.t d)]):=by
 by_cases m:k∈acc
 ·have e:=K.has (ent 0 acc) d k h
  rw[jR m] at e
  rw[if_pos m]
  simp[cu,oK,e]
 ·have e:=K.has (ent 0 acc) d k h
  rw[jv 0 m] at e
  have e2:=K.wr (ent 0 acc) d k (.int (acc.length:Nat)) h (by rw[nQ];omega)
  rw[uF m] at e2
  have e3:=K.ln (ent 0 acc)
  rw[nQ] at e3
  rw[if_neg m]
  simp[cu,oK,e,e2,e3,kg]
theorem wc (K:Kk mk ky){sd:D}:∀(ds:List D) (ks:List κ) (acc:List κ) (x:Option U),ds.map ky=ks.map some->acc.length+ds.length < 1000->mC x=false->
    ∃x',loop (bName 2) cu ds [some (.t sd),some (.m (mk (ent 0 acc))),x]=some (.nx [some (.t sd),some (.m (mk (ent 0 (lT acc ks)))),x'])
  | [],ks,acc,x,h,_,_=>by
    cases ks with
    | nil=>exact⟨x,rfl⟩
    | cons=>cases h
  | d :: ds, ks, acc, x, h, hl, hx => by
    cases ks with
    | nil=>cases h
    | cons k ks=>
      have hl:acc.length+(ds.length+1) < 1000:=hl
      injection h with h1 h2
      obtain⟨x',e⟩:=wc K (sd:=sd) ds ks (if k∈acc then acc else acc++[k]) (some (.t d)) h2 (by split <;> (try rw[List.length_append,List.length_singleton]) <;> omega) rfl
      refine⟨x',?_⟩
      have eb:bName 2 d [some (.t sd),some (.m (mk (ent 0 acc))),x]=some [some (.t sd),some (.m (mk (ent 0 acc))),some (.t d)]:=by simp[-gZ,fO,hx]
      rw[g8,eb,Option.bind_some,CK K h1 (by omega),Option.bind_some]
      exact e
theorem we (K : Kk mk ky) {sd : D} {acc : List κ} {x : Option U} : ∀ (ds : List D) (ks : List κ) (out : List D), ds.map ky = ks.map some -> (∀ k ∈ ks, k ∈ acc) ->
    br [1] aV (bg 1 (eF (ak 0))) ds [some (.t sd),some (.m (mk (ent 0 acc))),x] out=some (out++iD (ks.map fun k=>acc.idxOf k),[some (.t sd),some (.m (mk (ent 0 acc))),x])
  | [],ks,out,h,_=>by
    cases ks with
    | nil=>simp[br,iD]
    | cons=>cases h
  | d :: ds, ks, out, h, hm => by
    cases ks with
    | nil=>cases h
    | cons k ks=>
      injection h with h1 h2
      have e:=K.rb (ent 0 acc) d k h1
      rw[jR (hm k List.mem_cons_self)] at e
      have e1:br [1] aV (bg 1 (eF (ak 0))) [d] [some (.t sd),some (.m (mk (ent 0 acc))),x] out=some (out++[.int (acc.idxOf k:Nat)],[some (.t sd),some (.m (mk (ent 0 acc))),x]):=by
        simp[br,bS,fW,e,aP]
      rw[Sq.gz,e1,Option.bind_some]
      refine(we K (sd:=sd) (x:=x) ds ks (out++[D.int ((acc.idxOf k:Nat):Int)]) h2 fun q hq=>hm q (List.mem_cons_of_mem _ hq)).trans ?_
      simp[iD]
theorem wg (K:Kk mk ky){sd:D}{ds:List D}{ks:List κ}(hs:sd= .tup ds\/sd= .lst ds) (hk:ds.map ky=ks.map some) (hl:ds.length < 1000):
  ∃a S,(aZ (j9 (bName 2) (cU (eF (ak 0))) (cu)) (cT (bQ [1] (cU (eF (ak 0))) aV (bg 1 (eF (ak 0)))))) [some (.t sd),some (.m (mk [])),none]=some (.rt (.m (.lst (iD (jQ ks)))) (a :: S)):=by
 obtain⟨x,e⟩:=wc K (sd:=sd) ds ks [] none hk (by simpa using hl) rfl
 have e2:=we K (sd:=sd) (acc:=lT [] ks) (x:=x) ds ks [] hk fun k h=>kj.mpr (.inr h)
 have hz:ds.length<=100000:=by omega
 rw[List.nil_append] at e2
 have e:loop (bName 2) cu ds [some (.t sd),some (.m (mk [])),none]=some (.nx [some (.t sd),some (.m (mk (ent 0 (lT [] ks)))),x]):=e
 rcases hs with rfl | rfl
 ·exact⟨_,_,by simp[fY,e,cF,e2,hz,jQ];exact⟨rfl,rfl⟩⟩
 ·exact⟨_,_,by simp[fY,e,cF,e2,hz,jQ];exact⟨rfl,rfl⟩⟩
end
theorem Ih {sd:D}{ds:List D}{ks:List Key}(hs:sd= .tup ds\/sd= .lst ds) (hk:ds.map keyOf=ks.map some) (hl:ds.length < 1000):qM [.t sd]=some (.m (.lst (iD (jQ ks))),[]):=by
 obtain⟨a,S,e⟩:=wg CJ hs hk hl
 have eg:dH [some (.t sd),none,none]=some (.rt (.m (.lst (iD (jQ ks)))) (a :: S)):=by
  unfold dH Ln
  rw[show(aZ (bJ 1 qH) (aZ (j9 (bName 2) (cU (eF (ak 0))) (cu)) (cT (bQ [1] (cU (eF (ak 0))) aV (bg 1 (eF (ak 0))))))) [some (.t sd),none,none]=some (.rt (.m (.lst (iD (jQ ks)))) (a :: S)) from e]
  rfl
 show(dH [some (.t sd),none,none]).bind _=_
 rw[eg]
 rfl
theorem Ii {sd : D} {ds : List D} {ks : List D} (hs : sd = .tup ds \/ sd = .lst ds) (h0 : ds ≠ []) (hk : ds.map jk = ks.map some) (hl : ds.length < 1000) : qM [.t sd] = some (.m (.lst (iD (jQ ks))), []) := by
  obtain⟨a,S,e⟩:=wg EE hs hk hl
  have no : (aZ (bJ 1 qH) (aZ (j9 (bName 2) (cU (eF (ak 0))) (cu)) (cT (bQ [1] (cU (eF (ak 0))) aV (bg 1 (eF (ak 0))))))) [some (.t sd), none, none] = none := by
    cases ds with
    | nil=>exact absurd rfl h0
    | cons d ds=>
      cases ks with
      | nil=>cases hk
      | cons k ks=>
        injection hk with h1 h2
        cases d with
        | tup zs=>
          have ew:cu [some (.t sd),some (.m (.dct [])),some (.t (.tup zs))]=none:=rfl
          have el:loop (bName 2) cu (.tup zs :: ds) [some (.t sd),some (.m (.dct [])),none]=none:=by
            rw[g8,show bName 2 (.tup zs) [some (.t sd),some (.m (.dct [])),none]=some [some (.t sd),some (.m (.dct [])),some (.t (.tup zs))] from rfl,Option.bind_some,ew]
            rfl
          rcases hs with rfl | rfl <;> simp[fY,el]
        | _=>cases h1
  have eg:dH [some (.t sd),none,none]=some (.rt (.m (.lst (iD (jQ ks)))) (a :: S)):=by
    unfold dH Ln
    rw[no]
    exact e
  show(dH [some (.t sd),none,none]).bind _=_
  rw[eg]
  rfl
noncomputable def rw' (N:List (List Int)) (s:Nat):List Int:=N.getD s []
noncomputable def gm (N:List (List Int)) (s c:Nat):Nat:=((rw' N s).getD c 0).toNat
theorem rw_get {N:List (List Int)}{s:Nat}(h:s < N.length):N[s]? =some (rw' N s):=by
 unfold rw'
 rw[List.getD_eq_getElem?_getD,List.getElem?_eq_getElem h]
 rfl
theorem EG {N:List (List Int)}{s:Nat}(h:s < N.length):dW (N.map Sq.bT) (s:Int)=some (.tup ((rw' N s).map D.int)):=
 Sq.oO (Int.natCast_nonneg s) (by rw[Int.toNat_natCast,List.getElem?_map,rw_get h];rfl)
theorem qN {ns:List Nat}{s:Nat}(h:s < ns.length):dW (iD ns) (s:Int)=some (.int (na ns s:Nat)):=
 Sq.oO (Int.natCast_nonneg s) (by rw[Int.toNat_natCast,iD,List.getElem?_map,cj h];rfl)
theorem look_same {κ:Type} [DecidableEq κ] {kvs:List (κ×D)}{k:κ}{d:D}(h:bA kvs k=none):bA (kvs++[(k,d)]) k=some d:=by
 unfold bA at h ⊢
 rw[Option.map_eq_none_iff] at h
 rw[List.find?_append,h]
 simp
theorem qO {κ:Type} [DecidableEq κ] {kvs:List (κ×D)}{k k':κ}{d:D}(h:k≠k'):bA (kvs++[(k,d)]) k'=bA kvs k':=by
 unfold bA
 rw[List.find?_append,List.find?_cons_of_neg (by simpa using h),List.find?_nil,Option.or_none]
noncomputable def Wd (d:D):Prop:=(∃b,d= .bl b)\/∃z,d= .str z
theorem Ij {x y:Bool}(h:bI x=bI y):x=y:=by cases x <;> cases y <;> first | rfl | (exact absurd h (by decide))
noncomputable def EH:D->Key
 | .bl b=>.inl (bI b)
 | .str z=>.inr z
 | _=>.inl 0
theorem LN {a:D}(ha:Wd a):keyOf a=some (EH a):=by rcases ha with⟨x,rfl⟩ | ⟨x,rfl⟩ <;> rfl
theorem EI {a b:D}(ha:Wd a) (hb:Wd b) (h:EH a=EH b):a=b:=by
 rcases ha with⟨x,rfl⟩ | ⟨x,rfl⟩ <;> rcases hb with⟨y,rfl⟩ | ⟨y,rfl⟩
 ·injection h with h;rw[Ij h]
 ·cases h
 ·cases h
 ·injection h with h;rw[h]
noncomputable def g9 (M:List D) (s:Nat):D:=M.getD s .dg
theorem qP {M:List D}{s:Nat}(h:s < M.length):M[s]? =some (g9 M s):=by
 unfold g9
 rw[List.getD_eq_getElem?_getD,List.getElem?_eq_getElem h]
 rfl
theorem wj {M:List D}{s:Nat}(h:s < M.length):dW M (s:Int)=some (g9 M s):=
 Sq.oO (Int.natCast_nonneg s) (by rw[Int.toNat_natCast];exact qP h)
theorem qQ {M:List D}{s:Nat}(h:s < M.length):g9 M s∈M:=List.mem_of_getElem? (qP h)
theorem LO (a b c:D):dW [a,b,c] 0=some a/\dW [a,b,c] 1=some b/\dW [a,b,c] 2=some c:=⟨rfl,rfl,rfl⟩
section
variable {f1 f2 f3 f4:FM}{td md:D}{LP LQ H RD VD rf rg cr told wk:List D}{f g d a b r:Int}{hd:D}{y7 y8 y9 CL:Option U}
end
theorem uG {ns:List Nat}{n:Nat}(h:ns.length=n):iD ns=(List.range n).map fun s=>D.int (na ns s:Nat):=by
 subst h
 unfold iD
 apply List.ext_getElem?
 intro i
 rw[List.getElem?_map,List.getElem?_map]
 by_cases c:i < ns.length
 ·rw[cj c,List.getElem?_range c]
  rfl
 ·rw[List.getElem?_eq_none (by omega),List.getElem?_eq_none (by rw[List.length_range];omega)]
  rfl
theorem CM {ns:List Nat}{c:Nat}(h:vZ ns c) (hc:0 < c):ju [.lst (iD ns)]=some (.t (.int ((c - 1:Nat):Int))):=by
 have e:L2.bT (iD ns)=some (ns.map fun n:Nat=>(n:Int)):=by
  unfold iD
  clear h
  induction ns with
  | nil=>rfl
  | cons n ns ih=>simp only[List.map_cons,L2.bT,ih];rfl
 have m:((c - 1:Nat):Int)∈ns.map fun n:Nat=>(n:Int):=List.mem_map.mpr ⟨c - 1,h.on _ (by omega),rfl⟩
 have e2:nJ (ns.map fun n:Nat=>(n:Int))=((c - 1:Nat):Int):=zl m fun a ha=>by
  obtain⟨v,hv,rfl⟩:=List.mem_map.mp ha
  have:=h.lt v hv
  omega
 show(L2.bT (iD ns)).bind _=_
 rw[e,Option.bind_some,if_neg (List.ne_nil_of_mem m),e2]
theorem uH {ns:List Nat}{c:Nat}(h:vZ ns c):c<=ns.length:=by
 have:=List.nodup_range.length_le_of_subset (l₁:=List.range c) (l₂:=ns) fun v hv=>h.on v (List.mem_range.mp hv)
 rwa [List.length_range] at this
section
variable {κ:Type} [DecidableEq κ] {mk:List (κ×D)->MO}{ky:D->Option κ}
end
noncomputable def kk (N:List (List Int)) (W:Nat) (ns:List Nat) (k:Nat):D:=.tup [.int (na ns k:Nat),.tup ((List.range W).map fun c=>D.int (na ns (gm N k c):Nat))]
theorem wm:∀l:List Int,FE (l.map D.int)=l.map D.int
 | []=>rfl
 | x :: l=>by show nf (.int x) :: FE (l.map D.int)=_;rw[wm l];rfl
noncomputable def next (N:List (List Int)) (W:Nat) (ns:List Nat):List Nat:=jQ ((List.range N.length).map (kk N W ns))
section
variable {f:FM}{LP LQ firsts wk:List D}{z1 x3 x4:Option U}
end
theorem qR {n:Nat}{g:GS}{us:List U}{d:D}{S:SS}(h:g (us.map some++List.replicate (n - us.length) none)=some (.rt (.t d) S)) (ho:aP us S=some []):bM n g us=some (.t d,[]):=by
 unfold bM
 rw[h]
 simp only[Option.bind_some,ho,Option.map_some]
noncomputable def wl (N:List (List Int)) (M:List D) (Rs:List (List Nat)) (s:Nat):List D:=Rs.map fun cs=>g9 M (led (gm N) cs s)
section
variable {T:List (Str×Int)}{N:List (List Int)}{M:List D}{Rs:List (List Nat)}
end
end Sl
end
section
namespace Sk
open PySem PySem.Spec PyProof.Rows L2 Sl
theorem dB (nx:Nat->Nat->Nat):∀(cs ds:List Nat) (s:Nat),led nx (cs++ds) s=led nx ds (led nx cs s)
 | [],_,_=>rfl
 | c :: cs,ds,s=>dB nx cs ds (nx s c)
noncomputable def Vd (W:Nat) (cs:List Nat):Prop:=∀c∈cs,c < W
theorem i6 {W:Nat}{cs ds:List Nat}(a:Vd W cs) (b:Vd W ds):Vd W (cs++ds):=fun c hc=>(List.mem_append.mp hc).elim (a c) (b c)
theorem qT {W c:Nat}(h:c < W):Vd W [c]:=fun d hd=>by rw[List.mem_singleton.mp hd];exact h
noncomputable def Er (s' c' s c:Nat):Prop:=s' < s\/(s'=s/\c' < c)
structure Canon (W n:Nat) (nx:Nat->Nat->Nat) (wd:Nat->D):Prop where
 pos:0 < n
 lt:∀s c,s < n->c < W->nx s c < n
 ord:∀j,0 < j->j < n->∃s c,s < j/\c < W/\nx s c=j/\∀s' c',c' < W->Er s' c' s c->nx s' c' < j
 apart:∀s t,s < n->t < n->s≠t->∃cs,Vd W cs/\wd (led nx cs s)≠wd (led nx cs t)
theorem Canon.fZ {W n:Nat}{nx:Nat->Nat->Nat}{wd:Nat->D}(A:Canon W n nx wd):∀{cs:List Nat}{s:Nat},Vd W cs->s < n->led nx cs s < n
 | [],s,_,hs=>hs
 | c :: cs,s,h,hs=>Canon.fZ A (cs:=cs) (s:=nx s c) (fun d hd=>h d (List.mem_cons_of_mem _ hd)) (A.lt s c hs (h c List.mem_cons_self))
section
variable {W n n':Nat}{nx nx':Nat->Nat->Nat}{wd kF:Nat->D}
noncomputable def Acc (W:Nat) (nx nx':Nat->Nat->Nat) (v:Nat):Prop:=∃cs,Vd W cs/\led nx cs 0=v/\led nx' cs 0=v
theorem wu (A':Canon W n' nx' kF) (h:∀cs,Vd W cs->wd (led nx cs 0)=kF (led nx' cs 0)){rs ra:List Nat}(h1:Vd W rs) (h2:Vd W ra) (e:led nx rs 0=led nx ra 0):led nx' rs 0=led nx' ra 0:=by
 apply Classical.byContradiction
 intro ne
 obtain⟨ds,hd,q⟩:=A'.apart _ _ (A'.fZ h1 A'.pos) (A'.fZ h2 A'.pos) ne
 refine q ?_
 rw[<-dB,<-dB,<-h _ (i6 h1 hd),<-h _ (i6 h2 hd),dB,dB,e]
theorem CN (A : Canon W n nx wd) (A' : Canon W n' nx' kF) (h : ∀ cs, Vd W cs -> wd (led nx cs 0) = kF (led nx' cs 0)) {s : Nat} (hs : s < n) (hs' : s < n') (as : Acc W nx nx' s) (ih : ∀ s', s' < s -> Acc W nx nx' s' /\ ∀ c, c < W -> nx s' c = nx' s' c) : ∀ c, c < W -> nx s c = nx' s c := by
  intro c
  induction c using Nat.strongRecOn with
  | _ c Vo =>
    intro hc
    have er:∀s' c',c' < W->Er s' c' s c->Acc W nx nx' s'/\nx s' c'=nx' s' c':=fun s' c' hc' e=>by
      rcases e with e | ⟨rfl,e⟩
      . exact⟨(ih s' e).1,(ih s' e).2 c' hc'⟩
      . exact⟨as,Vo c' e hc'⟩
    have zy:∀s' c',c' < W->Er s' c' s c->Acc W nx nx' (nx s' c'):=fun s' c' hc' e=>by
      obtain⟨⟨cs,v,e1,e2⟩,eq⟩:=er s' c' hc' e
      refine⟨cs++[c'],i6 v (qT hc'),?_,?_⟩
      . rw[dB,e1];rfl
      . rw[dB,e2,eq];rfl
    have zero:Acc W nx nx' 0:=⟨[],fun c hc=>(by cases hc),rfl,rfl⟩
    obtain⟨rs,Tp,r1,r2⟩:=as
    have ra:led nx (rs++[c]) 0=nx s c:=by rw[dB,r1];rfl
    have rb:led nx' (rs++[c]) 0=nx' s c:=by rw[dB,r2];rfl
    have Gk:Acc W nx nx' (nx s c)->nx s c=nx' s c:=fun⟨cs,v,e1,e2⟩=>by
      have:=wu A' h (i6 Tp (qT hc)) v (by rw[ra,e1])
      rw[rb,e2] at this
      exact this.symm
    have Gm:Acc W nx nx' (nx' s c)->nx s c=nx' s c:=fun⟨cs,v,e1,e2⟩=>by
      have:=wu A (fun cs v=>(h cs v).symm) (i6 Tp (qT hc)) v (by rw[rb,e2])
      rw[ra,e1] at this
      exact this
    apply Classical.byContradiction
    intro ne
    have a0:nx s c≠0:=fun z=>ne (Gk (by rw[z];exact zero))
    have b0:nx' s c≠0:=fun z=>ne (Gm (by rw[z];exact zero))
    have Tq:∀s2 c2,Er s2 c2 s c\/(s2=s/\c2=c)\/Er s c s2 c2:=fun s2 c2=>by unfold Er;omega
    rcases Nat.lt_or_gt_of_ne ne with lt | lt
    . obtain⟨s2,c2,_,hc2,e2,q⟩:=A'.ord (nx s c) (by omega) (Nat.lt_trans lt (A'.lt s c hs' hc))
      rcases Tq s2 c2 with t | ⟨rfl,rfl⟩ | t
      . refine ne (Gk ?_)
        rw[<-e2,<-(er s2 c2 hc2 t).2]
        exact zy s2 c2 hc2 t
      . exact ne e2.symm
      . have:=q s c hc t;omega
    . obtain⟨s2,c2,_,hc2,e2,q⟩:=A.ord (nx' s c) (by omega) (Nat.lt_trans lt (A.lt s c hs hc))
      rcases Tq s2 c2 with t | ⟨rfl,rfl⟩ | t
      . refine ne (Gm ?_)
        rw[<-e2]
        exact zy s2 c2 hc2 t
      . exact ne e2
      . have:=q s c hc t;omega
theorem wz (A : Canon W n nx wd) (A' : Canon W n' nx' kF) (h : ∀ cs, Vd W cs -> wd (led nx cs 0) = kF (led nx' cs 0)) : ∀ s, s < n -> s < n' -> Acc W nx nx' s /\ ∀ c, c < W -> nx s c = nx' s c := by
  intro s
  induction s using Nat.strongRecOn with
  | _ s ih =>
    intro hs hs'
    have ih':∀s',s' < s->Acc W nx nx' s'/\∀c,c < W->nx s' c=nx' s' c:=fun s' l=>ih s' l (by omega) (by omega)
    have as:Acc W nx nx' s:=by
      by_cases z:s=0
      . subst z;exact⟨[],fun c hc=>(by cases hc),rfl,rfl⟩
      . obtain⟨s1,c1,l1,hc1,e1,_⟩:=A.ord s (by omega) hs
        obtain⟨⟨cs,v,a1,a2⟩,q⟩:=ih' s1 l1
        refine⟨cs++[c1],i6 v (qT hc1),?_,?_⟩
        . rw[dB,a1];exact e1
        . rw[dB,a2];show nx' s1 c1=s;rw[<-q c1 hc1,e1]
    exact⟨as,CN A A' h hs hs' as ih'⟩
theorem zz (A:Canon W n nx wd) (A':Canon W n' nx' kF) (h:∀cs,Vd W cs->wd (led nx cs 0)=kF (led nx' cs 0)):¬n < n':=fun lt=>by
 obtain⟨s,c,l,hc,e,_⟩:=A'.ord n A.pos lt
 have:=(wz A A' h s l (by omega)).2 c hc
 have:=A.lt s c l hc
 omega
theorem canon_one (A:Canon W n nx wd) (A':Canon W n' nx' kF) (h:∀cs,Vd W cs->wd (led nx cs 0)=kF (led nx' cs 0)):n=n'/\∀s,s < n->wd s=kF s/\∀c,c < W->nx s c=nx' s c:=by
 have a:=zz A A' h
 have b:=zz A' A fun cs v=>(h cs v).symm
 have e:n=n':=by omega
 refine⟨e,fun s hs=>?_⟩
 obtain⟨⟨cs,v,e1,e2⟩,q⟩:=wz A A' h s hs (by omega)
 refine⟨?_,q⟩
 have:=h cs v
 rw[e1,e2] at this
 exact this
end
section
variable {κ:Type} [DecidableEq κ]
structure Bf (nx:Nat->Nat->Nat) (ky:Nat->κ) (W:Nat) (L:List Nat) (a col:Nat):Prop where
 zero:L[0]? =some 0
 nd:(L.map ky).Nodup
 ord:∀j v,0 < j->L[j]? =some v->∃s c u,s < j/\c < W/\L[s]? =some u/\nx u c=v/\∀s' c' u',c' < W->Er s' c' s c->L[s']? =some u'->∃i,i < j/\(L.map ky)[i]? =some (ky (nx u' c'))
 seen:∀s c u,c < W->Er s c a col->L[s]? =some u->ky (nx u c)∈L.map ky
variable {nx:Nat->Nat->Nat}{ky:Nat->κ}{W:Nat}{L:List Nat}{a col:Nat}
theorem EJ:Bf nx ky W [0] 0 0 where
 zero:=rfl
 nd:=by simp
 ord:=fun j v h0 h=>by
  cases j with
  | zero=>omega
  | succ j=>cases h
 seen:=fun s c u _ e=>by unfold Er at e;omega
theorem Bf.skip (h:Bf nx ky W L a col){u:Nat}(hu:L[a]? =some u) (m:ky (nx u col)∈L.map ky):Bf nx ky W L a (col+1) where
 zero:=h.zero
 nd:=h.nd
 ord:=h.ord
 seen:=fun s c v hc e hv=>by
  by_cases q:Er s c a col
  ·exact h.seen s c v hc q hv
  ·have:s=a/\c=col:=by unfold Er at e q;omega
   obtain⟨rfl,rfl⟩:=this
   rw[hu] at hv
   cases hv
   exact m
theorem Bf.add (h:Bf nx ky W L a col){u:Nat}(hu:L[a]? =some u) (hc:col < W) (m:ky (nx u col)∉L.map ky):Bf nx ky W (L++[nx u col]) a (col+1):=by
 have hl:=(List.getElem?_eq_some_iff.mp hu).1
 have old:∀{s v},s < L.length->((L++[nx u col])[s]? =some v↔L[s]? =some v):=fun {s v} l=>by rw[List.getElem?_append_left l]
 refine⟨?_,?_,fun j v h0 hj=>?_,fun s c v hc' e hv=>?_⟩
 ·exact(old (List.getElem?_eq_some_iff.mp h.zero).1).mpr h.zero
 ·rw[List.map_append,List.nodup_append]
  exact⟨h.nd,by simp,fun x hx y hy e=>m (by rw[List.map_singleton,List.mem_singleton] at hy;rw[<-hy,<-e];exact hx)⟩
 ·by_cases l:j < L.length
  ·obtain⟨s,c,w,b1,b2,b3,b4,b5⟩:=h.ord j v h0 ((old l).mp hj)
   refine⟨s,c,w,b1,b2,(old (by omega)).mpr b3,b4,fun s' c' u' q1 q2 q3=>?_⟩
   have ls:s' < L.length:=by unfold Er at q2;omega
   obtain⟨i,i1,i2⟩:=b5 s' c' u' q1 q2 ((old ls).mp q3)
   refine⟨i,i1,?_⟩
   rw[List.map_append,List.getElem?_append_left (by rw[List.length_map];omega)]
   exact i2
  ·rw[List.getElem?_append_right (by omega)] at hj
   have jl:=(List.getElem?_eq_some_iff.mp hj).1
   have jl:j - L.length < 1:=jl
   have:j=L.length:=by omega
   subst this
   rw[Nat.sub_self] at hj
   cases hj
   refine⟨a,col,u,hl,hc,(old hl).mpr hu,rfl,fun s' c' u' q1 q2 q3=>?_⟩
   have ls:s' < L.length:=by unfold Er at q2;omega
   obtain⟨i,i1⟩:=List.getElem?_of_mem (h.seen s' c' u' q1 q2 ((old ls).mp q3))
   have il:=(List.getElem?_eq_some_iff.mp i1).1
   rw[List.length_map] at il
   exact⟨i,il,by rw[List.map_append,List.getElem?_append_left (by rw[List.length_map];exact il)];exact i1⟩
 ·have ls:s < L.length:=by unfold Er at e;omega
  rw[List.map_append]
  by_cases q:Er s c a col
  ·exact List.mem_append_left _ (h.seen s c v hc' q ((old ls).mp hv))
  ·have:s=a/\c=col:=by unfold Er at e q;omega
   obtain⟨rfl,rfl⟩:=this
   have:=(old ls).mp hv
   rw[hu] at this
   cases this
   exact List.mem_append_right _ (by simp)
theorem Bf.row (h:Bf nx ky W L a W):Bf nx ky W L (a+1) 0 where
 zero:=h.zero
 nd:=h.nd
 ord:=h.ord
 seen:=fun s c u hc e hu=>h.seen s c u hc (by unfold Er at e ⊢;omega) hu
noncomputable def ix (ky:Nat->κ) (L:List Nat) (v:Nat):Nat:=(L.map ky).idxOf (ky v)
noncomputable def sO (nx:Nat->Nat->Nat) (ky:Nat->κ) (L:List Nat) (s c:Nat):Nat:=ix ky L (nx (na L s) c)
theorem Gn {v:Nat}(h:ky v∈L.map ky):ix ky L v < L.length:=by
 have:=List.idxOf_lt_length_of_mem h
 rwa [List.length_map] at this
theorem LR {v:Nat}(h:ky v∈L.map ky):ky (na L (ix ky L v))=ky v:=by
 have l:=Gn h
 have e:(L.map ky)[ix ky L v]? =some (ky v):=by
  rw[List.getElem?_eq_getElem (by rw[List.length_map];exact l)]
  congr 1
  exact List.getElem_idxOf (by rw[List.length_map];exact l)
 rw[List.getElem?_map,cj l] at e
 exact Option.some.inj e
theorem zA (nd:(L.map ky).Nodup){i:Nat}{v:Nat}(h:(L.map ky)[i]? =some (ky v)):ix ky L v=i:=by
 obtain⟨hl,e⟩:=List.getElem?_eq_some_iff.mp h
 unfold ix
 rw[<-e]
 exact nd.idxOf_getElem i hl
structure LS (nx:Nat->Nat->Nat) (wd:Nat->D) (ky:Nat->κ) (W:Nat) (P:Nat->Prop):Prop where
 zero:P 0
 cl:∀s c,P s->c < W->P (nx s c)
 eq:∀s t c,P s->P t->c < W->ky s=ky t->ky (nx s c)=ky (nx t c)
 word:∀s t,P s->P t->ky s=ky t->wd s=wd t
 ne:∀s t,P s->P t->ky s≠ky t->∃cs,Vd W cs/\wd (led nx cs s)≠wd (led nx cs t)
theorem canon_of {wd:Nat->D}{P:Nat->Prop}(C:LS nx wd ky W P) (h:Bf nx ky W L a 0) (hl:L.length<=a) (hP:∀v∈L,P v):Canon W L.length (sO nx ky L) (fun s=>wd (na L s))/\∀cs,Vd W cs->wd (na L (led (sO nx ky L) cs 0))=wd (led nx cs 0):=by
 have l0:0 < L.length:=(List.getElem?_eq_some_iff.mp h.zero).1
 have n0:na L 0=0:=by have:=cj l0;rw[h.zero] at this;exact(Option.some.inj this).symm
 have mem:∀s c,s < L.length->c < W->ky (nx (na L s) c)∈L.map ky:=fun s c hs hc=>h.seen s c _ hc (by unfold Er;omega) (cj hs)
 have pn:∀s,s < L.length->P (na L s):=fun s hs=>hP _ (dR hs)
 have lt:∀s c,s < L.length->c < W->sO nx ky L s c < L.length:=fun s c hs hc=>Gn (mem s c hs hc)
 have way:∀(cs:List Nat) (s v:Nat),Vd W cs->s < L.length->P v->ky (na L s)=ky v->led (sO nx ky L) cs s < L.length/\ky (na L (led (sO nx ky L) cs s))=ky (led nx cs v)/\P (led nx cs v):=by
  intro cs
  induction cs with
  | nil=>intro s v _ hs hv e;exact⟨hs,e,hv⟩
  | cons c cs ih=>
   intro s v hc hs hv e
   have hcc:=hc c List.mem_cons_self
   refine ih (sO nx ky L s c) (nx v c) (fun d hd=>hc d (List.mem_cons_of_mem _ hd)) (lt s c hs hcc) (C.cl v c hv hcc) ?_
   unfold sO
   rw[LR (mem s c hs hcc)]
   exact C.eq _ _ c (pn s hs) hv hcc e
 refine⟨⟨l0,lt,fun j j0 hj=>?_,fun s t hs ht ne=>?_⟩,fun cs hc=>?_⟩
 ·obtain⟨s,c,u,b1,b2,b3,b4,b5⟩:=h.ord j _ j0 (cj hj)
  have us:na L s=u:=by have:=cj (ns:=L) (i:=s) (by omega);rw[b3] at this;exact(Option.some.inj this).symm
  refine⟨s,c,b1,b2,?_,fun s' c' q1 q2=>?_⟩
  ·unfold sO
   rw[us,b4]
   exact zA h.nd (by rw[List.getElem?_map,cj hj];rfl)
  ·have ls:s' < L.length:=by unfold Er at q2;omega
   obtain⟨i,i1,i2⟩:=b5 s' c' _ q1 q2 (cj ls)
   unfold sO
   rw[zA h.nd i2]
   exact i1
 ·have Vp:ky (na L s)≠ky (na L t):=fun e=>ne (by
   have a1:=zA h.nd (v:=na L s) (i:=s) (by rw[List.getElem?_map,cj hs];rfl)
   have a2:=zA h.nd (v:=na L t) (i:=t) (by rw[List.getElem?_map,cj ht];rfl)
   rw[<-a1,<-a2]
   unfold ix
   rw[e])
  obtain⟨cs,vc,q⟩:=C.ne _ _ (pn s hs) (pn t ht) Vp
  refine⟨cs,vc,fun e=>q ?_⟩
  obtain⟨w1,w2,w3⟩:=way cs s _ vc hs (pn s hs) rfl
  obtain⟨v1,v2,v3⟩:=way cs t _ vc ht (pn t ht) rfl
  rw[<-C.word _ _ (pn _ w1) w3 w2,<-C.word _ _ (pn _ v1) v3 v2]
  exact e
 ·obtain⟨w1,w2,w3⟩:=way cs 0 0 hc l0 C.zero (by rw[n0])
  exact C.word _ _ (pn _ w1) w3 w2
end
noncomputable def Fo (ns:List Nat):Prop:=∀i,i < ns.length->∀k,k < na ns i->∃i',i' < i/\na ns i'=k
theorem zB {κ:Type} [DecidableEq κ]:∀(l m acc:List κ),lT acc (l++m)=lT (lT acc l) m
 | [],m,acc=>rfl
 | x :: l,m,acc=>zB l m _
theorem zC {κ:Type} [DecidableEq κ] (ks:List κ):Fo (jQ ks):=fun i hi k hk=>by
 rw[qK] at hi
 have ei:ks[i]? =some ks[i]:=List.getElem?_eq_getElem hi
 rw[pY ei] at hk
 have es:ks=ks.take i++ks[i] :: ks.drop (i+1):=by rw[<-List.drop_eq_getElem_cons hi,List.take_append_drop]
 have ed:lT [] ks=lT (if ks[i]∈lT [] (ks.take i) then lT [] (ks.take i) else lT [] (ks.take i)++[ks[i]]) (ks.drop (i+1)):=by
  conv=>lhs;rw[es]
  rw[zB]
  rfl
 generalize hx:ks[i]=x at *
 generalize hacc:lT [] (ks.take i)=acc at *
 obtain⟨r,er⟩:=zw (ks.drop (i+1)) (if x∈acc then acc else acc++[x])
 rw[er] at ed
 have kl:k < acc.length/\(lT [] ks)[k]? =acc[k]?:=by
  by_cases m:x∈acc
  ·rw[if_pos m] at ed
   rw[ed,List.idxOf_append,if_pos m] at hk
   have:=List.idxOf_lt_length_of_mem m
   exact⟨by omega,by rw[ed,List.getElem?_append_left (by omega)]⟩
  ·rw[if_neg m] at ed
   rw[ed,List.append_assoc,List.idxOf_append,if_neg m] at hk
   have z:([x]++r).idxOf x=0:=by show(x :: r).idxOf x=0;simp
   rw[z] at hk
   exact⟨by omega,by rw[ed,List.append_assoc,List.getElem?_append_left (by omega)]⟩
 obtain⟨hk',e⟩:=kl
 rw[List.getElem?_eq_getElem hk'] at e
 have m:acc[k]∈ks.take i:=by
  have mm:∀y,y∈acc->y∈lT [] (ks.take i):=fun y hy=>by rw[hacc];exact hy
  rcases kj.mp (mm _ (List.getElem_mem hk')) with z | z
  ·cases z
  ·exact z
 obtain⟨i',hi',e'⟩:=List.getElem_of_mem m
 rw[List.length_take] at hi'
 rw[List.getElem_take] at e'
 refine⟨i',by omega,?_⟩
 rw[pY (k:=acc[k]) (by rw[List.getElem?_eq_getElem (by omega),e'])]
 obtain⟨hl,e2⟩:=List.getElem?_eq_some_iff.mp e
 rw[<-e2]
 exact(yc List.nodup_nil).idxOf_getElem k hl
section
variable {ns:List Nat}{c:Nat}
theorem i7 {k:Nat}(h:vZ ns c) (hk:k < c):ns.idxOf k < ns.length/\na ns (ns.idxOf k)=k:=by
 have l:=List.idxOf_lt_length_of_mem (h.on k hk)
 refine⟨l,?_⟩
 have a:=cj l
 rw[List.getElem?_eq_getElem l,List.getElem_idxOf l] at a
 exact(Option.some.inj a).symm
theorem CO {i:Nat}(hi:i < ns.length):ns.idxOf (na ns i)<=i:=by
 apply Classical.byContradiction
 intro h
 have:=List.not_of_lt_findIdx (p:=fun x=>x == na ns i) (xs:=ns) (i:=i) (by show i < ns.idxOf (na ns i);omega)
 have e:=cj hi
 rw[List.getElem?_eq_getElem hi] at e
 rw[Option.some.inj e] at this
 simp at this
theorem lU {i k:Nat}(hi:i < ns.length) (h:na ns i=k):ns.idxOf k<=i:=by rw[<-h];exact CO hi
theorem CP (h:na ns 0=0) (h0:0 < ns.length):ns.idxOf 0=0:=by have:=lU h0 h;omega
theorem EK (f:Fo ns) (h0:0 < ns.length):na ns 0=0:=by
 apply Classical.byContradiction
 intro h
 obtain⟨i',l,_⟩:=f 0 h0 0 (by omega)
 omega
theorem CQ (f:Fo ns){i k:Nat}(hi:i < ns.length) (h:i < ns.idxOf k):na ns i < k:=by
 apply Classical.byContradiction
 intro q
 by_cases e:na ns i=k
 ·have:=lU hi e;omega
 ·obtain⟨i',l,e'⟩:=f i hi k (by omega)
  have:=lU (ns:=ns) (i:=i') (by omega) e'
  omega
end
theorem qU {c i:Nat}(h:i < c){f:Nat->Nat}:na ((List.range c).map f) i=f i:=by
 unfold na
 rw[List.getD_eq_getElem?_getD,List.getElem?_map,List.getElem?_range h]
 rfl
section
variable {nx:Nat->Nat->Nat}{W:Nat}{L ns:List Nat}{c a:Nat}
noncomputable def rep (L ns:List Nat) (c:Nat):List Nat:=(List.range c).map fun k=>na L (ns.idxOf k)
noncomputable def oR (L ns:List Nat) (v:Nat):Nat:=na ns (L.idxOf v)
theorem Ik (nd:L.Nodup){i:Nat}(h:i < L.length):L.idxOf (na L i)=i:=by
 have e:=cj h
 rw[List.getElem?_eq_getElem h] at e
 have:=nd.idxOf_getElem i h
 rw[Option.some.inj e] at this
 exact this
theorem jB {v:Nat}(h:v∈L):L.idxOf v < L.length/\na L (L.idxOf v)=v:=by
 have l:=List.idxOf_lt_length_of_mem h
 refine⟨l,?_⟩
 have a:=cj l
 rw[List.getElem?_eq_getElem l,List.getElem_idxOf l] at a
 exact(Option.some.inj a).symm
theorem CS (nd:L.Nodup) (hl:ns.length=L.length) (h:vZ ns c){k:Nat}(hk:k < c):oR L ns (na L (ns.idxOf k))=k:=by
 obtain⟨l,e⟩:=i7 h hk
 unfold oR
 rw[Ik nd (by omega),e]
theorem zD (nd:L.Nodup) (hl:ns.length=L.length) (h:vZ ns c):(rep L ns c).map (oR L ns)=List.range c:=by
 unfold rep
 rw[List.map_map]
 conv=>rhs;rw[<-List.map_id (List.range c)]
 exact List.map_congr_left fun k hk=>CS nd hl h (List.mem_range.mp hk)
theorem Il (hB:Bf nx (fun v=>v) W L a 0) (ha:L.length<=a) (hl:ns.length=L.length) (h:vZ ns c) (f:Fo ns) (st:∀s t col,s < L.length->t < L.length->col < W->na ns s=na ns t->oR L ns (nx (na L s) col)=oR L ns (nx (na L t) col)):
  Bf nx (oR L ns) W (rep L ns c) (rep L ns c).length 0:=by
 have nd:L.Nodup:=by have:=hB.nd;rwa [List.map_id'] at this
 have l0:0 < L.length:=(List.getElem?_eq_some_iff.mp hB.zero).1
 have n0:=EK f (by omega)
 have c0:0 < c:=by have:=h.lt _ (dR (ns:=ns) (i:=0) (by omega));omega
 have rl:(rep L ns c).length=c:=by unfold rep;rw[List.length_map,List.length_range]
 have rm:=zD nd hl h
 have rat:∀{k u},(rep L ns c)[k]? =some u->k < c/\u=na L (ns.idxOf k):=fun {k u} e=>by
  have l:=(List.getElem?_eq_some_iff.mp e).1
  rw[rl] at l
  refine⟨l,?_⟩
  unfold rep at e
  rw[List.getElem?_map,List.getElem?_range l] at e
  exact(Option.some.inj e).symm
 have LU:∀{k},k < c->(rep L ns c)[k]? =some (na L (ns.idxOf k)):=fun {k} l=>by
  unfold rep
  rw[List.getElem?_map,List.getElem?_range l]
  rfl
 have lv:∀{i v},L[i]? =some v->i < L.length/\na L i=v:=fun {i v} e=>by
  have l:=(List.getElem?_eq_some_iff.mp e).1
  have:=cj l
  rw[e] at this
  exact⟨l,(Option.some.inj this).symm⟩
 have mem:∀s col,s < L.length->col < W->nx (na L s) col∈L:=fun s col hs hc=>by
  have:=hB.seen s col _ hc (by unfold Er;omega) (cj hs)
  rwa [List.map_id'] at this
 refine⟨?_,by rw[rm];exact List.nodup_range,fun j v j0 hv=>?_,fun s col u hc e hu=>?_⟩
 ·rw[LU c0,CP n0 (by omega)]
  have:=cj l0
  rw[hB.zero] at this
  rw[<-Option.some.inj this]
 ·obtain⟨jc,rfl⟩:=rat hv
  obtain⟨pl,pe⟩:=i7 h jc
  have p0:0 < ns.idxOf j:=by
   apply Classical.byContradiction
   intro z
   have:ns.idxOf j=0:=by omega
   rw[this] at pe
   omega
  obtain⟨s0,c0,u0,b1,b2,b3,b4,b5⟩:=hB.ord (ns.idxOf j) _ p0 (cj (by omega))
  obtain⟨ls,es⟩:=lv b3
  have early:∀s' c',s' < L.length->c' < W->Er s' c' s0 c0->oR L ns (nx (na L s') c') < j:=fun s' c' q1 q2 q3=>by
   obtain⟨i,i1,i2⟩:=b5 s' c' _ q2 q3 (cj q1)
   rw[List.map_id'] at i2
   obtain⟨il,ie⟩:=lv i2
   unfold oR
   rw[<-ie,Ik nd il]
   exact CQ f (by omega) i1
  have gc:na ns s0 < c:=h.lt _ (dR (by omega))
  have X5:ns.idxOf (na ns s0)<=s0:=CO (by omega)
  obtain⟨X6,Vq⟩:=i7 h gc
  have req:ns.idxOf (na ns s0)=s0:=by
   apply Classical.byContradiction
   intro ne
   have q:=early (ns.idxOf (na ns s0)) c0 (by omega) b2 (.inl (by omega))
   rw[st _ s0 c0 (by omega) ls b2 Vq,es,b4,CS nd hl h jc] at q
   omega
  refine⟨na ns s0,c0,u0,CQ f (by omega) b1,b2,?_,b4,fun s' c' u' q1 q2 q3=>?_⟩
  ·rw[LU gc,req,es]
  ·obtain⟨sc,rfl⟩:=rat q3
   obtain⟨sl,se⟩:=i7 h sc
   have er:Er (ns.idxOf s') c' s0 c0:=by
    rcases q2 with q | ⟨rfl,q⟩
    ·left
     apply Classical.byContradiction
     intro z
     by_cases e:ns.idxOf s'=s0
     ·rw[e] at se;omega
     ·have:=CQ f (i:=s0) (k:=s') (by omega) (by omega)
      omega
    ·exact .inr ⟨req,q⟩
   have q:=early (ns.idxOf s') c' (by omega) q1 er
   refine⟨_,q,?_⟩
   rw[rm,List.getElem?_range (by omega)]
 ·obtain⟨sc,rfl⟩:=rat hu
  obtain⟨sl,se⟩:=i7 h sc
  rw[rm,List.mem_range]
  have m:=mem (ns.idxOf s) col (by omega) hc
  obtain⟨ml,me⟩:=jB m
  exact h.lt _ (dR (by omega))
end
end Sk
end
section
namespace Sk
open PySem PySem.Spec PyProof.Rows L2 Sw Sl
structure pN (W:Nat) (N:List (List Int)):Prop where
 pos:0 < N.length
 few:N.length<=900
 row:∀r∈N,r.length=W/\∀v∈r,0<=v/\v < N.length
theorem rw_len' {W:Nat}{N:List (List Int)}{s:Nat}(mo:pN W N) (h:s < N.length):(rw' N s).length=W:=(mo.row _ (List.mem_of_getElem? (rw_get h))).1
theorem qV {W:Nat}{N:List (List Int)}{s c:Nat}(mo:pN W N) (h:s < N.length) (hc:c < W):(rw' N s)[c]? =some (gm N s c:Nat)/\gm N s c < N.length:=by
 obtain⟨r1,r2⟩:=mo.row _ (List.mem_of_getElem? (rw_get h))
 have hl:c < (rw' N s).length:=by omega
 have v:=r2 _ (List.getElem_mem hl)
 unfold gm
 rw[List.getD_eq_getElem?_getD,List.getElem?_eq_getElem hl]
 simp only[Option.getD_some]
 exact⟨by congr 1;omega,by omega⟩
theorem Gp {W:Nat}{N:List (List Int)}{s:Nat}(mo:pN W N) (h:s < N.length):(rw' N s).map D.int=(List.range W).map fun c=>D.int (gm N s c:Nat):=by
 apply List.ext_getElem?
 intro c
 rw[List.getElem?_map,List.getElem?_map]
 by_cases q:c < W
 ·rw[(qV mo h q).1,List.getElem?_range q];rfl
 ·rw[List.getElem?_eq_none (by rw[rw_len' mo h];omega),List.getElem?_eq_none (by rw[List.length_range];omega)];rfl
theorem uI {W:Nat}{N:List (List Int)}{s:Nat}(mo:pN W N) (h:s < N.length):dW (N.map Sq.bT) (s:Int)=some (.tup ((List.range W).map fun c=>D.int (gm N s c:Nat))):=by
 rw[EG h,Gp mo h]
structure Sn (L:List Nat) (kvs:List (Key×D)):Prop where
 yes:∀v:Nat,v∈L->(bA kvs (.inl (v:Int))).isSome=true
 no:∀v:Nat,v∉L->bA kvs (.inl (v:Int))=none
 few:kvs.length<=L.length
theorem Sn.add {L:List Nat}{kvs:List (Key×D)}(h:Sn L kvs){v:Nat}{d:D}(m:v∉L):Sn (L++[v]) (putD kvs (.inl (v:Int)) d):=by
 have e:=h.no v m
 rw[zx e]
 refine⟨fun u hu=>?_,fun u hu=>?_,?_⟩
 ·by_cases q:u=v
  ·subst q;rw[look_same e];rfl
  ·rw[qO (by intro z;injection z with z;exact q (by omega))]
   rcases List.mem_append.mp hu with z | z
   ·exact h.yes u z
   ·exact absurd (List.mem_singleton.mp z) q
 ·have q:u≠v:=fun z=>hu (by rw[z];simp)
  rw[qO (by intro z;injection z with z;exact q (by omega))]
  exact h.no u fun z=>hu (List.mem_append_left _ z)
 ·rw[List.length_append,List.length_append];have:=h.few;simp;omega
noncomputable def fB:GS:=
 (oG (qB (oK true 3 (eF (ak 6)))) (aZ (qE 3 (eF (ak 6)) (eC (.bl true)))
 (pA (eT (eM 2 hAppend (aa (eF (ak 6)) aC))))) gX)
noncomputable def kq:GS:=
 (aZ (bJ 5 (eT (bg 0 (bg 2 (eF (ak 4))))))
 (aZ (j9 (bName 6) (cU (eF (ak 5))) (fB))
 (Ec (fun i j=>i+j) 4 (eC (.int 1)))))
noncomputable def ia:GS:=
 (aZ (bJ 2 (eP vN (aa (eF (ak 1)) aC)))
 (aZ (bJ 3 (eP nM (aa (eF (bQ [] (cU (eF (ak 1))) aV (eF (eP dF (aa (eF (ak 0)) (aa (eC (.bl true)) aC)))))) aC)))
 (aZ (bJ 4 (eT (eC (.int 0))))
 (aZ (mY 100000 (qB (eF (eP D5 (aa (eF (ak 4)) (aa (jA 2) aC))))) (kq))
 (cT (ak 2))))))
noncomputable def reachF:FM:=bM 7 ia
theorem AH:∀us r,reachF us=some r->bM 7 ia us=some r:=fun _ _ h=>h
section
variable {z0 z1 z4 z5:Option U}{fs:List D}{kvs:List (Key×D)}{v:Int}
theorem Im (h:(bA kvs (.inl v)).isSome=true):fB [z0,z1,some (.m (.lst fs)),some (.m (.dct kvs)),z4,z5,some (.t (.int v))]=some (.nx [z0,z1,some (.m (.lst fs)),some (.m (.dct kvs)),z4,z5,some (.t (.int v))]):=by
 have e:Av (.m (.dct kvs)) (.int v)=some true:=by rw[CJ.has kvs (.int v) (.inl v) rfl,h]
 simp[fB,oK,e]
theorem LV (h:bA kvs (.inl v)=none) (hk:kvs.length < 100000) (hf:fs.length < 100000):fB [z0,z1,some (.m (.lst fs)),some (.m (.dct kvs)),z4,z5,some (.t (.int v))]=some (.nx [z0,z1,some (.m (.lst (fs++[.int v]))),some (.m (.dct (putD kvs (.inl v) (.bl true)))),z4,z5,some (.t (.int v))]):=by
 have e:Av (.m (.dct kvs)) (.int v)=some false:=by rw[CJ.has kvs (.int v) (.inl v) rfl,h];rfl
 have k:keyOf (.int v)=some (.inl v):=rfl
 simp[fB,oK,e,k,hk,hf,kg,B6,hAppend]
end
theorem EL (L:List Nat) (v:Nat):iD (L++[v])=iD L++[.int (v:Nat)]:=by unfold iD;rw[List.map_append];rfl
theorem qW {L:List Nat}{n:Nat}(nd:L.Nodup) (h:∀v∈L,v < n):L.length<=n:=by
 have:=nd.length_le_of_subset (l₂:=List.range n) fun v hv=>List.mem_range.mpr (h v hv)
 rwa [List.length_range] at this
section
variable {W:Nat}{N:List (List Int)}{z0 z1 z4 z5:Option U}
theorem Io (mo : pN W N) {L : List Nat} {kvs : List (Key × D)} {a u : Nat} {x6 : Option U} (h : Bf (gm N) (fun v => v) W L a 0) (hL : ∀ v ∈ L, v < N.length) (hu : L[a]? = some u) (sn : Sn L kvs) (h6 : mC x6 = false) :
    ∃L' kvs' AI,loop (bName 6) fB ((List.range W).map fun c=>D.int (gm N u c:Nat)) [z0,z1,some (.m (.lst (iD L))),some (.m (.dct kvs)),z4,z5,x6]=some (.nx [z0,z1,some (.m (.lst (iD L'))),some (.m (.dct kvs')),z4,z5,AI])/\Bf (gm N) (fun v=>v) W L' a W/\(∀v∈L',v < N.length)/\Sn L' kvs'/\mC AI=false/\L'[a]? =some u:=by
  have few:=mo.few
  have un:u < N.length:=hL u (List.mem_of_getElem? hu)
  obtain⟨S',e,L',kvs',AI,b1,b2,b3,b4,b5,rfl⟩:=nO (bd:=bName 6) (body:=fB) ((List.range W).map fun c=>D.int (gm N u c:Nat))
    (fun j S=>∃L' kvs' AI,Bf (gm N) (fun v=>v) W L' a j/\(∀v∈L',v < N.length)/\Sn L' kvs'/\mC AI=false/\L'[a]? =some u/\S=[z0,z1,some (.m (.lst (iD L'))),some (.m (.dct kvs')),z4,z5,AI])
    _ ⟨L,kvs,x6,h,hL,sn,h6,hu,rfl⟩ (by
    rintro j d S hd ⟨L',kvs',AI,b1,b2,b3,b4,b5,rfl⟩
    have hj:j < W:=by
      have:=(List.getElem?_eq_some_iff.mp hd).1
      rwa [List.length_map,List.length_range] at this
    rw[List.getElem?_map,List.getElem?_range hj] at hd
    have hd:D.int (gm N u j:Nat)=d:=Option.some.inj hd
    subst hd
    have nd:L'.Nodup:=by have:=b1.nd;rwa [List.map_id'] at this
    have lf:=qW nd b2
    refine⟨[z0,z1,some (.m (.lst (iD L'))),some (.m (.dct kvs')),z4,z5,some (.t (.int (gm N u j:Nat)))],?_⟩
    by_cases m:gm N u j∈L'
    . refine⟨_,?_,Im (b3.yes _ m),L',kvs',some (.t (.int (gm N u j:Nat))),b1.skip b5 (by rw[List.map_id'];exact m),b2,b3,rfl,b5,rfl⟩
      generalize ((gm N u j:Nat):Int)=jj
      simp[-gZ,fO,b4]
    . have fw:=b3.few
      refine⟨_,?_,LV (b3.no _ m) (by omega) (by unfold iD;rw[List.length_map];omega),L'++[gm N u j],_,some (.t (.int (gm N u j:Nat))),b1.add b5 hj (by rw[List.map_id'];exact m),fun v hv=>?_,b3.add m,rfl,?_,by rw[EL]⟩
      . generalize ((gm N u j:Nat):Int)=jj
        simp[-gZ,fO,b4]
      . rcases List.mem_append.mp hv with q | q
        . exact b2 v q
        . rw[List.mem_singleton.mp q];exact(qV mo un hj).2
      . rw[List.getElem?_append_left (List.getElem?_eq_some_iff.mp b5).1];exact b5)
  rw[List.length_map,List.length_range] at b1
  exact⟨L',kvs',AI,e,b1,b2,b3,b4,b5⟩
theorem EM {nt:D}{fs row:List D}{kvs kvs':List (Key×D)}{fs':List D}{a u:Int}{x5 x6 AI:Option U}(h5:mC x5=false) (e1:dW fs a=some (.int u)) (e2:dZ (.t nt) (.int u)=some (.tup row))
  (lp:loop (bName 6) fB row [some (.t nt),z1,some (.m (.lst fs)),some (.m (.dct kvs)),some (.t (.int a)),some (.t (.tup row)),x6]=some (.nx [some (.t nt),z1,some (.m (.lst fs')),some (.m (.dct kvs')),some (.t (.int a)),some (.t (.tup row)),AI])):
  kq [some (.t nt),z1,some (.m (.lst fs)),some (.m (.dct kvs)),some (.t (.int a)),x5,x6]=some (.nx [some (.t nt),z1,some (.m (.lst fs')),some (.m (.dct kvs')),some (.t (.int (a+1))),some (.t (.tup row)),AI]):=by
 simp[-gZ,fO,kq,e1,e2,h5,fY,lp]
theorem EN {nt:D}{fs:List D}{kvs:List (Key×D)}{a:Nat}{x5 x6:Option U}:(qB (eF (eP D5 (aa (eF (ak 4)) (aa (jA 2) aC))))) [some (.t nt),z1,some (.m (.lst fs)),some (.m (.dct kvs)),some (.t (.int a)),x5,x6]=some (decide (a < fs.length),[some (.t nt),z1,some (.m (.lst fs)),some (.m (.dct kvs)),some (.t (.int a)),x5,x6]):=by
 simp
theorem wA {nt:D}{rows:List D}(h:nt= .tup rows\/nt= .lst rows) (i:Int):dZ (.t nt) (.int i)=dW rows i:=by rcases h with rfl | rfl <;> rfl
theorem zE {nt:D}(mo:pN W N) (hn:nt= .tup (N.map Sq.bT)\/nt= .lst (N.map Sq.bT)):∀(m a:Nat) (L:List Nat) (kvs:List (Key×D)) (x5 x6:Option U),N.length < a+m->a<=L.length->Bf (gm N) (fun v=>v) W L a 0->(∀v∈L,v < N.length)->Sn L kvs->mC x5=false->mC x6=false->
    ∃L' kvs' z4 z5 z6,kP (qB (eF (eP D5 (aa (eF (ak 4)) (aa (jA 2) aC))))) kq m [some (.t nt),z1,some (.m (.lst (iD L))),some (.m (.dct kvs)),some (.t (.int a)),x5,x6]=some (.nx [some (.t nt),z1,some (.m (.lst (iD L'))),some (.m (.dct kvs')),z4,z5,z6])/\(∀v∈L',v < N.length)/\∃a',Bf (gm N) (fun v=>v) W L' a' 0/\L'.length<=a'
  | 0,a,L,kvs,x5,x6,hm,ha,h,hL,sn,h5,h6=>by
    have nd:L.Nodup:=by have:=h.nd;rwa [List.map_id'] at this
    have lf:=qW nd hL
    omega
  | m + 1, a, L, kvs, x5, x6, hm, ha, h, hL, sn, h5, h6 => by
    have il:(iD L).length=L.length:=by unfold iD;rw[List.length_map]
    unfold kP
    rw[show(qB (eF (eP D5 (aa (eF (ak 4)) (aa (jA 2) aC))))) [some (.t nt),z1,some (.m (.lst (iD L))),some (.m (.dct kvs)),some (.t (.int a)),x5,x6]=_ from EN,Option.bind_some,il]
    by_cases c:a < L.length
    . rw[decide_eq_true c]
      simp only[if_true]
      have hu:=cj c
      have un:na L a < N.length:=hL _ (dR c)
      obtain⟨L',kvs',AI,e,b1,b2,b3,b4,b5⟩:=Io (z0:=some (.t nt)) (z1:=z1) (z4:=some (.t (.int a))) (z5:=some (.t (.tup ((List.range W).map fun c=>D.int (gm N (na L a) c:Nat))))) mo h hL hu sn h6
      have tn:=EM (z1:=z1) h5 (qN c) (by rw[wA hn];exact uI mo un) e
      have al:=(List.getElem?_eq_some_iff.mp b5).1
      rw[tn,Option.bind_some]
      exact zE mo hn m (a+1) L' kvs' _ AI (by omega) (by omega) b1.row b2 b3 rfl b4
    . rw[decide_eq_false c]
      exact⟨L,kvs,_,x5,x6,rfl,hL,a,h,by omega⟩
end
theorem CT {W:Nat}{N:List (List Int)}{nt:D}(mo:pN W N) (hn:nt= .tup (N.map Sq.bT)\/nt= .lst (N.map Sq.bT)):∃L,reachF [.t nt,.t (.lst [.int 0])]=some (.m (.lst (iD L)),[])/\(∀v∈L,v < N.length)/\∃a,Bf (gm N) (fun v=>v) W L a 0/\L.length<=a:=by
 have few:=mo.few
 obtain⟨L,kvs,z4,z5,z6,e,hL,hB⟩:=zE (z1:=some (.t (.lst [.int 0]))) mo hn 100000 0 [0] [(.inl 0,.bl true)] none none (by omega) (Nat.zero_le _) EJ (fun v hv=>by rw[List.mem_singleton.mp hv];exact mo.pos)
  ⟨fun v hv=>(by rw[List.mem_singleton.mp hv];rfl),fun v hv=>(by
   unfold bA
   rw[List.find?_cons_of_neg (by simp only[decide_eq_true_eq];intro z;injection z with z;exact hv (by rw[List.mem_singleton];omega))]
   rfl),Nat.le_refl _⟩ rfl rfl
 refine⟨L,?_,hL,hB⟩
 have all:∃a b S,ia [some (.t nt),some (.t (.lst [.int 0])),none,none,none,none,none]=some (.rt (.m (.lst (iD L))) (a :: b :: S)):=by
  unfold ia
  rw[Sq.bE (S1:=[some (.t nt),some (.t (.lst [.int 0])),some (.m (.lst [.int 0])),none,none,none,none]) rfl,
   Sq.bE (S1:=[some (.t nt),some (.t (.lst [.int 0])),some (.m (.lst [.int 0])),some (.m (.dct [(.inl 0,.bl true)])),none,none,none]) (by simp[fY,cF,br,bS,aP,keyOf]),
   Sq.bE (S1:=[some (.t nt),some (.t (.lst [.int 0])),some (.m (.lst (iD [0]))),some (.m (.dct [(.inl 0,.bl true)])),some (.t (.int ((0:Nat):Int))),none,none]) rfl,Sq.bE (show mY 100000 _ _ _=_ from e)]
  generalize iD L=l
  exact⟨_,_,_,by simp;exact⟨rfl,rfl,rfl⟩⟩
 obtain⟨a,b,S,all⟩:=all
 show(ia [some (.t nt),some (.t (.lst [.int 0])),none,none,none,none,none]).bind _=_
 rw[all]
 rfl
theorem AJ (cap:List Nat) (gi:GI) (q:GT) (g:GD) (S:SS):qI cap gi q g S=(gi S).bind fun p=>if p.1.length<=100000 then(fy cap q g p.1 p.2 []).map fun r=>(.m (.lst r.1),r.2) else none:=rfl
theorem wB (cap : List Nat) (q : GT) (g : GD) (a b : D) (ds : List D) (S : SS) (acc : List D) : fy cap q g (.tup [a, b] :: ds) S acc = (fy cap q g [.tup [a, b]] S acc).bind fun r => fy cap q g ds r.2 r.1 := by
  simp only[fy]
  cases bS S cap with
  | none=>rfl
  | some us =>
    simp only[Option.bind_some]
    split
    . cases bX S us with
      | none=>rfl
      | some ws =>
        simp only[Option.bind_some]
        cases q (some (.t a) :: some (.t b) :: ws.map some) with
        | none=>rfl
        | some p=>
          simp only[Option.bind_some]
          split
          . cases g p.2 with
            | none=>rfl
            | some r=>
              simp only[Option.bind_some]
              cases aP (.t a :: .t b :: ws) r.2 with
              | none=>rfl
              | some outs=>
                simp only[Option.bind_some]
                cases wb us outs S with
                | none=>rfl
                | some S'=>rfl
          . cases aP (.t a :: .t b :: ws) p.2 with
            | none=>rfl
            | some outs=>
              simp only[Option.bind_some]
              cases wb us outs S with
              | none=>rfl
              | some S'=>rfl
    . rfl
theorem sP {cap:List Nat}{g:GD}{S:SS}{α:Type}(fa fb f:α->D):∀(l:List α) (acc:List D),(∀x∈l,∀acc,fy cap aV g [.tup [fa x,fb x]] S acc=some (acc++[f x],S))->fy cap aV g (l.map fun x=>.tup [fa x,fb x]) S acc=some (acc++l.map f,S)
 | [],acc,_=>by simp[fy]
 | x :: l,acc,h=>by
  rw[List.map_cons,wB,h x List.mem_cons_self,Option.bind_some]
  refine(sP fa fb f l (acc++[f x]) fun y hy=>h y (List.mem_cons_of_mem _ hy)).trans ?_
  simp
theorem kr (m:Nat) (f:Nat->D):iE ((List.range m).map f)=(List.range m).map fun i=>.tup [.int (i:Nat),f i]:=by
 unfold iE
 apply List.ext_getElem?
 intro i
 rw[List.getElem?_mapIdx,List.getElem?_map,List.getElem?_map]
 by_cases h:i < m
 ·rw[List.getElem?_range h];rfl
 ·rw[List.getElem?_eq_none (by rw[List.length_range];omega)];rfl
noncomputable def fC (W:Nat) (f:Nat->Nat):List D:=(List.range W).map fun c=>D.int (f c:Nat)
noncomputable def aY (m W:Nat) (f:Nat->Nat->Nat):List D:=(List.range m).map fun s=>.tup (fC W (f s))
theorem iF (W:Nat) (f:Nat->Nat):(fC W f).length=W:=by unfold fC;rw[List.length_map,List.length_range]
theorem sQ (m W:Nat) (f:Nat->Nat->Nat):(aY m W f).length=m:=by unfold aY;rw[List.length_map,List.length_range]
structure Part (m W:Nat) (f:Nat->Nat->Nat) (wd:Nat->D) (ns:List Nat) (c:Nat):Prop where
 len:ns.length=m
 cls:vZ ns c
 fo:Fo ns
 word:∀s t,s < m->t < m->na ns s=na ns t->wd s=wd t
 ne:∀s t,s < m->t < m->na ns s≠na ns t->∃cs,Vd W cs/\wd (led f cs s)≠wd (led f cs t)
noncomputable def nR (W:Nat) (f:Nat->Nat->Nat) (ns:List Nat) (s:Nat):D:=.tup (.int (na ns s:Nat) :: fC W fun c=>na ns (f s c))
noncomputable def mK (m W:Nat) (f:Nat->Nat->Nat) (ns:List Nat):List Nat:=jQ ((List.range m).map (nR W f ns))
theorem AK (W:Nat) (f:Nat->Nat->Nat) (ns:List Nat) (s:Nat):nR W f ns s= .tup ((((na ns s:Nat):Int) :: (List.range W).map fun c=>((na ns (f s c):Nat):Int)).map D.int):=by
 unfold nR fC
 rw[List.map_cons,List.map_map]
 rfl
theorem oU (l:List Int):jk (.tup (l.map D.int))=some (.tup (l.map D.int)):=by
 have al:(l.map D.int).all (gf 7)=true:=by
  rw[List.all_eq_true]
  intro x hx
  obtain⟨v,_,rfl⟩:=List.mem_map.mp hx
  rfl
 have k8:gf 8 (.tup (l.map D.int))=true:=al
 show(if gf 8 (.tup (l.map D.int))=true then some (nf (.tup (l.map D.int))) else none)=_
 rw[if_pos k8]
 show some (D.tup (FE (l.map D.int)))=_
 rw[wm]
theorem EO {W:Nat}{f:Nat->Nat->Nat}{ns:List Nat}{s t:Nat}:nR W f ns s=nR W f ns t↔na ns s=na ns t/\∀c,c < W->na ns (f s c)=na ns (f t c):=by
 unfold nR fC
 constructor
 ·intro h
  injection h with h
  injection h with h1 h2
  injection h1 with h1
  refine⟨Int.ofNat_inj.mp h1,fun c hc=>?_⟩
  have:=congrArg (fun l=>l[c]?) h2
  simp only[List.getElem?_map,List.getElem?_range hc,Option.map_some] at this
  injection this with this
  injection this with this
  exact Int.ofNat_inj.mp this
 ·rintro⟨h1,h2⟩
  rw[h1]
  congr 2
  exact List.map_congr_left fun c hc=>by show D.int ((na ns (f s c):Nat):Int)=D.int ((na ns (f t c):Nat):Int);rw[h2 c (List.mem_range.mp hc)]
section
variable {m W:Nat}{f:Nat->Nat->Nat}{wd:Nat->D}{ns:List Nat}{c:Nat}
theorem lg {s t:Nat}(hs:s < m) (ht:t < m):na (mK m W f ns) s=na (mK m W f ns) t↔na ns s=na ns t/\∀c,c < W->na ns (f s c)=na ns (f t c):=by
 have get:∀i,i < m->((List.range m).map (nR W f ns))[i]? =some (nR W f ns i):=fun i hi=>by
  rw[List.getElem?_map,List.getElem?_range hi];rfl
 unfold mK
 rw[uE (get s hs) (get t ht),EO]
theorem wC:(mK m W f ns).length=m:=by unfold mK;rw[qK,List.length_map,List.length_range]
theorem Part.next (hf : ∀ s c, s < m -> c < W -> f s c < m) (P : Part m W f wd ns c) : ∃ c', Part m W f wd (mK m W f ns) c' /\ (c' <= c -> ∀ s t, s < m -> t < m -> (na (mK m W f ns) s = na (mK m W f ns) t ↔ na ns s = na ns t)) := by
  refine⟨_,⟨wC,qL _,zC _,fun s t hs ht e=>P.word s t hs ht ((lg hs ht).mp e).1,fun s t hs ht ne=>?_⟩,fun hc s t hs ht=>⟨fun e=>((lg hs ht).mp e).1,fun e=>?_⟩⟩
  . rw[ne_eq,lg hs ht] at ne
    by_cases q:na ns s=na ns t
    . have:∃c,c < W/\na ns (f s c)≠na ns (f t c):=by
        apply Classical.byContradiction
        intro z
        exact ne ⟨q,fun c hc=>Classical.byContradiction fun y=>z ⟨c,hc,y⟩⟩
      obtain⟨c,hc,y⟩:=this
      obtain⟨cs,v,d⟩:=P.ne _ _ (hf s c hs hc) (hf t c ht hc) y
      exact⟨c :: cs,fun x hx=>by
        rcases List.mem_cons.mp hx with rfl | hx
        . exact hc
        . exact v x hx,d⟩
    . exact P.ne s t hs ht q
  . apply Classical.byContradiction
    intro ne
    have:=AG P.cls (qL ((List.range m).map (nR W f ns))) P.len wC (fun i j hi hj q=>((lg hi hj).mp q).1) hs ht e ne
    omega
end
noncomputable def iA (bR:FM):GS:=
 (aZ (bJ 4 (eP ji (aa (eF (eP ju (aa (eF (ak 3)) aC))) (aa (eC (.int 1)) aC))))
 (aZ (oG (ue (qB (eF (eP nL (aa (eF (ak 2)) (aa (eC .dg) aC))))) (qB (eF (eP MJ (aa (eF (ak 4)) (aa (eF (ak 2)) aC)))))) OX gX)
 (bJ 3 (aR bR (aF (eF (qI [3] (mJ (aa (eF (ak 0)) aC)) aV (eF (eP ji (aa (eF (eP dF (aa (bg 2 (eF (ak 0))) aC))) (aa (eF (eP cE (aa (eF (bQ [2] (cU (eF (ak 1))) aV (bg 1 (eF (ak 0))))) aC))) aC)))))) bB)))))
noncomputable def fP (bR:FM):GS:=
 (aZ (bJ 3 (aR bR (aF (eF (ak 1)) bB)))
 (aZ (bJ 4 (eT (eC (.int 0))))
 (aZ (mY 100000 (qB (eF (eP Jt (aa (eF (eP ju (aa (eF (ak 3)) aC))) (aa (eF (ak 4)) aC))))) (iA bR))
 (cT (ak 3)))))
noncomputable def PZ (bR:FM):GS:=
 (bJ 4 (eP ji (aa (eF (eP ju (aa (eF (ak 3)) aC))) (aa (eC (.int 1)) aC))))
noncomputable def Nn (bR:FM):GS:=
 (oG (ue (qB (eF (eP nL (aa (eF (ak 2)) (aa (eC .dg) aC))))) (qB (eF (eP MJ (aa (eF (ak 4)) (aa (eF (ak 2)) aC)))))) OX gX)
noncomputable def P1 (bR:FM):GS:=
 (bJ 3 (aR bR (aF (eF (qI [3] (mJ (aa (eF (ak 0)) aC)) aV (eF (eP ji (aa (eF (eP dF (aa (bg 2 (eF (ak 0))) aC))) (aa (eF (eP cE (aa (eF (bQ [2] (cU (eF (ak 1))) aV (bg 1 (eF (ak 0))))) aC))) aC)))))) bB)))
theorem LW (bR:FM):iA bR=aZ (PZ bR) (aZ (Nn bR) (P1 bR)):=rfl
noncomputable def iM:FM:=bM 5 (fP qM)
theorem CU:∀us r,iM us=some r->bM 5 (fP qM) us=some r:=fun _ _ h=>h
noncomputable abbrev Bb:GD:=bg 1 (eF (ak 0))
noncomputable abbrev Ip:GD:=(eF (eP ji (aa (eF (eP dF (aa (bg 2 (eF (ak 0))) aC))) (aa (eF (eP cE (aa (eF (bQ [2] (cU (eF (ak 1))) aV (bg 1 (eF (ak 0))))) aC))) aC))))
theorem ki_turn {nums acc:List D}{v:Int}{x:D}{z0 z1:Option U}(h:dW nums v=some x):br [2] aV Bb [.int v] [z0,z1,some (.t (.lst nums))] acc=some (acc++[x],[z0,z1,some (.t (.lst nums))]):=by
 simp[br,bS,fW,h,aP]
theorem LX {W:Nat}{g:Nat->Nat}{ns:List Nat}{z0 z1:Option U}(h:∀c,c < W->g c < ns.length):br [2] aV Bb (fC W g) [z0,z1,some (.t (.lst (iD ns)))] []=some (fC W fun c=>na ns (g c),[z0,z1,some (.t (.lst (iD ns)))]):=by
 obtain⟨acc,S',e,rfl,rfl⟩:=nP (cap:=[2]) (g:=Bb) (fC W g) (fun j acc S=>acc=(List.range j).map (fun c=>D.int (na ns (g c):Nat))/\S=[z0,z1,some (.t (.lst (iD ns)))]) _ ⟨rfl,rfl⟩ (by
  rintro j d acc S hd ⟨rfl,rfl⟩
  have hj:j < W:=by have:=(List.getElem?_eq_some_iff.mp hd).1;rwa [iF] at this
  unfold fC at hd
  rw[List.getElem?_map,List.getElem?_range hj] at hd
  cases hd
  refine⟨_,_,ki_turn (qN (h j hj)),?_,rfl⟩
  rw[List.range_succ,List.map_append]
  rfl)
 rw[e,iF]
 rfl
theorem ER {nums row outs acc:List D}{s nk:Int}{z0 z1 z2 z4:Option U}(h1:dW nums s=some (.int nk)) (hl:row.length<=100000) (hl2:1+outs.length<=100000) (h2:∀z0 z1,br [2] aV Bb row [z0,z1,some (.t (.lst nums))] []=some (outs,[z0,z1,some (.t (.lst nums))])):
  fy [3] aV Ip [.tup [.int s,.tup row]] [z0,z1,z2,some (.t (.lst nums)),z4] acc=some (acc++[.tup (.int nk :: outs)],[z0,z1,z2,some (.t (.lst nums)),z4]):=by
 simp[fy,bS,fW,h1,fY,cF,hl,hl2,h2,aP]
theorem LY {m W:Nat}{f:Nat->Nat->Nat}{ns:List Nat}{z0 z1 z2 z4:Option U}(hW:W < 1000) (hl:ns.length=m) (hf:∀s c,s < m->c < W->f s c < m):
  fy [3] aV Ip (iE (aY m W f)) [z0,z1,z2,some (.t (.lst (iD ns))),z4] []=some ((List.range m).map (nR W f ns),[z0,z1,z2,some (.t (.lst (iD ns))),z4]):=by
 unfold aY
 rw[kr]
 refine(sP (fun i=>D.int (i:Nat)) (fun s=>.tup (fC W (f s))) (nR W f ns) (List.range m) [] fun s hs acc=>?_).trans (by rw[List.nil_append])
 have hs:=List.mem_range.mp hs
 exact ER (qN (by omega)) (by rw[iF];omega) (by rw[iF];omega) fun z0 z1=>LX fun c hc=>by rw[hl];exact hf s c hs hc
section
variable {g:FM}{rows nums keys wk:List D}{w1 md:D}{mx:Int}{x4:Option U}
theorem tb_turn (h4:mC x4=false) (em:ju [.lst nums]=some (.t (.int mx))) (hmd:md= .dg\/∃k:Int,md= .int k/\mx+1<=k) (hr:(iE rows).length<=100000)
  (ec:∀z4,fy [3] aV Ip (iE rows) [some (.t (.lst rows)),some (.t w1),some (.t md),some (.t (.lst nums)),z4] []=some (keys,[some (.t (.lst rows)),some (.t w1),some (.t md),some (.t (.lst nums)),z4]))
  (en:g [.t (.lst keys)]=some (.m (.lst wk),[])):
  iA g [some (.t (.lst rows)),some (.t w1),some (.t md),some (.t (.lst nums)),x4]=some (.nx [some (.t (.lst rows)),some (.t w1),some (.t md),some (.m (.lst wk)),some (.t (.int (mx+1)))]):=by
 rw[LW]
 have s0:PZ g [some (.t (.lst rows)),some (.t w1),some (.t md),some (.t (.lst nums)),x4]=some (.nx [some (.t (.lst rows)),some (.t w1),some (.t md),some (.t (.lst nums)),some (.t (.int (mx+1)))]):=by
  simp[-gZ,fO,PZ,em,h4]
 have s1:Nn g [some (.t (.lst rows)),some (.t w1),some (.t md),some (.t (.lst nums)),some (.t (.int (mx+1)))]=some (.nx [some (.t (.lst rows)),some (.t w1),some (.t md),some (.t (.lst nums)),some (.t (.int (mx+1)))]):=by
  rcases hmd with rfl | ⟨k,rfl,hk⟩
  ·simp[Nn,vV]
  ·have:¬k < mx+1:=by omega
   simp[Nn,vV,this]
 have s2:P1 g [some (.t (.lst rows)),some (.t w1),some (.t md),some (.t (.lst nums)),some (.t (.int (mx+1)))]=some (.nx [some (.t (.lst rows)),some (.t w1),some (.t md),some (.m (.lst wk)),some (.t (.int (mx+1)))]):=by
  simp[P1,AJ,hr,ec,en]
 rw[Sq.bE s0,Sq.bE s1,s2]
theorem ES {u3:U}{k:Int}(h3:u3= .m (.lst nums)\/u3= .t (.lst nums)) (em:ju [.lst nums]=some (.t (.int mx))):
  (qB (eF (eP Jt (aa (eF (eP ju (aa (eF (ak 3)) aC))) (aa (eF (ak 4)) aC))))) [some (.t (.lst rows)),some (.t w1),some (.t md),some u3,some (.t (.int k))]=some (decide (k<=mx),[some (.t (.lst rows)),some (.t w1),some (.t md),some (.t (.lst nums)),some (.t (.int k))]):=by
 rcases h3 with rfl | rfl <;> simp[em]
end
noncomputable abbrev Tr:GT:=(qB (eF (eP Jt (aa (eF (eP ju (aa (eF (ak 3)) aC))) (aa (eF (ak 4)) aC)))))
theorem CV {ns:List Nat}{c c':Nat}(h:vZ ns c) (h':vZ ns c'):c=c':=by
 apply Classical.byContradiction
 intro ne
 rcases Nat.lt_or_gt_of_ne ne with l | l
 ·have:=h.lt c (h'.on c l);omega
 ·have:=h'.lt c' (h.on c' l);omega
section
variable {m W:Nat}{f:Nat->Nat->Nat}{wd:Nat->D}{w1 md:D}
theorem AL {ns:List Nat}(h0:0 < m) (hm:m<=900):qM [.t (.lst ((List.range m).map (nR W f ns)))]=some (.m (.lst (iD (mK m W f ns))),[]):=by
 refine Ii (.inr rfl) ?_ ?_ ?_
 ·intro h
  have:=congrArg List.length h
  rw[List.length_map,List.length_range,List.length_nil] at this
  omega
 ·rw[List.map_map,List.map_map]
  exact List.map_congr_left fun k _=>by show jk (nR W f ns k)=some (nR W f ns k);rw[AK];exact oU _
 ·rw[List.length_map,List.length_range];omega
noncomputable def Iq (m W:Nat) (f:Nat->Nat->Nat) (ns:List Nat):Prop:=∀s t c,s < m->t < m->c < W->na ns s=na ns t->na ns (f s c)=na ns (f t c)
theorem zF (h0 : 0 < m) (hm : m <= 900) (hW : W < 1000) (hf : ∀ s c, s < m -> c < W -> f s c < m) (hmd : md = .dg \/ ∃ k : Int, md = .int k /\ ∀ ns c, Part m W f wd ns c -> (c : Int) <= k) :
    ∀(q:Nat) (ns:List Nat) (c cnt:Nat) (u3:U),Part m W f wd ns c->m < cnt+q->cnt<=m->(cnt=0\/∃n0,Part m W f wd n0 cnt/\ns=mK m W f n0)->(u3= .m (.lst (iD ns))\/u3= .t (.lst (iD ns)))->
    ∃ns' c' z4,kP Tr (iA qM) q [some (.t (.lst (aY m W f))),some (.t w1),some (.t md),some u3,some (.t (.int cnt))]=some (.nx [some (.t (.lst (aY m W f))),some (.t w1),some (.t md),some (.t (.lst (iD ns'))),z4])/\Part m W f wd ns' c'/\Iq m W f ns'
  | 0,ns,c,cnt,u3,P,hq,hc,_,_=>by omega
  | q + 1, ns, c, cnt, u3, P, hq, hc, pr, h3 => by
    have Tt:=uH P.cls
    have AM:=P.len
    have cpos:0 < c:=by have:=P.cls.lt _ (dR (ns:=ns) (i:=0) (by omega));omega
    have em:=CM P.cls cpos
    have cd:=ES (rows:=aY m W f) (w1:=w1) (md:=md) (k:=cnt) h3 em
    have e1:decide ((cnt:Int)<=((c - 1:Nat):Int))=decide (cnt < c):=decide_eq_decide.mpr ⟨fun h=>by omega,fun h=>by omega⟩
    rw[e1] at cd
    unfold kP
    rw[show Tr _=_ from cd,Option.bind_some]
    by_cases h:cnt < c
    . rw[decide_eq_true h]
      simp only[if_true]
      obtain⟨c',P',_⟩:=P.next hf
      have e2:((c - 1:Nat):Int)+1=(c:Nat):=by omega
      have tn:=tb_turn (g:=qM) (w1:=w1) (md:=md) (x4:=some (.t (.int cnt))) rfl em (hmd.imp id fun⟨k,a,b⟩=>⟨k,a,by rw[e2];exact b ns c P⟩) (by unfold aY;rw[kr,List.length_map,List.length_range];omega) (fun z4=>LY hW AM hf) (AL h0 hm)
      rw[e2] at tn
      rw[tn,Option.bind_some]
      exact zF h0 hm hW hf hmd q _ c' c _ P' (by omega) (by omega) (.inr ⟨ns,P,rfl⟩) (.inl rfl)
    . rw[decide_eq_false h]
      refine⟨ns,c,_,rfl,P,?_⟩
      rcases pr with rfl | ⟨n0,P0,rfl⟩
      . omega
      . obtain⟨c',P',sm⟩:=P0.next hf
        have ec:c'=c:=by
          have a:=CV P'.cls P.cls
          exact a
        have sm:=sm (by omega)
        intro s t col hs ht qX e
        rw[sm _ _ (hf s col hs qX) (hf t col ht qX)]
        exact((lg hs ht).mp e).2 col qX
theorem ET (h0:0 < m) (hm:m<=900) (hW:W < 1000) (hf:∀s c,s < m->c < W->f s c < m) (hw:∀s,s < m->Wd (wd s)) (hmd:md= .dg\/∃k:Int,md= .int k/\∀ns c,Part m W f wd ns c->(c:Int)<=k):
  ∃ns c,iM [.t (.lst (aY m W f)),.t (.lst ((List.range m).map wd)),.t md]=some (.t (.lst (iD ns)),[])/\Part m W f wd ns c/\Iq m W f ns:=by
 have e1:=Ih (sd:=.lst ((List.range m).map wd)) (ds:=(List.range m).map wd) (ks:=(List.range m).map fun s=>EH (wd s)) (.inr rfl) (by
  rw[List.map_map,List.map_map]
  exact List.map_congr_left fun s hs=>LN (hw s (List.mem_range.mp hs))) (by rw[List.length_map,List.length_range];omega)
 have get:∀i,i < m->((List.range m).map fun s=>EH (wd s))[i]? =some (EH (wd i)):=fun i hi=>by
  rw[List.getElem?_map,List.getElem?_range hi];rfl
 have P0:Part m W f wd (jQ ((List.range m).map fun s=>EH (wd s))) _:=⟨by rw[qK,List.length_map,List.length_range],qL _,zC _,
  fun s t hs ht e=>EI (hw s hs) (hw t ht) ((uE (get s hs) (get t ht)).mp e),
  fun s t hs ht ne=>⟨[],fun c hc=>(by cases hc),fun z=>ne ((uE (get s hs) (get t ht)).mpr (by rw[show wd s=wd t from z]))⟩⟩
 obtain⟨ns,c,z4,e,P,st⟩:=zF (w1:=.lst ((List.range m).map wd)) h0 hm hW hf hmd 100000 _ _ 0 _ P0 (by omega) (Nat.zero_le _) (.inl rfl) (.inl rfl)
 refine⟨ns,c,?_,P,st⟩
 have all:∃a b d S,fP qM [some (.t (.lst (aY m W f))),some (.t (.lst ((List.range m).map wd))),some (.t md),none,none]=some (.rt (.t (.lst (iD ns))) (a :: b :: d :: S)):=by
  unfold fP
  rw[Sq.bE (S1:=[some (.t (.lst (aY m W f))),some (.t (.lst ((List.range m).map wd))),some (.t md),some (.m (.lst (iD (jQ ((List.range m).map fun s=>EH (wd s)))))),none]) (by
   generalize qM=g at e1
   generalize (List.range m).map wd=ws at e1
   simp[e1]),
   Sq.bE (S1:=[some (.t (.lst (aY m W f))),some (.t (.lst ((List.range m).map wd))),some (.t md),some (.m (.lst (iD (jQ ((List.range m).map fun s=>EH (wd s)))))),some (.t (.int ((0:Nat):Int)))]) rfl,Sq.bE (show mY 100000 _ _ _=_ from e)]
  generalize iD ns=l
  exact⟨_,_,_,_,by simp;exact⟨rfl,rfl,rfl,rfl⟩⟩
 obtain⟨a,b,d,S,all⟩:=all
 exact qR all rfl
end
noncomputable def cI (cy:FM) (bG:FM):GS:=
 (qE 4 (eF (ak 6)) (eF (ak 5)))
noncomputable def cY (cy:FM) (bG:FM):GS:=
 (aZ (bJ 3 (aR cy (aF (eF (ak 0)) (aF (eF (eP iK (aa (eC (.int 0)) aC))) bB))))
 (aZ (bJ 4 qH)
 (aZ (j9 (oH 2 (fU (bName 5) (fU (bName 6) pL))) (mJ (aa (eF (ak 3)) aC)) (cI cy bG))
 (aZ (bJ 7 (bQ [0,4] (cU (eF (ak 3))) aV (eF (eP cE (aa (eF (bQ [2] (cU (bg 1 (eF (ak 0)))) aV (bg 1 (eF (ak 0))))) aC)))))
 (aZ (bJ 8 (aR bG (aF (eF (ak 7)) (aF (eF (bQ [1] (cU (eF (ak 3))) aV (bg 1 (eF (ak 0))))) (aF (eF (ak 2)) bB)))))
 (aZ (zo 9 (iW (aa (eF (eP ji (aa (eF (eP ju (aa (eF (ak 8)) aC))) (aa (eC (.int 1)) aC)))) aC)) (Cw 9 (oH 2 (fU (bName 5) (fU (bName 10) pL))) (mJ (aa (eF (ak 8)) aC)) (Ct 9 (eF (ak 10)) (bg 3 (eF (ak 5))))))
 (aZ (bJ 11 (bQ [0,8,4] (cU (eF (ak 9))) aV (eF (eP cE (aa (eF (bQ [2,3] (cU (bg 1 (bg 0 (eC (.int 0))))) aV (bg 1 (bg 2 (eF (ak 0)))))) aC)))))
 (cT (eP dF (aa (eF (eP cE (aa (eF (ak 11)) aC))) (aa (eF (eP cE (aa (eF (bQ [1] (cU (eF (ak 9))) aV (bg 1 (bg 0 (eC (.int 0)))))) aC))) (aa (eF (ak 9)) aC))))))))))))
noncomputable def P4 (cy:FM) (bG:FM):GS:=
 (bJ 3 (aR cy (aF (eF (ak 0)) (aF (eF (eP iK (aa (eC (.int 0)) aC))) bB))))
noncomputable def P5 (cy:FM) (bG:FM):GS:=
 (bJ 4 qH)
noncomputable def P6 (cy:FM) (bG:FM):GS:=
 (j9 (oH 2 (fU (bName 5) (fU (bName 6) pL))) (mJ (aa (eF (ak 3)) aC)) (cI cy bG))
noncomputable def P7 (cy:FM) (bG:FM):GS:=
 (bJ 7 (bQ [0,4] (cU (eF (ak 3))) aV (eF (eP cE (aa (eF (bQ [2] (cU (bg 1 (eF (ak 0)))) aV (bg 1 (eF (ak 0))))) aC)))))
noncomputable def P8 (cy:FM) (bG:FM):GS:=
 (bJ 8 (aR bG (aF (eF (ak 7)) (aF (eF (bQ [1] (cU (eF (ak 3))) aV (bg 1 (eF (ak 0))))) (aF (eF (ak 2)) bB)))))
noncomputable abbrev P9:GB:=(oH 2 (fU (bName 5) (fU (bName 10) pL)))
noncomputable abbrev Np:GN:=(Ct 9 (eF (ak 10)) (bg 3 (eF (ak 5))))
noncomputable abbrev Qa:GI:=(iW (aa (eF (eP ji (aa (eF (eP ju (aa (eF (ak 8)) aC))) (aa (eC (.int 1)) aC)))) aC))
noncomputable def Qc (cy:FM) (bG:FM):GS:=(zo 9 Qa (Cw 9 P9 (mJ (aa (eF (ak 8)) aC)) Np))
noncomputable def Qd (cy:FM) (bG:FM):GS:=
 (bJ 11 (bQ [0,8,4] (cU (eF (ak 9))) aV (eF (eP cE (aa (eF (bQ [2,3] (cU (bg 1 (bg 0 (eC (.int 0))))) aV (bg 1 (bg 2 (eF (ak 0)))))) aC)))))
noncomputable def Qe (cy:FM) (bG:FM):GS:=
 (cT (eP dF (aa (eF (eP cE (aa (eF (ak 11)) aC))) (aa (eF (eP cE (aa (eF (bQ [1] (cU (eF (ak 9))) aV (bg 1 (bg 0 (eC (.int 0)))))) aC))) (aa (eF (ak 9)) aC)))))
theorem LZ (f1 f2:FM):cY f1 f2=aZ (P4 f1 f2) (aZ (P5 f1 f2) (aZ (P6 f1 f2) (aZ (P7 f1 f2) (aZ (P8 f1 f2) (aZ (Qc f1 f2) (aZ (Qd f1 f2) (Qe f1 f2))))))):=rfl
noncomputable def i8:FM:=bM 12 (cY reachF iM)
theorem AN:∀us r,i8 us=some r->bM 12 (cY reachF iM) us=some r:=fun _ _ h=>h
noncomputable def kL (L:List Nat):List Key:=L.map fun(v:Nat)=>(Sum.inl (v:Int):Key)
theorem CW {L:List Nat}{v:Nat}:(Sum.inl (v:Int):Key)∈kL L↔v∈L:=by
 unfold kL
 rw[List.mem_map]
 constructor
 ·rintro⟨u,hu,e⟩
  injection e with e
  rw[show v=u by omega];exact hu
 ·intro h;exact⟨v,h,rfl⟩
theorem idx_map {κ:Type} [DecidableEq κ] (f:Nat->κ) (inj:∀a b,f a=f b->a=b):∀(L:List Nat) (v:Nat),(L.map f).idxOf (f v)=L.idxOf v
  | [],v=>rfl
  | u :: L, v => by
    rw[List.map_cons,List.idxOf_cons,List.idxOf_cons,idx_map f inj L v]
    by_cases h:u=v
    . subst h;simp
    . have h1:(f u == f v)=false:=by rw[beq_eq_false_iff_ne];exact fun z=>h (inj u v z)
      have h2:(u == v)=false:=by rw[beq_eq_false_iff_ne];exact h
      rw[h1,h2]
noncomputable def oq (L:List Nat):MO:=.dct (ent 0 (kL L))
theorem Gq {L:List Nat}{v:Nat}(h:v∈L):dZ (.b (oq L)) (.int (v:Nat))=some (.int (L.idxOf v:Nat)):=by
 unfold oq
 rw[CJ.rb _ _ (Sum.inl (v:Int)) rfl,jR (CW.mpr h)]
 unfold kL
 rw[idx_map (κ:=Key) (fun v:Nat=>(Sum.inl (v:Int):Key)) (fun a b z=>by injection z with z;omega)]
theorem Ir {L:List Nat}{v:Nat}(h:v∉L) (hl:L.length < 1000):gY (oq L) (.int (v:Nat)) (.int (L.length:Nat))=some (oq (L++[v])):=by
 unfold oq
 rw[CJ.wr _ _ (Sum.inl (v:Int)) _ rfl (by rw[nQ];unfold kL;rw[List.length_map];omega)]
 have e:(kL L).length=L.length:=by unfold kL;rw[List.length_map]
 rw[<-e,uF (fun z=>h (CW.mp z))]
 unfold kL
 rw[List.map_append]
 rfl
theorem EU {f1 f2:FM}{z0 z1 z2 z3:Option U}{o o':MO}{v j:Int}{y7 y8 y9 CL Gr:Option U}(h:gY o (.int v) (.int j)=some o'):
  cI f1 f2 [z0,z1,z2,z3,some (.m o),some (.t (.int j)),some (.t (.int v)),y7,y8,y9,CL,Gr]=some (.nx [z0,z1,z2,z3,some (.m o'),some (.t (.int j)),some (.t (.int v)),y7,y8,y9,CL,Gr]):=by
 simp[cI,kg,h]
theorem EV {f1 f2:FM}{z0 z1 z2 z3 y7 y8 y9 CL Gr:Option U}{L:List Nat}(nd:L.Nodup) (hl:L.length < 1000):
  ∃y5 y6,mC y5=false/\loop (oH 2 (fU (bName 5) (fU (bName 6) pL))) (cI f1 f2) (iE (iD L)) [z0,z1,z2,z3,some (.m (.dct [])),none,none,y7,y8,y9,CL,Gr]=some (.nx [z0,z1,z2,z3,some (.m (oq L)),y5,y6,y7,y8,y9,CL,Gr]):=by
 obtain⟨S',e,y5,y6,h5,h6,rfl⟩:=nO (bd:=oH 2 (fU (bName 5) (fU (bName 6) pL))) (body:=cI f1 f2) (iE (iD L))
  (fun j S=>∃y5 y6,mC y5=false/\mC y6=false/\S=[z0,z1,z2,z3,some (.m (oq (L.take j))),y5,y6,y7,y8,y9,CL,Gr]) _ ⟨none,none,rfl,rfl,rfl⟩ (by
  rintro j d S hd ⟨y5,y6,h5,h6,rfl⟩
  rw[uG rfl,kr] at hd
  have hj:j < L.length:=by have:=(List.getElem?_eq_some_iff.mp hd).1;rwa [List.length_map,List.length_range] at this
  rw[List.getElem?_map,List.getElem?_range hj] at hd
  cases hd
  have et:L.take (j+1)=L.take j++[na L j]:=by rw[List.take_succ,cj hj];rfl
  have tl:(L.take j).length=j:=by rw[List.length_take];omega
  have nm:na L j∉L.take j:=fun z=>by
   obtain⟨i,hi,z⟩:=List.getElem_of_mem z
   rw[List.getElem_take] at z
   have hij:i < j:=by rw[tl] at hi;exact hi
   have a1:=nd.idxOf_getElem i (by omega)
   rw[z] at a1
   rw[Ik nd hj] at a1
   omega
  have pw:=Ir nm (by omega)
  rw[tl,<-et] at pw
  refine⟨[z0,z1,z2,z3,some (.m (oq (L.take j))),some (.t (.int (j:Nat))),some (.t (.int (na L j:Nat))),y7,y8,y9,CL,Gr],_,?_,EU pw,_,_,rfl,rfl,rfl⟩
  simp[-gZ,fO,h5,h6])
 have el:(iE (iD L)).length=L.length:=by unfold iE iD;rw[List.length_mapIdx,List.length_map]
 rw[el,List.take_length] at e
 exact⟨y5,y6,h5,e⟩
noncomputable def sR (N:List (List Int)) (L:List Nat) (s c:Nat):Nat:=L.idxOf (gm N (na L s) c)
noncomputable abbrev Nq:GD:=bg 1 (eF (ak 0))
noncomputable abbrev inR:GD:=(eF (eP cE (aa (eF (bQ [2] (cU (bg 1 (eF (ak 0)))) aV (bg 1 (eF (ak 0))))) aC)))
theorem CY {o:MO}{acc:List D}{v:Int}{x:D}{z0 z1:Option U}(h:dZ (.b o) (.int v)=some x):br [2] aV Nq [.int v] [z0,z1,some (.b o)] acc=some (acc++[x],[z0,z1,some (.b o)]):=by
 simp[br,bS,fW,h,aP]
theorem Iu {W:Nat}{g:Nat->Nat}{L:List Nat}{z0 z1:Option U}(h:∀c,c < W->g c∈L):br [2] aV Nq (fC W g) [z0,z1,some (.b (oq L))] []=some (fC W fun c=>L.idxOf (g c),[z0,z1,some (.b (oq L))]):=by
 obtain⟨acc,S',e,rfl,rfl⟩:=nP (cap:=[2]) (g:=Nq) (fC W g) (fun j acc S=>acc=(List.range j).map (fun c=>D.int (L.idxOf (g c):Nat))/\S=[z0,z1,some (.b (oq L))]) _ ⟨rfl,rfl⟩ (by
  rintro j d acc S hd ⟨rfl,rfl⟩
  have hj:j < W:=by have:=(List.getElem?_eq_some_iff.mp hd).1;rwa [iF] at this
  unfold fC at hd
  rw[List.getElem?_map,List.getElem?_range hj] at hd
  cases hd
  refine⟨_,_,CY (Gq (h j hj)),?_,rfl⟩
  rw[List.range_succ,List.map_append]
  rfl)
 rw[e,iF]
 rfl
theorem CZ {nt:D}{row outs acc:List D}{o:MO}{v:Int}{z1 z2 z3 z5 z6 z7 z8 z9 gB iQ:Option U}(h1:dZ (.t nt) (.int v)=some (.tup row)) (hl:row.length<=100000) (h2:∀z0 z1,br [2] aV Nq row [z0,z1,some (.b o)] []=some (outs,[z0,z1,some (.b o)])):
  br [0,4] aV inR [.int v] [some (.t nt),z1,z2,z3,some (.m o),z5,z6,z7,z8,z9,gB,iQ] acc=some (acc++[.tup outs],[some (.t nt),z1,z2,z3,some (.m o),z5,z6,z7,z8,z9,gB,iQ]):=by
 simp[br,bS,fW,h1,fY,cF,hl,h2,aP]
theorem jS {cap:List Nat}{g:GD}{S:SS}{α:Type}(fa f:α->D):∀(l:List α) (acc:List D),(∀x∈l,∀acc,br cap aV g [fa x] S acc=some (acc++[f x],S))->br cap aV g (l.map fa) S acc=some (acc++l.map f,S)
 | [],acc,_=>by simp[br]
 | x :: l,acc,h=>by
  rw[List.map_cons,Sq.gz,h x List.mem_cons_self,Option.bind_some]
  refine(jS fa f l (acc++[f x]) fun y hy=>h y (List.mem_cons_of_mem _ hy)).trans ?_
  simp
section
variable {W:Nat}{N:List (List Int)}{L:List Nat}{nt:D}{z1 z2 z3 z5 z6 z7 z8 z9 gB iQ:Option U}
theorem Iv (mo:pN W N) (hW:W < 1000) (hn:nt= .tup (N.map Sq.bT)\/nt= .lst (N.map Sq.bT)) (hL:∀v∈L,v < N.length) (cl:∀s c,s < L.length->c < W->gm N (na L s) c∈L):
  br [0,4] aV inR (iD L) [some (.t nt),z1,z2,z3,some (.m (oq L)),z5,z6,z7,z8,z9,gB,iQ] []=some (aY L.length W (sR N L),[some (.t nt),z1,z2,z3,some (.m (oq L)),z5,z6,z7,z8,z9,gB,iQ]):=by
 rw[uG rfl]
 refine(jS (fun s=>D.int (na L s:Nat)) (fun s=>.tup (fC W (sR N L s))) (List.range L.length) [] fun s hs acc=>?_).trans (by rw[List.nil_append];rfl)
 have hs:=List.mem_range.mp hs
 have sn:=hL _ (dR hs)
 exact CZ (row:=fC W (gm N (na L s))) (by rw[wA hn];exact uI mo sn) (by rw[iF];omega) fun z0 z1=>Iu fun c hc=>cl s c hs hc
theorem EW {wt:D}{acc:List D}{v:Int}{x:D}{z0 z4:Option U}(h:dZ (.t wt) (.int v)=some x):br [1] aV (bg 1 (eF (ak 0))) [.int v] [z0,some (.t wt),z2,z3,z4,z5,z6,z7,z8,z9,gB,iQ] acc=some (acc++[x],[z0,some (.t wt),z2,z3,z4,z5,z6,z7,z8,z9,gB,iQ]):=by
 simp[br,bS,fW,h,aP]
theorem L0 {wt:D}{M:List D}{z0 z4:Option U}(hw:wt= .tup M\/wt= .lst M) (hL:∀v∈L,v < M.length):br [1] aV (bg 1 (eF (ak 0))) (iD L) [z0,some (.t wt),z2,z3,z4,z5,z6,z7,z8,z9,gB,iQ] []=some ((List.range L.length).map fun s=>g9 M (na L s),[z0,some (.t wt),z2,z3,z4,z5,z6,z7,z8,z9,gB,iQ]):=by
 rw[uG rfl]
 refine(jS (fun s=>D.int (na L s:Nat)) (fun s=>g9 M (na L s)) (List.range L.length) [] fun s hs acc=>?_).trans (by rw[List.nil_append])
 exact EW (by rw[wA hw];exact wj (hL _ (dR (List.mem_range.mp hs))))
end
theorem wD {bd:GB}{g:GN}{a:Addr}{I:Nat->SS->List (List D)->Prop}:∀(ds:List D) (k:Nat) (S:SS) (n:List (List D)),I k S n->(∀j d S n,ds[j]? =some d->I (k+j) S n->∃S1 S2 n2,bd d S=some S1/\g a S1 n=some (S2,n2)/\I (k+j+1) S2 n2)->∃S' n',zm bd g a ds S n=some (S',n')/\I (k+ds.length) S' n'
  | [],k,S,n,h,_=>⟨S,n,rfl,h⟩
  | d :: ds, k, S, n, h, hs => by
    obtain⟨S1,S2,n2,e1,e2,h2⟩:=hs 0 d S n rfl h
    obtain⟨S',n',e,h'⟩:=wD ds (k+1) S2 n2 h2 fun j d' S' n' hd hI=>by
      obtain⟨S1,S2,n2,a1,a2,a3⟩:=hs (j+1) d' S' n' hd (by rw[show k+(j+1)=k+1+j by omega];exact hI)
      rw[show k+(j+1)+1=k+1+j+1 by omega] at a3
      exact⟨S1,S2,n2,a1,a2,a3⟩
    refine⟨S',n',?_,?_⟩
    . show((bd d S).bind fun S1=>_)=_
      rw[e1,Option.bind_some,e2,Option.bind_some]
      exact e
    . rw[List.length_cons,show k+(ds.length+1)=k+1+ds.length by omega];exact h'
noncomputable def gr (L ns:List Nat) (j k:Nat):List D:=((List.range j).filter fun i=>na ns i == k).map fun i=>D.int (na L i:Nat)
noncomputable def pO (L ns:List Nat) (c j:Nat):List (List D):=(List.range c).map (gr L ns j)
theorem lV (L ns:List Nat) (c j:Nat):(pO L ns c j).length=c:=by unfold pO;rw[List.length_map,List.length_range]
theorem yf {L ns:List Nat}{c j k:Nat}(h:k < c):(pO L ns c j)[k]? =some (gr L ns j k):=by unfold pO;rw[List.getElem?_map,List.getElem?_range h];rfl
theorem C0 (L ns:List Nat) (c:Nat):pO L ns c 0=List.replicate c []:=by
 unfold pO
 rw[List.eq_replicate_iff]
 exact⟨by rw[List.length_map,List.length_range],fun b hb=>by obtain⟨k,_,rfl⟩:=List.mem_map.mp hb;rfl⟩
theorem zG (L ns:List Nat) (j k:Nat):gr L ns (j+1) k=gr L ns j k++if na ns j=k then [.int (na L j:Nat)] else []:=by
 unfold gr
 rw[List.range_succ,List.filter_append,List.map_append]
 by_cases h:na ns j=k
 ·rw[if_pos h,List.filter_cons_of_pos (by simpa using h)];rfl
 ·rw[if_neg h,List.filter_cons_of_neg (by simpa using h)];rfl
theorem C1 {L ns:List Nat}{c j:Nat}(h:na ns j < c):(pO L ns c j).set (na ns j) (gr L ns j (na ns j)++[.int (na L j:Nat)])=pO L ns c (j+1):=by
 apply List.ext_getElem?
 intro k
 by_cases hk:k < c
 ·rw[yf hk,zG]
  by_cases e:na ns j=k
  ·rw[if_pos e,e,List.getElem?_set_self (by rw[lV];exact hk)]
  ·rw[if_neg e,List.getElem?_set_ne e,yf hk,List.append_nil]
 ·rw[List.getElem?_eq_none (by rw[List.length_set,lV];omega),List.getElem?_eq_none (by rw[lV];omega)]
theorem Iw (L ns:List Nat) (j k:Nat):(gr L ns j k).length<=j:=by
 unfold gr
 rw[List.length_map]
 exact Nat.le_trans (List.length_filter_le _ _) (by rw[List.length_range];exact Nat.le_refl _)
theorem zH {L ns : List Nat} {c k : Nat} (h : vZ ns c) (hk : k < c) : ∃ rest, gr L ns ns.length k = .int (na L (ns.idxOf k) : Nat) :: rest := by
  obtain⟨l,e⟩:=i7 h hk
  have go : ∀ j, ns.idxOf k < j -> j <= ns.length -> ∃ rest, gr L ns j k = .int (na L (ns.idxOf k) : Nat) :: rest := by
    intro j
    induction j with
    | zero=>intro q;omega
    | succ j ih=>
      intro q ql
      rw[zG]
      by_cases z:ns.idxOf k < j
      . obtain⟨rest,er⟩:=ih z (by omega)
        rw[er]
        exact⟨_,List.cons_append ..⟩
      . have:ns.idxOf k=j:=by omega
        have emp:gr L ns j k=[]:=by
          unfold gr
          rw[List.map_eq_nil_iff,List.filter_eq_nil_iff]
          intro i hi
          have hi:=List.mem_range.mp hi
          simp only[beq_iff_eq]
          intro w
          have:=lU (ns:=ns) (i:=i) (by omega) w
          omega
        rw[emp,<-this,if_pos e]
        exact⟨[],rfl⟩
  exact go ns.length l (Nat.le_refl _)
section
variable {z0 z1 z2 z4 z6 z7 iQ:Option U}{L ns:List Nat}{c:Nat}
noncomputable def yI (y:Option U):Nat->Option U
 | 0=>y
 | j+1=>some (.t (.int (j:Nat)))
noncomputable def yN (ns:List Nat):Nat->Option U
 | 0=>none
 | j+1=>some (.t (.int (na ns j:Nat)))
noncomputable abbrev gS (z0 z1 z2 z4 z6 z7 iQ:Option U) (L ns:List Nat) (u9:U) (y5 CL:Option U):SS:=[z0,z1,z2,some (.t (.lst (iD L))),z4,y5,z6,z7,some (.t (.lst (iD ns))),some u9,CL,iQ]
theorem EX {a:Addr}{nums C2:List D}{nest:List (List D)}{ds:List D}{j k:Int}{kk:Nat}{v:D}(h1:uX nest.length k=some kk) (h2:nest[kk]? =some ds) (h3:dW C2 j=some v) (hl:ds.length < 100000):
  Np a [z0,z1,z2,some (.t (.lst C2)),z4,some (.t (.int j)),z6,z7,some (.t (.lst nums)),some (.f a),some (.t (.int k)),iQ] nest=some ([z0,z1,z2,some (.t (.lst C2)),z4,some (.t (.int j)),z6,z7,some (.t (.lst nums)),some (.f a),some (.t (.int k)),iQ],nest.set kk (ds++[v])):=by
 simp[Ct,h1,h2,h3,hl,Cs]
theorem EY {n k:Nat}(h:k < n):uX n (k:Int)=some k:=by
 unfold uX
 rw[if_pos (Int.natCast_nonneg k),if_pos (by omega),Int.toNat_natCast]
theorem Iz {y5:Option U}(h5:mC y5=false) (hc:vZ ns c) (hl:ns.length=L.length) (hm:ns.length<=900) (a:Addr):
  Cw 9 P9 (mJ (aa (eF (ak 8)) aC)) Np a (gS z0 z1 z2 z4 z6 z7 iQ L ns (.f a) y5 none) (List.replicate c [])=some (gS z0 z1 z2 z4 z6 z7 iQ L ns (.f a) (yI y5 ns.length) (yN ns ns.length),pO L ns c ns.length):=by
 obtain⟨S',n',e,rfl,rfl⟩:=wD (bd:=fun d S=>(P9 d S).bind fun S1=>if Cs S1 9 a=true then some S1 else none) (g:=Np) (a:=a) (I:=fun j S n=>S=gS z0 z1 z2 z4 z6 z7 iQ L ns (.f a) (yI y5 j) (yN ns j)/\n=pO L ns c j) (iE (iD ns)) 0 (gS z0 z1 z2 z4 z6 z7 iQ L ns (.f a) y5 none) (List.replicate c []) ⟨rfl,(C0 L ns c).symm⟩ (by
  rintro j d S n hd ⟨rfl,rfl⟩
  rw[Nat.zero_add]
  rw[uG rfl,kr] at hd
  have hj:j < ns.length:=by have:=(List.getElem?_eq_some_iff.mp hd).1;rwa [List.length_map,List.length_range] at this
  rw[List.getElem?_map,List.getElem?_range hj] at hd
  cases hd
  have kc:=hc.lt _ (dR hj)
  have gl:=Iw L ns j (na ns j)
  have b5:mC (yI y5 j)=false:=by cases j with | zero=>exact h5 | succ j=>rfl
  have Qg:mC (yN ns j)=false:=by cases j with | zero=>rfl | succ j=>rfl
  refine⟨gS z0 z1 z2 z4 z6 z7 iQ L ns (.f a) (some (.t (.int (j:Nat)))) (some (.t (.int (na ns j:Nat)))),_,_,?_,EX (EY (by rw[lV];exact kc)) (yf kc) (qN (ns:=L) (by omega)) (by omega),?_,?_⟩
  ·simp[-gZ,fO,b5,Qg,Cs]
  ·rfl
  ·exact C1 kc)
 have el:(iE (iD ns)).length=ns.length:=by unfold iE iD;rw[List.length_mapIdx,List.length_map]
 rw[el,Nat.zero_add] at e
 have eg:mJ (aa (eF (ak 8)) aC) (gS z0 z1 z2 z4 z6 z7 iQ L ns (.f a) y5 none)=some (iE (iD ns),gS z0 z1 z2 z4 z6 z7 iQ L ns (.f a) y5 none):=rfl
 unfold Cw
 rw[eg,Option.bind_some]
 have ef:Cs (gS z0 z1 z2 z4 z6 z7 iQ L ns (.f a) y5 none) 9 a=true:=by simp[Cs]
 rw[if_pos ef]
 exact e
theorem C3 {f1 f2:FM}{y5:Option U}{c:Nat}(h5:mC y5=false) (hc:vZ ns c) (hl:ns.length=L.length) (hm:ns.length<=900) (hpos:0 < ns.length):
  Qc f1 f2 [z0,z1,z2,some (.t (.lst (iD L))),z4,y5,z6,z7,some (.t (.lst (iD ns))),none,none,iQ]=some (.nx (gS z0 z1 z2 z4 z6 z7 iQ L ns (.t (.lst ((pO L ns c ns.length).map D.lst))) (yI y5 ns.length) (yN ns ns.length))):=by
 have cpos:0 < c:=by have:=hc.lt _ (dR (ns:=ns) (i:=0) hpos);omega
 have Tt:=uH hc
 have em:=CM hc cpos
 have er:Qa [z0,z1,z2,some (.t (.lst (iD L))),z4,y5,z6,z7,some (.t (.lst (iD ns))),none,none,iQ]=some (mF 0 c,[z0,z1,z2,some (.t (.lst (iD L))),z4,y5,z6,z7,some (.t (.lst (iD ns))),none,none,iQ]):=by
  have e:(aa (eF (eP ji (aa (eF (eP ju (aa (eF (ak 8)) aC))) (aa (eC (.int 1)) aC)))) aC) [z0,z1,z2,some (.t (.lst (iD L))),z4,y5,z6,z7,some (.t (.lst (iD ns))),none,none,iQ]=some ([.int (((c - 1:Nat):Int)+1)],[z0,z1,z2,some (.t (.lst (iD L))),z4,y5,z6,z7,some (.t (.lst (iD ns))),none,none,iQ]):=by
   generalize iD ns=nn at em
   generalize ((c - 1:Nat):Int)=mx at em
   simp[em]
  have e2:((c - 1:Nat):Int)+1=((c:Nat):Int):=by omega
  rw[e2] at e
  have hb:c < 1000000:=by omega
  rw[show Qa _=_ from Sq.sN e (Int.ofNat_lt.mpr hb) (Sq.CH _),Int.toNat_natCast]
 unfold Qc zo
 rw[er,Option.bind_some]
 simp only[List.getElem?_cons_succ,List.getElem?_cons_zero]
 have rl:(mF 0 c).length=c:=Sq.ki ..
 rw[rl,if_pos (by omega),xU (r:=gS z0 z1 z2 z4 z6 z7 iQ L ns (.t (.lst ((pO L ns c ns.length).map D.lst))) (yI y5 ns.length) (yN ns ns.length)) (fun a=>by
  rw[show([z0,z1,z2,some (.t (.lst (iD L))),z4,y5,z6,z7,some (.t (.lst (iD ns))),none,none,iQ]:SS).set 9 (some (.f a))=gS z0 z1 z2 z4 z6 z7 iQ L ns (.f a) y5 none from rfl,Iz h5 hc hl hm a]
  rfl)]
 rfl
end
noncomputable abbrev Qh:GD:=bg 1 (bg 2 (eF (ak 0)))
noncomputable abbrev Tu:GD:=(eF (eP cE (aa (eF (bQ [2,3] (cU (bg 1 (bg 0 (eC (.int 0))))) aV (bg 1 (bg 2 (eF (ak 0)))))) aC)))
theorem C4 {o:MO}{nums acc:List D}{v p:Int}{x:D}{z0 z1:Option U}(h:dZ (.b o) (.int v)=some (.int p)) (h2:dW nums p=some x):br [2,3] aV Qh [.int v] [z0,z1,some (.t (.lst nums)),some (.b o)] acc=some (acc++[x],[z0,z1,some (.t (.lst nums)),some (.b o)]):=by
 simp[br,bS,fW,h,h2,aP]
theorem IA {W:Nat}{g:Nat->Nat}{L ns:List Nat}{z0 z1:Option U}(hl:ns.length=L.length) (h:∀c,c < W->g c∈L):br [2,3] aV Qh (fC W g) [z0,z1,some (.t (.lst (iD ns))),some (.b (oq L))] []=some (fC W fun c=>oR L ns (g c),[z0,z1,some (.t (.lst (iD ns))),some (.b (oq L))]):=by
 unfold fC
 refine(jS (fun c=>D.int (g c:Nat)) (fun c=>D.int (oR L ns (g c):Nat)) (List.range W) [] fun c hc acc=>?_).trans (by rw[List.nil_append])
 have m:=h c (List.mem_range.mp hc)
 exact C4 (Gq m) (qN (by rw[hl];exact(jB m).1))
theorem C5 {nt:D}{nums row outs rest acc:List D}{o:MO}{u:Int}{z1 z2 z3 z5 z6 z7 z9 gB iQ:Option U}(h1:dZ (.t nt) (.int u)=some (.tup row)) (hl:row.length<=100000) (h2:∀z0 z1,br [2,3] aV Qh row [z0,z1,some (.t (.lst nums)),some (.b o)] []=some (outs,[z0,z1,some (.t (.lst nums)),some (.b o)])):
  br [0,8,4] aV Tu [.lst (.int u :: rest)] [some (.t nt),z1,z2,z3,some (.m o),z5,z6,z7,some (.t (.lst nums)),z9,gB,iQ] acc=some (acc++[.tup outs],[some (.t nt),z1,z2,z3,some (.m o),z5,z6,z7,some (.t (.lst nums)),z9,gB,iQ]):=by
 have e0:dW (D.int u :: rest) 0=some (.int u):=Sq.oO (Int.le_refl 0) rfl
 simp[br,bS,fW,e0,h1,fY,cF,hl,h2,aP]
theorem EZ {wt:D}{rest acc:List D}{u:Int}{x:D}{z0 z2 z3 z4 z5 z6 z7 z8 z9 gB iQ:Option U}(h:dZ (.t wt) (.int u)=some x):br [1] aV (bg 1 (bg 0 (eC (.int 0)))) [.lst (.int u :: rest)] [z0,some (.t wt),z2,z3,z4,z5,z6,z7,z8,z9,gB,iQ] acc=some (acc++[x],[z0,some (.t wt),z2,z3,z4,z5,z6,z7,z8,z9,gB,iQ]):=by
 have e0:dW (D.int u :: rest) 0=some (.int u):=Sq.oO (Int.le_refl 0) rfl
 simp[br,bS,fW,e0,h,aP]
section
variable {W:Nat}{N:List (List Int)}{L ns:List Nat}{c:Nat}{nt:D}{z1 z2 z3 z5 z6 z7 z9 gB iQ:Option U}
theorem IB (mo:pN W N) (hW:W < 1000) (hn:nt= .tup (N.map Sq.bT)\/nt= .lst (N.map Sq.bT)) (hL:∀v∈L,v < N.length) (cl:∀s c,s < L.length->c < W->gm N (na L s) c∈L) (hl:ns.length=L.length) (hc:vZ ns c):
  br [0,8,4] aV Tu ((pO L ns c ns.length).map D.lst) [some (.t nt),z1,z2,z3,some (.m (oq L)),z5,z6,z7,some (.t (.lst (iD ns))),z9,gB,iQ] []=some ((List.range c).map fun k=>.tup (fC W fun col=>oR L ns (gm N (na L (ns.idxOf k)) col)),[some (.t nt),z1,z2,z3,some (.m (oq L)),z5,z6,z7,some (.t (.lst (iD ns))),z9,gB,iQ]):=by
 unfold pO
 rw[List.map_map]
 refine(jS (D.lst ∘ gr L ns ns.length) (fun k=>.tup (fC W fun col=>oR L ns (gm N (na L (ns.idxOf k)) col))) (List.range c) [] fun k hk acc=>?_).trans (by rw[List.nil_append])
 have hk:=List.mem_range.mp hk
 obtain⟨il,_⟩:=i7 hc hk
 obtain⟨rest,er⟩:=zH (L:=L) hc hk
 show br _ _ _ [.lst (gr L ns ns.length k)] _ _=_
 rw[er]
 exact C5 (row:=fC W (gm N (na L (ns.idxOf k)))) (by rw[wA hn];exact uI mo (hL _ (dR (by omega)))) (by rw[iF];omega) fun z0 z1=>IA hl fun col qX=>cl _ col (by omega) qX
theorem L1 {wt:D}{M:List D}{z0 z4 z8:Option U}(hw:wt= .tup M\/wt= .lst M) (hL:∀v∈L,v < M.length) (hl:ns.length=L.length) (hc:vZ ns c):
  br [1] aV (bg 1 (bg 0 (eC (.int 0)))) ((pO L ns c ns.length).map D.lst) [z0,some (.t wt),z2,z3,z4,z5,z6,z7,z8,z9,gB,iQ] []=some ((List.range c).map fun k=>g9 M (na L (ns.idxOf k)),[z0,some (.t wt),z2,z3,z4,z5,z6,z7,z8,z9,gB,iQ]):=by
 unfold pO
 rw[List.map_map]
 refine(jS (D.lst ∘ gr L ns ns.length) (fun k=>g9 M (na L (ns.idxOf k))) (List.range c) [] fun k hk acc=>?_).trans (by rw[List.nil_append])
 have hk:=List.mem_range.mp hk
 obtain⟨il,_⟩:=i7 hc hk
 obtain⟨rest,er⟩:=zH (L:=L) hc hk
 show br _ _ _ [.lst (gr L ns ns.length k)] _ _=_
 rw[er]
 exact EZ (by rw[wA hw];exact wj (hL _ (dR (by omega))))
end
section
variable {W:Nat}{N:List (List Int)}{M:List D}{L ns:List Nat}{c a:Nat}
theorem uJ (cl:∀s c,s < L.length->c < W->gm N (na L s) c∈L):∀(cs:List Nat) (p:Nat),Vd W cs->p < L.length->led (sR N L) cs p < L.length/\na L (led (sR N L) cs p)=led (gm N) cs (na L p)
 | [],p,_,hp=>⟨hp,rfl⟩
 | col :: cs,p,hc,hp=>by
  have m:=cl p col hp (hc col List.mem_cons_self)
  obtain⟨l,e⟩:=jB m
  have:=uJ cl cs (sR N L p col) (fun d hd=>hc d (List.mem_cons_of_mem _ hd)) l
  refine⟨this.1,this.2.trans ?_⟩
  show led (gm N) cs (na L (L.idxOf (gm N (na L p) col)))=led (gm N) cs (gm N (na L p) col)
  rw[e]
theorem yg (hB:Bf (gm N) (fun v=>v) W L a 0) (ha:L.length<=a) (P:Part L.length W (sR N L) (fun s=>g9 M (na L s)) ns c) (st:Iq L.length W (sR N L) ns):
  Canon W c (sO (gm N) (oR L ns) (rep L ns c)) (fun s=>g9 M (na (rep L ns c) s))/\(∀cs,Vd W cs->g9 M (na (rep L ns c) (led (sO (gm N) (oR L ns) (rep L ns c)) cs 0))=g9 M (led (gm N) cs 0))/\
  ∀k col,k < c->col < W->sO (gm N) (oR L ns) (rep L ns c) k col=oR L ns (gm N (na L (ns.idxOf k)) col):=by
 have nd:L.Nodup:=by have:=hB.nd;rwa [List.map_id'] at this
 have l0:0 < L.length:=(List.getElem?_eq_some_iff.mp hB.zero).1
 have cl:∀s c,s < L.length->c < W->gm N (na L s) c∈L:=fun s col hs hc=>by
  have:=hB.seen s col _ hc (by unfold Er;omega) (cj hs)
  rwa [List.map_id'] at this
 have m0:0∈L:=List.mem_of_getElem? hB.zero
 have bf:=Il hB ha P.len P.cls P.fo fun s t col hs ht qX e=>st s t col hs ht qX e
 have rl:(rep L ns c).length=c:=by unfold rep;rw[List.length_map,List.length_range]
 have C:LS (gm N) (g9 M) (oR L ns) W (fun v=>v∈L):=⟨m0,fun s col hs hc=>by
   have:=cl _ col (jB hs).1 hc
   rwa [(jB hs).2] at this,fun s t col hs ht hc e=>by
   have:=st _ _ col (jB hs).1 (jB ht).1 hc e
   unfold sR at this
   rw[(jB hs).2,(jB ht).2] at this
   exact this,fun s t hs ht e=>by
   have:=P.word _ _ (jB hs).1 (jB ht).1 e
   rw[(jB hs).2,(jB ht).2] at this
   exact this,fun s t hs ht ne=>by
   obtain⟨cs,v,q⟩:=P.ne _ _ (jB hs).1 (jB ht).1 ne
   refine⟨cs,v,?_⟩
   rw[(uJ cl cs _ v (jB hs).1).2,(uJ cl cs _ v (jB ht).1).2,(jB hs).2,(jB ht).2] at q
   exact q⟩
 have hP:∀v∈rep L ns c,v∈L:=fun v hv=>by
  obtain⟨k,hk,rfl⟩:=List.mem_map.mp hv
  have:=(i7 P.cls (List.mem_range.mp hk)).1
  exact dR (by rw[<-P.len];exact this)
 obtain⟨cn,bh⟩:=canon_of C bf (Nat.le_refl _) hP
 rw[rl] at cn
 refine⟨cn,bh,fun k col hk qX=>?_⟩
 have rk:na (rep L ns c) k=na L (ns.idxOf k):=qU hk
 unfold sO ix
 rw[rk,zD nd P.len P.cls]
 have m:=cl (ns.idxOf k) col (by rw[<-P.len];exact(i7 P.cls hk).1) qX
 have lt:oR L ns (gm N (na L (ns.idxOf k)) col) < c:=P.cls.lt _ (dR (by rw[P.len];exact(jB m).1))
 have:=List.nodup_range.idxOf_getElem (xs:=List.range c) (oR L ns (gm N (na L (ns.idxOf k)) col)) (by rw[List.length_range];exact lt)
 rwa [List.getElem_range] at this
end
theorem qY {m W:Nat}{f g:Nat->Nat->Nat}(h:∀s c,s < m->c < W->f s c=g s c):aY m W f=aY m W g:=by
 unfold aY
 refine List.map_congr_left fun s hs=>?_
 unfold fC
 congr 1
 exact List.map_congr_left fun c hc=>by rw[h s c (List.mem_range.mp hs) (List.mem_range.mp hc)]
theorem C6 {W : Nat} {N : List (List Int)} {M : List D} {nt wt md : D} (mo : pN W N) (hW : W < 1000) (hn : nt = .tup (N.map Sq.bT) \/ nt = .lst (N.map Sq.bT)) (hM : M.length = N.length) (hw : wt = .tup M \/ wt = .lst M) (Vr : ∀ x ∈ M, Wd x)
    (hmd:md= .dg\/∃k:Int,md= .int k/\∀L ns c a,Bf (gm N) (fun v=>v) W L a 0->L.length<=a->(∀v∈L,v < N.length)->Part L.length W (sR N L) (fun s=>g9 M (na L s)) ns c->(c:Int)<=k):
    ∃n' nx' kF gs,i8 [.t nt,.t wt,.t md]=some (.t (.tup [.tup (aY n' W nx'),.tup ((List.range n').map kF),.lst gs]),[])/\Canon W n' nx' kF/\(∀cs,Vd W cs->kF (led nx' cs 0)=g9 M (led (gm N) cs 0))/\n'<=N.length/\(∀s,s < n'->kF s∈M)/\gs.length<=N.length/\∀g∈gs,∃vs:List Nat,g= .lst (iD vs)/\vs.length<=N.length/\∀v∈vs,v < N.length:=by
  have few:=mo.few
  obtain⟨L,e0,hL,a,hB,ha⟩:=CT mo hn
  have nd:L.Nodup:=by have:=hB.nd;rwa [List.map_id'] at this
  have l0:0 < L.length:=(List.getElem?_eq_some_iff.mp hB.zero).1
  have lf:=qW nd hL
  have Nr:∀v∈L,v < M.length:=fun v hv=>by rw[hM];exact hL v hv
  have cl:∀s c,s < L.length->c < W->gm N (na L s) c∈L:=fun s col hs hc=>by
    have:=hB.seen s col _ hc (by unfold Er;omega) (cj hs)
    rwa [List.map_id'] at this
  obtain⟨ns,c,e4,P,st⟩:=ET (m:=L.length) (W:=W) (f:=sR N L) (wd:=fun s=>g9 M (na L s)) (md:=md) l0 (by omega) hW (fun s col hs hc=>(jB (cl s col hs hc)).1) (fun s hs=>Vr _ (qQ (Nr _ (dR hs)))) (hmd.imp id fun⟨k,z1,z2⟩=>⟨k,z1,fun ns c P=>z2 L ns c a hB ha hL P⟩)
  have AM:=P.len
  have Tt:=uH P.cls
  obtain⟨cn,bh,rows⟩:=yg (M:=M) hB ha P st
  refine⟨c,sO (gm N) (oR L ns) (rep L ns c),fun s=>g9 M (na (rep L ns c) s),(pO L ns c ns.length).map D.lst,?_,cn,bh,by omega,fun s hs=>?_,by rw[List.length_map,lV];omega,fun g hg=>?_⟩
  . have eL:(iD L).length<=100000:=by unfold iD;rw[List.length_map];omega
    have eG:((pO L ns c ns.length).map D.lst).length<=100000:=by rw[List.length_map,lV];omega
    have s0:P4 reachF iM [some (.t nt),some (.t wt),some (.t md),none,none,none,none,none,none,none,none,none]=some (.nx [some (.t nt),some (.t wt),some (.t md),some (.m (.lst (iD L))),none,none,none,none,none,none,none,none]):=by
      generalize reachF=f1 at e0
      simp[P4,e0]
    have s1:P5 reachF iM [some (.t nt),some (.t wt),some (.t md),some (.m (.lst (iD L))),none,none,none,none,none,none,none,none]=some (.nx [some (.t nt),some (.t wt),some (.t md),some (.m (.lst (iD L))),some (.m (.dct [])),none,none,none,none,none,none,none]):=by simp[P5]
    obtain⟨y5,y6,h5,lp⟩:=EV (f1:=reachF) (f2:=iM) (z0:=some (.t nt)) (z1:=some (.t wt)) (z2:=some (.t md)) (z3:=some (.t (.lst (iD L)))) (y7:=none) (y8:=none) (y9:=none) (CL:=none) (Gr:=none) nd (by omega)
    have s2:P6 reachF iM [some (.t nt),some (.t wt),some (.t md),some (.m (.lst (iD L))),some (.m (.dct [])),none,none,none,none,none,none,none]=some (.nx [some (.t nt),some (.t wt),some (.t md),some (.t (.lst (iD L))),some (.m (oq L)),y5,y6,none,none,none,none,none]):=by
      unfold P6
      rw[uz]
      exact lp
    have s3:P7 reachF iM [some (.t nt),some (.t wt),some (.t md),some (.t (.lst (iD L))),some (.m (oq L)),y5,y6,none,none,none,none,none]=some (.nx [some (.t nt),some (.t wt),some (.t md),some (.t (.lst (iD L))),some (.m (oq L)),y5,y6,some (.m (.lst (aY L.length W (sR N L)))),none,none,none,none]):=by
      have:=Iv (L:=L) (z1:=some (.t wt)) (z2:=some (.t md)) (z3:=some (.t (.lst (iD L)))) (z5:=y5) (z6:=y6) (z7:=none) (z8:=none) (z9:=none) (gB:=none) (iQ:=none) mo hW hn hL cl
      generalize iD L=l at this eL ⊢
      simp[P7,fY,cF,eL,this]
    have s4:P8 reachF iM [some (.t nt),some (.t wt),some (.t md),some (.t (.lst (iD L))),some (.m (oq L)),y5,y6,some (.m (.lst (aY L.length W (sR N L)))),none,none,none,none]=some (.nx [some (.t nt),some (.t wt),some (.t md),some (.t (.lst (iD L))),some (.m (oq L)),y5,y6,some (.t (.lst (aY L.length W (sR N L)))),some (.t (.lst (iD ns))),none,none,none]):=by
      have:=fun z7=>L0 (L:=L) (z0:=some (.t nt)) (z2:=some (.t md)) (z3:=some (.t (.lst (iD L)))) (z4:=some (.m (oq L))) (z5:=y5) (z6:=y6) (z7:=z7) (z8:=none) (z9:=none) (gB:=none) (iQ:=none) hw Nr
      generalize iM=f2 at e4
      generalize iD L=l at this eL ⊢
      generalize aY L.length W (sR N L)=rr at e4 ⊢
      simp[P8,fY,cF,eL,this,e4]
    have s5:=C3 (f1:=reachF) (f2:=iM) (z0:=some (.t nt)) (z1:=some (.t wt)) (z2:=some (.t md)) (z4:=some (.m (oq L))) (z6:=y6) (z7:=some (.t (.lst (aY L.length W (sR N L))))) (iQ:=none) (L:=L) (y5:=y5) h5 P.cls AM (by omega) (by omega)
    have s7:Qd reachF iM (gS (some (.t nt)) (some (.t wt)) (some (.t md)) (some (.m (oq L))) y6 (some (.t (.lst (aY L.length W (sR N L))))) none L ns (.t (.lst ((pO L ns c ns.length).map D.lst))) (yI y5 ns.length) (yN ns ns.length))=some (.nx (gS (some (.t nt)) (some (.t wt)) (some (.t md)) (some (.m (oq L))) y6 (some (.t (.lst (aY L.length W (sR N L))))) (some (.m (.lst (aY c W (sO (gm N) (oR L ns) (rep L ns c)))))) L ns (.t (.lst ((pO L ns c ns.length).map D.lst))) (yI y5 ns.length) (yN ns ns.length))):=by
      have:=fun z3 z5 z9 gB=>IB (L:=L) (ns:=ns) (c:=c) (z1:=some (.t wt)) (z2:=some (.t md)) (z3:=z3) (z5:=z5) (z6:=y6) (z7:=some (.t (.lst (aY L.length W (sR N L))))) (z9:=z9) (gB:=gB) (iQ:=none) mo hW hn hL cl AM P.cls
      have er:((List.range c).map fun k=>D.tup (fC W fun col=>oR L ns (gm N (na L (ns.idxOf k)) col)))=aY c W (sO (gm N) (oR L ns) (rep L ns c)):=by
        rw[<-qY fun s col hs qX=>(rows s col hs qX).symm]
        rfl
      rw[er] at this
      generalize aY c W (sO (gm N) (oR L ns) (rep L ns c))=rr at this ⊢
      generalize (pO L ns c ns.length).map D.lst=gg at this eG ⊢
      simp[Qd,gS,fY,cF,eG,this]
    have all:∃S,Qe reachF iM (gS (some (.t nt)) (some (.t wt)) (some (.t md)) (some (.m (oq L))) y6 (some (.t (.lst (aY L.length W (sR N L))))) (some (.m (.lst (aY c W (sO (gm N) (oR L ns) (rep L ns c)))))) L ns (.t (.lst ((pO L ns c ns.length).map D.lst))) (yI y5 ns.length) (yN ns ns.length))=some (.rt (.t (.tup [.tup (aY c W (sO (gm N) (oR L ns) (rep L ns c))),.tup ((List.range c).map fun s=>g9 M (na (rep L ns c) s)),.lst ((pO L ns c ns.length).map D.lst)])) (some (.t nt) :: some (.t wt) :: some (.t md) :: S)):=by
      have:=fun z3 z5 z9 gB iQ=>L1 (L:=L) (ns:=ns) (c:=c) (z0:=some (.t nt)) (z2:=some (.t md)) (z3:=z3) (z4:=some (.m (oq L))) (z5:=z5) (z6:=y6) (z7:=some (.t (.lst (aY L.length W (sR N L))))) (z8:=some (.t (.lst (iD ns)))) (z9:=z9) (gB:=gB) (iQ:=iQ) hw Nr AM P.cls
      have er:((List.range c).map fun k=>g9 M (na L (ns.idxOf k)))=(List.range c).map fun s=>g9 M (na (rep L ns c) s):=List.map_congr_left fun k hk=>by
        rw[show na (rep L ns c) k=na L (ns.idxOf k) from qU (List.mem_range.mp hk)]
      rw[er] at this
      generalize aY c W (sO (gm N) (oR L ns) (rep L ns c))=rr at this ⊢
      generalize (pO L ns c ns.length).map D.lst=gg at this eG ⊢
      generalize ((List.range c).map fun s=>g9 M (na (rep L ns c) s))=ww at this ⊢
      exact⟨_,by simp[Qe,gS,fY,cF,eG,this];rfl⟩
    obtain⟨S,all⟩:=all
    refine qR (S:=some (.t nt) :: some (.t wt) :: some (.t md) :: S) ?_ rfl
    show cY reachF iM [some (.t nt),some (.t wt),some (.t md),none,none,none,none,none,none,none,none,none]=_
    rw[LZ,Sq.bE s0,Sq.bE s1,Sq.bE s2,Sq.bE s3,Sq.bE s4,Sq.bE s5,Sq.bE s7]
    exact all
  . show g9 M (na (rep L ns c) s)∈M
    rw[show na (rep L ns c) s=na L (ns.idxOf s) from qU hs]
    exact qQ (Nr _ (dR (by rw[<-AM];exact(i7 P.cls hs).1)))
  . obtain⟨x,hx,rfl⟩:=List.mem_map.mp hg
    unfold pO at hx
    obtain⟨k,_,rfl⟩:=List.mem_map.mp hx
    have fl:((List.range ns.length).filter fun i=>na ns i == k).length<=N.length:=Nat.le_trans (List.length_filter_le _ _) (by rw[List.length_range];omega)
    refine⟨((List.range ns.length).filter fun i=>na ns i == k).map (na L),?_,by rw[List.length_map];exact fl,fun v hv=>?_⟩
    . unfold gr iD
      rw[List.map_map]
      rfl
    . obtain⟨i,hi,rfl⟩:=List.mem_map.mp hv
      have:=List.mem_range.mp (List.mem_filter.mp hi).1
      exact hL _ (dR (by omega))
end Sk
end
section
namespace So
open PySem PySem.Spec PyProof.Rows L2 Sw Sl Sk
noncomputable def cS (p:Nat×Nat):D:=.tup [.int (p.1:Nat),.int (p.2:Nat)]
theorem zI {p q:Nat×Nat}(h:cS p=cS q):p=q:=by
 unfold cS at h
 injection h with h
 injection h with h1 h2
 injection h2 with h2 _
 injection h1 with h1
 injection h2 with h2
 exact Prod.ext (by omega) (by omega)
theorem uK (p:Nat×Nat):jk (cS p)=some (cS p):=oU [p.1,p.2]
theorem pZ {P:List (Nat×Nat)}{q:Nat×Nat}:cS q∈P.map cS↔q∈P:=by
 rw[List.mem_map]
 exact⟨fun⟨p,h,e⟩=>zI e▸h,fun h=>⟨q,h,rfl⟩⟩
theorem zJ:∀{P:List (Nat×Nat)}{q:Nat×Nat},(P.map cS).idxOf (cS q)=P.idxOf q
  | [],_=>rfl
  | p :: P, q => by
    rw[List.map_cons,List.idxOf_cons,List.idxOf_cons,zJ]
    by_cases e:p=q
    . subst e;simp
    . have:cS p≠cS q:=fun z=>e (zI z)
      rw[beq_eq_false_iff_ne.mpr e,beq_eq_false_iff_ne.mpr this]
noncomputable def xg (P:List (Nat×Nat)) (q:Nat×Nat):List (Nat×Nat):=if q∈P then P else P++[q]
theorem zK (P:List (Nat×Nat)) (q:Nat×Nat):q∈xg P q:=by
 unfold xg
 split
 ·assumption
 ·simp
theorem E1 (P:List (Nat×Nat)) (q:Nat×Nat):∃E,xg P q=P++E/\∀r∈E,r=q:=by
 unfold xg
 split
 ·exact⟨[],by simp,by simp⟩
 ·exact⟨[q],rfl,by simp⟩
theorem IC {P:List (Nat×Nat)}(q:Nat×Nat) (h:P.Nodup):(xg P q).Nodup:=by
 unfold xg
 split
 ·exact h
 ·rename_i m
  rw[List.nodup_append]
  exact⟨h,by simp,fun x hx y hy e=>m (by rw[List.mem_singleton] at hy;rw[<-hy,<-e];exact hx)⟩
theorem zL {P E:List (Nat×Nat)}{r:Nat×Nat}(h:r∈P):(P++E).idxOf r=P.idxOf r:=by rw[List.idxOf_append,if_pos h]
noncomputable def st2 (f g:Nat->Nat->Nat) (p:Nat×Nat) (c:Nat):Nat×Nat:=(f p.1 c,g p.2 c)
noncomputable def Rc (W:Nat) (f g:Nat->Nat->Nat) (p:Nat×Nat):Prop:=∃cs,Vd W cs/\p=(led f cs 0,led g cs 0)
theorem E3 {W:Nat}{f g:Nat->Nat->Nat}:Rc W f g (0,0):=⟨[],fun c hc=>(by cases hc),rfl⟩
theorem L3 {W:Nat}{f g:Nat->Nat->Nat}{p:Nat×Nat}{c:Nat}(h:Rc W f g p) (hc:c < W):Rc W f g (st2 f g p c):=by
 obtain⟨cs,v,rfl⟩:=h
 exact⟨cs++[c],i6 v (qT hc),by rw[dB,dB];rfl⟩
noncomputable def mD (W:Nat) (k:List Nat->Nat) (f:Nat->Nat->Nat):Prop:=∀cs ds,Vd W cs->Vd W ds->k cs=k ds->led f cs 0=led f ds 0
theorem E4 {W m:Nat}{k:List Nat->Nat}{f g:Nat->Nat->Nat}{P:List (Nat×Nat)}(hk:∀cs,Vd W cs->k cs < m) (hf:mD W k f) (hg:mD W k g) (nd:P.Nodup) (hr:∀p∈P,Rc W f g p):P.length<=m:=by
 have ex:∃n:Nat×Nat->Nat,∀p∈P,∃cs,Vd W cs/\p=(led f cs 0,led g cs 0)/\n p=k cs:=by
  refine⟨fun p=>open Classical in if h:Rc W f g p then k (Classical.choose h) else 0,fun p hp=>?_⟩
  have h:=hr p hp
  obtain⟨v,e⟩:=Classical.choose_spec h
  exact⟨Classical.choose h,v,e,dif_pos h⟩
 obtain⟨n,hn⟩:=ex
 have Ge:(P.map n).Nodup:=by
  unfold List.Nodup at nd ⊢
  rw[List.pairwise_map]
  refine nd.imp_of_mem fun {a b} ha hb ne e=>ne ?_
  obtain⟨cs,v,e1,e2⟩:=hn a ha
  obtain⟨ds,w,e3,e4⟩:=hn b hb
  have q:k cs=k ds:=by rw[<-e2,<-e4,e]
  rw[e1,e3,hf cs ds v w q,hg cs ds v w q]
 have:=qW Ge (n:=m) fun v hv=>by
  obtain⟨p,hp,rfl⟩:=List.mem_map.mp hv
  obtain⟨cs,v,_,e⟩:=hn p hp
  rw[e]
  exact hk cs v
 rwa [List.length_map] at this
noncomputable def pa (P:List (Nat×Nat)) (i:Nat):Nat×Nat:=P.getD i (0,0)
theorem uL {P:List (Nat×Nat)}{i:Nat}(h:i < P.length):P[i]? =some (pa P i):=by
 unfold pa
 rw[List.getD_eq_getElem?_getD,List.getElem?_eq_getElem h]
 rfl
theorem C7 {P:List (Nat×Nat)}{i:Nat}(h:i < P.length):pa P i∈P:=List.mem_of_getElem? (uL h)
theorem yh {P E:List (Nat×Nat)}{i:Nat}(h:i < P.length):pa (P++E) i=pa P i:=by
 unfold pa
 rw[List.getD_eq_getElem?_getD,List.getD_eq_getElem?_getD,List.getElem?_append_left h]
theorem ID {P:List (Nat×Nat)}{q:Nat×Nat}(h:q∈P):pa P (P.idxOf q)=q:=by
 have l:=List.idxOf_lt_length_of_mem h
 unfold pa
 rw[List.getD_eq_getElem?_getD,List.getElem?_eq_getElem l,Option.getD_some]
 exact List.getElem_idxOf l
noncomputable def fx (f g:Nat->Nat->Nat) (P:List (Nat×Nat)) (i c:Nat):Nat:=P.idxOf (st2 f g (pa P i) c)
structure Fd (W:Nat) (f g:Nat->Nat->Nat) (P:List (Nat×Nat)) (a:Nat):Prop where
 zero:P[0]? =some (0,0)
 nd:P.Nodup
 rc:∀p∈P,Rc W f g p
 seen:∀i c,i < a->c < W->st2 f g (pa P i) c∈P
 le:a<=P.length
theorem E5 {W:Nat}{f g:Nat->Nat->Nat}:Fd W f g [(0,0)] 0:=
 ⟨rfl,by simp,fun p hp=>by rw[List.mem_singleton.mp hp];exact E3,fun i c h=>by omega,by omega⟩
theorem zip_rows (W:Nat) (f g:Nat->Nat):List.zipWith (fun a b=>D.tup [a,b]) (fC W f) (fC W g)=(List.range W).map fun c=>cS (f c,g c):=by
 unfold fC
 apply List.ext_getElem?
 intro i
 rw[List.getElem?_zipWith,List.getElem?_map,List.getElem?_map,List.getElem?_map]
 by_cases h:i < W
 ·rw[List.getElem?_range h];rfl
 ·rw[List.getElem?_eq_none (by rw[List.length_range];omega)];rfl
noncomputable def ig:GS:=
 (aZ (oG (qB (oK true 3 (eF (ak 7)))) (aZ (qE 3 (eF (ak 7)) (jA 2))
 (pA (eT (eM 2 hAppend (aa (eF (ak 7)) aC))))) gX)
 (pA (eT (eM 6 hAppend (aa (bg 3 (eF (ak 7))) aC)))))
noncomputable def lW:GS:=
 (aZ (bJ 5 (eT (bg 2 (jA 4))))
 (aZ (bJ 6 (eP iK aC))
 (aZ (j9 (bName 7) (zg (aa (bg 0 (bg 5 (eC (.int 0)))) (aa (bg 1 (bg 5 (eC (.int 1)))) aC))) (ig))
 (pA (eT (eM 4 hAppend (aa (eF (eP cE (aa (eF (ak 6)) aC))) aC)))))))
noncomputable def jT:GS:=
 (aZ (bJ 2 (eP iK (aa (eF (eP dF (aa (eC (.int 0)) (aa (eC (.int 0)) aC)))) aC)))
 (aZ (bJ 3 (xQ (eF (eP dF (aa (eC (.int 0)) (aa (eC (.int 0)) aC)))) (eC (.int 0))))
 (aZ (bJ 4 (eP iK aC))
 (aZ (mY 100000 (qB (eF (eP D5 (aa (jA 4) (aa (jA 2) aC))))) (lW))
 (cT (eP dF (aa (eF (ak 2)) (aa (eF (ak 4)) aC))))))))
noncomputable def pairF:FM:=bM 8 jT
theorem C8:∀us r,pairF us=some r->bM 8 jT us=some r:=fun _ _ h=>h
section
variable {z0 z1 z4 z5:Option U}{P:List (Nat×Nat)}{q:Nat×Nat}{ld:List D}
theorem E6 (hl:P.length < 1000) (hb:ld.length < 1000):
  ig [z0,z1,some (.m (.lst (P.map cS))),some (.m (.iO (ent 0 (P.map cS)))),z4,z5,some (.m (.lst ld)),some (.t (cS q))]=some (.nx [z0,z1,some (.m (.lst ((xg P q).map cS))),some (.m (.iO (ent 0 ((xg P q).map cS)))),z4,z5,some (.m (.lst (ld++[.int ((xg P q).idxOf q:Nat)]))),some (.t (cS q))]):=by
 have h1:=EE.has (ent 0 (P.map cS)) (cS q) (cS q) (uK q)
 have r2:=EE.rd (ent 0 ((xg P q).map cS)) (cS q) (cS q) (uK q)
 rw[jR (pZ.mpr (zK P q)),zJ] at r2
 have lz:ld.length < 100000:=by omega
 by_cases m:q∈P
 ·rw[jR (pZ.mpr m)] at h1
  have e:xg P q=P:=if_pos m
  rw[e] at r2 ⊢
  generalize cS q=d at *
  simp[ig,oK,h1,r2,lz,kg,B6,hAppend]
 ·rw[jv 0 (fun z=>m (pZ.mp z))] at h1
  have w:=EE.wr (ent 0 (P.map cS)) (cS q) (cS q) (.int ((P.map cS).length:Nat)) (uK q) (by rw[nQ,List.length_map];omega)
  rw[uF (fun z=>m (pZ.mp z))] at w
  have e:xg P q=P++[q]:=if_neg m
  have em:(xg P q).map cS=P.map cS++[cS q]:=by rw[e,List.map_append];rfl
  have pz:(P.map cS).length < 100000:=by rw[List.length_map];omega
  rw[em] at r2 ⊢
  generalize cS q=d at *
  generalize P.map cS=pd at *
  generalize (xg P q).idxOf q=ii at *
  simp[ig,oK,h1,w,r2,lz,pz,kg,B6,hAppend]
end
section
variable {W m:Nat}{f g:Nat->Nat->Nat}{k:List Nat->Nat}{z0 z1 z4 z5:Option U}
theorem IE (hk : ∀ cs, Vd W cs -> k cs < m) (hf : mD W k f) (hg : mD W k g) (hm : m <= 300) (hW : W < 900) {P : List (Nat × Nat)} {a : Nat} {x7 : Option U} (F : Fd W f g P a) (ha : a < P.length) (h7 : mC x7 = false) :
    ∃P' AO,loop (bName 7) ig ((List.range W).map fun c=>cS (st2 f g (pa P a) c)) [z0,z1,some (.m (.lst (P.map cS))),some (.m (.iO (ent 0 (P.map cS)))),z4,z5,some (.m (.lst [])),x7]=some (.nx [z0,z1,some (.m (.lst (P'.map cS))),some (.m (.iO (ent 0 (P'.map cS)))),z4,z5,some (.m (.lst (fC W (fx f g P' a)))),AO])/\Fd W f g P' (a+1)/\(∃E,P'=P++E)/\mC AO=false:=by
  obtain⟨S',e,P',AO,b1,b2,b3,b4,b5,b6,rfl⟩:=nO (bd:=bName 7) (body:=ig) ((List.range W).map fun c=>cS (st2 f g (pa P a) c))
    (fun j S=>∃P' AO,P'.Nodup/\(∀p∈P',Rc W f g p)/\(∃E,P'=P++E)/\(∀c,c < j->st2 f g (pa P a) c∈P')/\mC AO=false/\j<=W/\S=[z0,z1,some (.m (.lst (P'.map cS))),some (.m (.iO (ent 0 (P'.map cS)))),z4,z5,some (.m (.lst ((List.range j).map fun c=>D.int (P'.idxOf (st2 f g (pa P a) c):Nat)))),AO])
    _ ⟨P,x7,F.nd,F.rc,⟨[],by simp⟩,fun c h=>by omega,h7,Nat.zero_le _,rfl⟩ (by
    rintro j d S hd ⟨P',AO,b1,b2,⟨E,b3⟩,b4,b5,b6,rfl⟩
    have hj:j < W:=by
      have:=(List.getElem?_eq_some_iff.mp hd).1
      rwa [List.length_map,List.length_range] at this
    rw[List.getElem?_map,List.getElem?_range hj] at hd
    have hd:cS (st2 f g (pa P a) j)=d:=Option.some.inj hd
    subst hd
    have lf:=E4 hk hf hg b1 b2
    have rq:Rc W f g (st2 f g (pa P a) j):=L3 (F.rc _ (C7 ha)) hj
    obtain⟨E2,e2,e3⟩:=E1 P' (st2 f g (pa P a) j)
    have tn:=E6 (z0:=z0) (z1:=z1) (z4:=z4) (z5:=z5) (P:=P') (q:=st2 f g (pa P a) j) (ld:=(List.range j).map fun c=>D.int (P'.idxOf (st2 f g (pa P a) c):Nat)) (by omega) (by rw[List.length_map,List.length_range];omega)
    refine⟨[z0,z1,some (.m (.lst (P'.map cS))),some (.m (.iO (ent 0 (P'.map cS)))),z4,z5,some (.m (.lst ((List.range j).map fun c=>D.int (P'.idxOf (st2 f g (pa P a) c):Nat)))),some (.t (cS (st2 f g (pa P a) j)))],_,?_,tn,xg P' (st2 f g (pa P a) j),some (.t (cS (st2 f g (pa P a) j))),IC _ b1,fun p hp=>?_,⟨E++E2,by rw[e2,b3,List.append_assoc]⟩,fun c hc=>?_,rfl,hj,?_⟩
    . generalize cS (st2 f g (pa P a) j)=dd
      generalize P'.map cS=pd
      simp[-gZ,fO,b5]
    . rw[e2] at hp
      rcases List.mem_append.mp hp with q | q
      . exact b2 p q
      . rw[e3 p q];exact rq
    . by_cases q:c=j
      . subst q;exact zK _ _
      . rw[e2];exact List.mem_append_left _ (b4 c (by omega))
    . have:(List.range j).map (fun c=>D.int (P'.idxOf (st2 f g (pa P a) c):Nat))=(List.range j).map fun c=>D.int ((xg P' (st2 f g (pa P a) j)).idxOf (st2 f g (pa P a) c):Nat):=List.map_congr_left fun c hc=>by
        rw[e2,zL (b4 c (List.mem_range.mp hc))]
      rw[this,List.range_succ,List.map_append]
      rfl)
  rw[List.length_map,List.length_range] at b4
  obtain⟨E,L4⟩:=b3
  have pe:pa P' a=pa P a:=by rw[L4];exact yh ha
  refine⟨P',AO,?_,⟨?_,b1,b2,fun i c hi hc=>?_,?_⟩,⟨E,L4⟩,b5⟩
  . refine Eq.trans e ?_
    rw[List.length_map,List.length_range]
    unfold fC fx
    rw[pe]
  . rw[L4,List.getElem?_append_left (List.getElem?_eq_some_iff.mp F.zero).1];exact F.zero
  . by_cases q:i=a
    . subst q;rw[pe];exact b4 c hc
    . have Vs:i < a:=by omega
      have:=F.seen i c Vs hc
      rw[L4,yh (by omega)]
      exact List.mem_append_left _ this
  . rw[L4,List.length_append];omega
theorem AQ {P E:List (Nat×Nat)}{a:Nat}(F:Fd W f g P a):aY a W (fx f g (P++E))=aY a W (fx f g P):=qY fun s c hs hc=>by
 have:=F.le
 unfold fx
 rw[yh (by omega),zL (F.seen s c hs hc)]
theorem yi (a W:Nat) (h:Nat->Nat->Nat):aY a W h++[.tup (fC W (h a))]=aY (a+1) W h:=by
 unfold aY
 rw[List.range_succ,List.map_append]
 rfl
theorem E7 {od ud:D}{P P':List (Nat×Nat)}{rs row:List D}{a:Nat}{p:Nat×Nat}{r1 r2:List D}{x5 x6 x7 AO:Option U}(hr:rs.length=a) (ha:a < 1000) (hp:dW (P.map cS) (a:Int)=some (cS p)) (h1:dZ (.t od) (.int (p.1:Nat))=some (.tup r1)) (h2:dZ (.t ud) (.int (p.2:Nat))=some (.tup r2)) (h5:mC x5=false) (h6:mC x6=false)
  (lp:loop (bName 7) ig (List.zipWith (fun a b=>D.tup [a,b]) r1 r2) [some (.t od),some (.t ud),some (.m (.lst (P.map cS))),some (.m (.iO (ent 0 (P.map cS)))),some (.m (.lst rs)),some (.t (cS p)),some (.m (.lst [])),x7]=some (.nx [some (.t od),some (.t ud),some (.m (.lst (P'.map cS))),some (.m (.iO (ent 0 (P'.map cS)))),some (.m (.lst rs)),some (.t (cS p)),some (.m (.lst row)),AO])):
  lW [some (.t od),some (.t ud),some (.m (.lst (P.map cS))),some (.m (.iO (ent 0 (P.map cS)))),some (.m (.lst rs)),x5,x6,x7]=some (.nx [some (.t od),some (.t ud),some (.m (.lst (P'.map cS))),some (.m (.iO (ent 0 (P'.map cS)))),some (.m (.lst (rs++[.tup row]))),some (.t (cS p)),some (.t (.lst row)),AO]):=by
 have q1:dW [D.int (p.1:Nat),.int (p.2:Nat)] 0=some (.int (p.1:Nat)):=rfl
 have q2:dW [D.int (p.1:Nat),.int (p.2:Nat)] 1=some (.int (p.2:Nat)):=rfl
 have rz:rs.length < 100000:=by omega
 have hp:dW (P.map cS) (rs.length:Int)=some (cS p):=by rw[hr];exact hp
 generalize ent 0 (P.map cS)=kv at *
 generalize ent 0 (P'.map cS)=kv' at *
 generalize P.map cS=pd at *
 generalize P'.map cS=X7 at *
 unfold cS at *
 simp[-gZ,fO,lW,hp,h5,h6,q1,q2,h1,h2,zg,rN,lp,rz,kg,B6,hAppend]
theorem E8 {od ud:D}{P:List (Nat×Nat)}{rs:List D}{kv:List (D×D)}{x5 x6 x7:Option U}:(qB (eF (eP D5 (aa (jA 4) (aa (jA 2) aC))))) [some (.t od),some (.t ud),some (.m (.lst (P.map cS))),some (.m (.iO kv)),some (.m (.lst rs)),x5,x6,x7]=some (decide (rs.length < P.length),[some (.t od),some (.t ud),some (.m (.lst (P.map cS))),some (.m (.iO kv)),some (.m (.lst rs)),x5,x6,x7]):=by
 simp
theorem zM {n W s:Nat}{h:Nat->Nat->Nat}(hs:s < n):dZ (.t (.tup (aY n W h))) (.int (s:Nat))=some (.tup (fC W (h s))):=by
 have:dW (aY n W h) (s:Int)=some (.tup (fC W (h s))):=by
  rw[pS]
  unfold aY
  rw[List.getElem?_map,List.getElem?_range hs]
  rfl
 exact this
theorem zN {n1 n2:Nat}(hk:∀cs,Vd W cs->k cs < m) (hf:mD W k f) (hg:mD W k g) (hm:m<=300) (hW:W < 900) (l1:∀cs,Vd W cs->led f cs 0 < n1) (l2:∀cs,Vd W cs->led g cs 0 < n2):
  ∀(fu a:Nat) (P:List (Nat×Nat)) (x5 x6 x7:Option U),m < a+fu->Fd W f g P a->mC x5=false->mC x6=false->mC x7=false->
  ∃P' z3 z5 z6 z7,kP (qB (eF (eP D5 (aa (jA 4) (aa (jA 2) aC))))) lW fu [some (.t (.tup (aY n1 W f))),some (.t (.tup (aY n2 W g))),some (.m (.lst (P.map cS))),some (.m (.iO (ent 0 (P.map cS)))),some (.m (.lst (aY a W (fx f g P)))),x5,x6,x7]=some (.nx [some (.t (.tup (aY n1 W f))),some (.t (.tup (aY n2 W g))),some (.m (.lst (P'.map cS))),z3,some (.m (.lst (aY P'.length W (fx f g P')))),z5,z6,z7])/\Fd W f g P' P'.length
 | 0,a,P,x5,x6,x7,hm',F,_,_,_=>by
  have:=E4 hk hf hg F.nd F.rc
  have:=F.le
  omega
 | fu+1,a,P,x5,x6,x7,hm',F,h5,h6,h7=>by
  have few:=E4 hk hf hg F.nd F.rc
  have le:=F.le
  unfold kP
  rw[show(qB (eF (eP D5 (aa (jA 4) (aa (jA 2) aC))))) [some (.t (.tup (aY n1 W f))),some (.t (.tup (aY n2 W g))),some (.m (.lst (P.map cS))),some (.m (.iO (ent 0 (P.map cS)))),some (.m (.lst (aY a W (fx f g P)))),x5,x6,x7]=_ from E8,Option.bind_some,sQ]
  by_cases c:a < P.length
  ·rw[decide_eq_true c]
   simp only[if_true]
   obtain⟨cs,v,ep⟩:=F.rc _ (C7 c)
   obtain⟨P',AO,e,F',⟨E,eE⟩,Vt⟩:=IE (z0:=some (.t (.tup (aY n1 W f)))) (z1:=some (.t (.tup (aY n2 W g)))) (z4:=some (.m (.lst (aY a W (fx f g P))))) (z5:=some (.t (cS (pa P a)))) hk hf hg hm hW F c h7
   have pp:dW (P.map cS) (a:Int)=some (cS (pa P a)):=pS (by rw[List.getElem?_map,uL c];rfl)
   have tn:=E7 (od:=.tup (aY n1 W f)) (ud:=.tup (aY n2 W g)) (x5:=x5) (x6:=x6) (sQ a W _) (by omega) pp (zM (by rw[ep];exact l1 cs v)) (zM (by rw[ep];exact l2 cs v)) h5 h6 (by rw[zip_rows];exact e)
   rw[tn,Option.bind_some]
   have rg:aY a W (fx f g P)=aY a W (fx f g P'):=by rw[eE,AQ F]
   show ∃X8 z3 z5 z6 z7,kP _ _ fu _=_/\_
   rw[rg,yi]
   exact zN hk hf hg hm hW l1 l2 fu (a+1) P' _ _ AO (by omega) F' rfl rfl Vt
  ·rw[decide_eq_false c]
   have:a=P.length:=by omega
   subst this
   exact⟨P,_,x5,x6,x7,rfl,F⟩
theorem E9 {n1 n2:Nat}(hk:∀cs,Vd W cs->k cs < m) (hf:mD W k f) (hg:mD W k g) (hm:m<=300) (hW:W < 900) (l1:∀cs,Vd W cs->led f cs 0 < n1) (l2:∀cs,Vd W cs->led g cs 0 < n2):
  ∃P,pairF [.t (.tup (aY n1 W f)),.t (.tup (aY n2 W g))]=some (.t (.tup [.lst (P.map cS),.lst (aY P.length W (fx f g P))]),[])/\Fd W f g P P.length/\P.length<=m:=by
 obtain⟨P,z3,z5,z6,z7,e,F⟩:=zN hk hf hg hm hW l1 l2 100000 0 [(0,0)] none none none (by omega) E5 rfl rfl rfl
 refine⟨P,?_,F,E4 hk hf hg F.nd F.rc⟩
 have k0:jk (.tup [.int 0,.int 0])=some (.tup [.int 0,.int 0]):=oU [0,0]
 have all:∃a b S,jT [some (.t (.tup (aY n1 W f))),some (.t (.tup (aY n2 W g))),none,none,none,none,none,none]=some (.rt (.t (.tup [.lst (P.map cS),.lst (aY P.length W (fx f g P))])) (some (.t a) :: some (.t b) :: S)):=by
  unfold jT
  generalize D.tup (aY n1 W f)=od at *
  generalize D.tup (aY n2 W g)=ud at *
  rw[Sq.bE (S1:=[some (.t od),some (.t ud),some (.m (.lst [cS (0,0)])),none,none,none,none,none]) rfl,
   Sq.bE (S1:=[some (.t od),some (.t ud),some (.m (.lst [cS (0,0)])),some (.m (.iO (ent 0 [cS (0,0)]))),none,none,none,none]) (by simp[xQ,k0,cS,ent]),
   Sq.bE (S1:=[some (.t od),some (.t ud),some (.m (.lst (List.map cS [(0,0)]))),some (.m (.iO (ent 0 (List.map cS [(0,0)])))),some (.m (.lst (aY 0 W (fx f g [(0,0)])))),none,none,none]) rfl,Sq.bE (show mY 100000 _ _ _=_ from e)]
  generalize P.map cS=pd
  generalize aY P.length W (fx f g P)=rr
  exact⟨_,_,_,by simp;exact⟨rfl,rfl,rfl⟩⟩
 obtain⟨a,b,S,all⟩:=all
 exact qR (S:=some (.t a) :: some (.t b) :: S) all rfl
end
noncomputable def toN (m W:Nat) (h:Nat->Nat->Nat):List (List Int):=(List.range m).map fun p=>(List.range W).map fun c=>((h p c:Nat):Int)
theorem kB (m W:Nat) (h:Nat->Nat->Nat):(toN m W h).length=m:=by unfold toN;rw[List.length_map,List.length_range]
theorem L5 (m W:Nat) (h:Nat->Nat->Nat):(toN m W h).map Sq.bT=aY m W h:=by
 unfold toN aY
 rw[List.map_map]
 refine List.map_congr_left fun p _=>?_
 show D.tup (((List.range W).map fun c=>((h p c:Nat):Int)).map D.int)=_
 rw[List.map_map]
 rfl
theorem Fb {m W:Nat}{h:Nat->Nat->Nat}{p c:Nat}(hp:p < m) (hc:c < W):gm (toN m W h) p c=h p c:=by
 unfold gm rw' toN
 rw[List.getD_eq_getElem?_getD,List.getD_eq_getElem?_getD,List.getElem?_map,List.getElem?_range hp]
 simp only[Option.map_some,Option.getD_some]
 rw[List.getElem?_map,List.getElem?_range hc]
 simp
theorem IF {m W:Nat}{h:Nat->Nat->Nat}(m0:0 < m) (m9:m<=900) (hh:∀p c,p < m->c < W->h p c < m):pN W (toN m W h):=by
 refine⟨by rw[kB];exact m0,by rw[kB];exact m9,fun r hr=>?_⟩
 obtain⟨p,hp,rfl⟩:=List.mem_map.mp hr
 refine⟨by rw[List.length_map,List.length_range],fun v hv=>?_⟩
 obtain⟨c,hc,rfl⟩:=List.mem_map.mp hv
 have:=hh p c (List.mem_range.mp hp) (List.mem_range.mp hc)
 rw[kB]
 omega
theorem C9 {m:Nat}{w:Nat->D}{s:Nat}(h:s < m):g9 ((List.range m).map w) s=w s:=by
 unfold g9
 rw[List.getD_eq_getElem?_getD,List.getElem?_map,List.getElem?_range h]
 rfl
theorem fZ {W n:Nat}{nx:Nat->Nat->Nat}(lt:∀s c,s < n->c < W->nx s c < n):∀(cs:List Nat) (s:Nat),Vd W cs->s < n->led nx cs s < n
 | [],_,_,hs=>hs
 | c :: cs,s,h,hs=>fZ lt cs (nx s c) (fun d hd=>h d (List.mem_cons_of_mem _ hd)) (lt s c hs (h c List.mem_cons_self))
theorem zO {W n:Nat}{nx:Nat->Nat->Nat}(lt:∀s c,s < n->c < W->nx s c < n):∀(cs:List Nat) (s:Nat),Vd W cs->s < n->led (gm (toN n W nx)) cs s=led nx cs s
 | [],_,_,_=>rfl
 | c :: cs,s,h,hs=>by
  have hc:=h c List.mem_cons_self
  show led (gm (toN n W nx)) cs (gm (toN n W nx) s c)=led nx cs (nx s c)
  rw[Fb hs hc]
  exact zO lt cs (nx s c) (fun d hd=>h d (List.mem_cons_of_mem _ hd)) (lt s c hs hc)
noncomputable def mT (n W:Nat) (nx:Nat->Nat->Nat) (wd:Nat->D):D:=.tup [.tup (aY n W nx),.tup ((List.range n).map wd)]
structure Mc (W n:Nat) (nx:Nat->Nat->Nat) (wd:Nat->D):Prop where
 pos:0 < n
 few:n<=300
 lt:∀s c,s < n->c < W->nx s c < n
 bl:∀s,s < n->∃b,wd s= .bl b
theorem qZ {W n:Nat}{nx:Nat->Nat->Nat}{wd:Nat->D}{nt wt md:D}(A:Mc W n nx wd) (hW:W < 900) (hnt:nt= .tup (aY n W nx)\/nt= .lst (aY n W nx)) (Vu:wt= .tup ((List.range n).map wd)\/wt= .lst ((List.range n).map wd)) (hmd:md= .dg\/md= .int 300):
  ∃n' nx' kF gs,i8 [.t nt,.t wt,.t md]=some (.t (.tup [.tup (aY n' W nx'),.tup ((List.range n').map kF),.lst gs]),[])/\Canon W n' nx' kF/\(∀cs,Vd W cs->kF (led nx' cs 0)=wd (led nx cs 0))/\Mc W n' nx' kF/\gs.length<=300/\∀g∈gs,∃vs:List Nat,g= .lst (iD vs)/\vs.length<=300/\∀v∈vs,v < n:=by
 have few:=A.few
 have mo:=IF (W:=W) A.pos (by omega) A.lt
 have ml:((List.range n).map wd).length=(toN n W nx).length:=by rw[List.length_map,List.length_range,kB]
 have hw:∀x∈(List.range n).map wd,∃b,x=D.bl b:=fun x hx=>by
  obtain⟨s,hs,rfl⟩:=List.mem_map.mp hx
  exact A.bl s (List.mem_range.mp hs)
 obtain⟨n',nx',kF,gs,e,C,b,le,hm,gl,gg⟩:=C6 (nt:=nt) (wt:=wt) (md:=md) mo (by omega) (by rw[L5];exact hnt) ml Vu (fun x hx=>.inl (hw x hx)) (hmd.imp id fun h=>⟨300,h,fun L ns c a hB _ hL P=>by
  have nd:L.Nodup:=by have:=hB.nd;rwa [List.map_id'] at this
  have lf:=qW nd hL
  have:=uH P.cls
  have:=P.len
  rw[kB] at lf
  omega⟩)
 rw[kB] at le gl
 refine⟨n',nx',kF,gs,e,C,fun cs v=>?_,⟨C.pos,by omega,C.lt,fun s hs=>hw _ (hm s hs)⟩,by omega,fun g hg=>?_⟩
 ·rw[b cs v,zO A.lt cs 0 v A.pos,C9 (fZ A.lt cs 0 v A.pos)]
 ·obtain⟨vs,q1,q2,q3⟩:=gg g hg
  rw[kB] at q2 q3
  exact⟨vs,q1,by omega,q3⟩
structure Jd (W:Nat) (k:List Nat->Nat) (β:List Nat->Bool) (d:D):Prop where
 ex:∃n nx wd,d=mT n W nx wd/\Mc W n nx wd/\(∀cs,Vd W cs->wd (led nx cs 0)= .bl (β cs))/\mD W k nx
structure Cn (W:Nat) (k:List Nat->Nat) (β:List Nat->Bool) (d:D):Prop where
 ex:∃n nx wd,d=mT n W nx wd/\Mc W n nx wd/\(∀cs,Vd W cs->wd (led nx cs 0)= .bl (β cs))/\mD W k nx/\Canon W n nx wd
theorem Cn.jd {W:Nat}{k:List Nat->Nat}{β:List Nat->Bool}{d:D}(h:Cn W k β d):Jd W k β d:=by
 obtain⟨n,nx,wd,a,b,c,e,_⟩:=h.ex
 exact⟨n,nx,wd,a,b,c,e⟩
theorem Cn.one {W:Nat}{k:List Nat->Nat}{β β':List Nat->Bool}{d d':D}(h:Cn W k β d) (h':Cn W k β' d') (e:∀cs,Vd W cs->β cs=β' cs):d=d':=by
 obtain⟨n,nx,wd,rfl,_,c,_,C⟩:=h.ex
 obtain⟨n',nx',kF,rfl,_,c',_,C'⟩:=h'.ex
 obtain⟨en,q⟩:=canon_one C C' fun cs v=>by rw[c cs v,c' cs v,e cs v]
 subst en
 unfold mT
 rw[qY fun s c hs hc=>(q s hs).2 c hc,List.map_congr_left (f:=wd) (g:=kF) fun s hs=>(q s (List.mem_range.mp hs)).1]
noncomputable def Dc (W:Nat) (k:List Nat->Nat) (β:List Nat->Bool):Prop:=∀cs ds es,Vd W cs->Vd W ds->Vd W es->k cs=k ds->β (cs++es)=β (ds++es)
theorem IG {W n:Nat}{k:List Nat->Nat}{nx:Nat->Nat->Nat}{wd:Nat->D}{β:List Nat->Bool}(b:∀cs,Vd W cs->wd (led nx cs 0)= .bl (β cs)) (t:mD W k nx):Dc W k β:=fun cs ds es v1 v2 v3 e=>by
 have a1:=b _ (i6 v1 v3)
 have a2:=b _ (i6 v2 v3)
 rw[dB,t cs ds v1 v2 e,<-dB,a2] at a1
 injection a1 with a1
 exact a1.symm
theorem yj {W n:Nat}{k:List Nat->Nat}{nx:Nat->Nat->Nat}{wd:Nat->D}{β:List Nat->Bool}(C:Canon W n nx wd) (b:∀cs,Vd W cs->wd (led nx cs 0)= .bl (β cs)) (t:Dc W k β):mD W k nx:=fun cs ds v1 v2 e=>by
 apply Classical.byContradiction
 intro ne
 obtain⟨es,v3,q⟩:=C.apart _ _ (C.fZ v1 C.pos) (C.fZ v2 C.pos) ne
 refine q ?_
 rw[<-dB,<-dB,b _ (i6 v1 v3),b _ (i6 v2 v3),t cs ds es v1 v2 v3 e]
theorem Jd.tb {W:Nat}{k:List Nat->Nat}{β:List Nat->Bool}{d:D}(h:Jd W k β d):Dc W k β:=by
 obtain⟨n,nx,wd,_,_,c,t⟩:=h.ex
 exact IG (n:=n) c t
noncomputable def eU (aI:FM):GS:=
 (aZ (bJ 2 (aR aI (aF (bg 1 (eC (.int 0))) (aF (bg 1 (eC (.int 1))) (aF (eC .dg) bB)))))
 (cT (eP dF (aa (bg 2 (eC (.int 0))) (aa (bg 2 (eC (.int 1))) aC)))))
noncomputable def sS:FM:=bM 3 (eU i8)
theorem II:∀us r,sS us=some r->bM 3 (eU i8) us=some r:=fun _ _ h=>h
theorem Qi {f:FM}{td nt wt a b g:D}(h:f [.t nt,.t wt,.t .dg]=some (.t (.tup [a,b,g]),[])):bM 3 (eU f) [.t td,.t (.tup [nt,wt])]=some (.t (.tup [a,b]),[]):=by
 simp[bM,eU,at2,LO,h,aP]
theorem L6 {W:Nat}{k:List Nat->Nat}{β:List Nat->Bool}{d td:D}(hW:W < 900) (h:Jd W k β d):∃d',sS [.t td,.t d]=some (.t d',[])/\Cn W k β d':=by
 have tb:=h.tb
 obtain⟨n,nx,wd,rfl,A,b,t⟩:=h.ex
 obtain⟨n',nx',kF,gs,e,C,b',A',_,_⟩:=qZ A hW (.inl rfl) (.inl rfl) (.inl rfl)
 have b2:∀cs,Vd W cs->kF (led nx' cs 0)= .bl (β cs):=fun cs v=>by rw[b' cs v,b cs v]
 exact⟨mT n' W nx' kF,Qi e,n',nx',kF,rfl,A',b2,yj C b2 tb,C⟩
noncomputable def jU (aI:FM):GS:=
 (aZ (bJ 2 (aR aI (aF (bg 1 (eC (.int 0))) (aF (eF (bQ [] (cU (bg 1 (eC (.int 1)))) aV (eQ (Al (qB (eF (ak 0))))))) (aF (eC (.int 300)) bB)))))
 (cT (eP dF (aa (bg 2 (eC (.int 0))) (aa (bg 2 (eC (.int 1))) aC)))))
noncomputable def turnF:FM:=bM 3 (jU i8)
theorem Dd:∀us r,turnF us=some r->bM 3 (jU i8) us=some r:=fun _ _ h=>h
noncomputable def De:D->D
 | .bl b=>.bl (!b)
 | d=>d
theorem wF {z0 z1 z2:Option U}:∀(ws acc:List D),(∀w∈ws,∃b,w=D.bl b)->br [] aV (eQ (Al (qB (eF (ak 0))))) ws [z0,z1,z2] acc=some (acc++ws.map De,[z0,z1,z2])
  | [],acc,_=>by simp[br]
  | w :: ws, acc, h => by
    obtain⟨b,rfl⟩:=h w List.mem_cons_self
    have e:br [] aV (eQ (Al (qB (eF (ak 0))))) [.bl b] [z0,z1,z2] acc=some (acc++[.bl (!b)],[z0,z1,z2]):=by
      simp[br,bS,aP]
    rw[Sq.gz,e,Option.bind_some,wF ws _ fun x hx=>h x (List.mem_cons_of_mem _ hx)]
    simp[De]
theorem IJ {f:FM}{td nt a b g:D}{ws:List D}(hw:∀w∈ws,∃b,w=D.bl b) (hl:ws.length<=1000) (h:f [.t nt,.t (.lst (ws.map De)),.t (.int 300)]=some (.t (.tup [a,b,g]),[])):bM 3 (jU f) [.t td,.t (.tup [nt,.tup ws])]=some (.t (.tup [a,b]),[]):=by
 have e:=fun z0 z1 z2=>wF (z0:=z0) (z1:=z1) (z2:=z2) ws [] hw
 have hl2:ws.length<=100000:=by omega
 generalize ws.map De=vs at *
 simp[bM,jU,at2,LO,fY,cF,hl2,e,h,aP]
theorem Fc {W:Nat}{k:List Nat->Nat}{β:List Nat->Bool}{d td:D}(hW:W < 900) (h:Jd W k β d):∃d',turnF [.t td,.t d]=some (.t d',[])/\Cn W k (fun cs=>!β cs) d':=by
 have tb:=h.tb
 obtain⟨n,nx,wd,rfl,A,b,t⟩:=h.ex
 have few:=A.few
 obtain⟨n',nx',kF,gs,e,C,b',A',_,_⟩:=qZ (wd:=fun s=>De (wd s)) ⟨A.pos,A.few,A.lt,fun s hs=>by obtain⟨b,e⟩:=A.bl s hs;exact⟨!b,by rw[e];rfl⟩⟩ hW (.inl rfl) (.inr rfl) (.inr rfl)
 have b2:∀cs,Vd W cs->kF (led nx' cs 0)= .bl (!β cs):=fun cs v=>by rw[b' cs v,b cs v];rfl
 refine⟨mT n' W nx' kF,IJ (g:=.lst gs) (ws:=(List.range n).map wd) (fun w hw=>?_) (by rw[List.length_map,List.length_range];omega) ?_,n',nx',kF,rfl,A',b2,yj C b2 fun cs ds es v1 v2 v3 e=>?_,C⟩
 ·obtain⟨s,hs,rfl⟩:=List.mem_map.mp hw
  exact A.bl s (List.mem_range.mp hs)
 ·rw[List.map_map]
  exact e
 ·show(!β _)=!β _
  rw[tb cs ds es v1 v2 v3 e]
noncomputable def p5:GS:=
 (aZ (oG (qB (eF (eP w4 (aa (eF (ak 0)) (aa (eC (.str "both")) aC))))) (cT (eT (eQ (ue (qB (eF (ak 1))) (qB (eF (ak 2))))))) gX)
 (aZ (oG (qB (eF (eP w4 (aa (eF (ak 0)) (aa (eC (.str "either")) aC))))) (cT (eT (eQ (OE (qB (eF (ak 1))) (qB (eF (ak 2))))))) gX)
 (aZ (oG (qB (eF (eP w4 (aa (eF (ak 0)) (aa (eC (.str "but")) aC))))) (cT (eT (eQ (ue (qB (eF (ak 1))) (qB (eQ (Al (qB (eF (ak 2)))))))))) gX)
 (cT (eP zb (aa (eF (ak 1)) (aa (eF (ak 2)) aC)))))))
noncomputable def IK:FM:=bM 3 p5
theorem IL:∀us r,IK us=some r->bM 3 p5 us=some r:=fun _ _ h=>h
inductive Op | both | either | but | unlike
noncomputable def Op.s:Op->Str
 | .both=>"both"
 | .either=>"either"
 | .but=>"but"
 | .unlike=>"unlike"
noncomputable def Op.b:Op->Bool->Bool->Bool
 | .both,a,b=>a && b
 | .either,a,b=>a || b
 | .but,a,b=>a && !b
 | .unlike,a,b=>a != b
theorem L7 (o:Op) (a b:Bool):IK [.t (.str o.s),.t (.bl a),.t (.bl b)]=some (.t (.bl (o.b a b)),[]):=by
 cases o <;> cases a <;> cases b <;> rfl
noncomputable def bo:D->Bool
 | .bl b=>b
 | _=>false
theorem Mc.bo {W n:Nat}{nx:Nat->Nat->Nat}{wd:Nat->D}(A:Mc W n nx wd){s:Nat}(hs:s < n):wd s= .bl (bo (wd s)):=by
 obtain⟨b,e⟩:=A.bl s hs
 rw[e]
 rfl
theorem wG {n s:Nat}{w:Nat->D}(hs:s < n):dW ((List.range n).map w) (s:Int)=some (w s):=pS (by rw[List.getElem?_map,List.getElem?_range hs];rfl)
noncomputable def cL (cR:FM) (ff:FM) (aI:FM):GS:=
 (aZ (bJ 3 (aR cR (aF (bg 1 (eC (.int 0))) (aF (bg 2 (eC (.int 0))) bB))))
 (aZ (bJ 4 (bQ [1,0,2] (cU (bg 3 (eC (.int 0)))) aV (eF (aR ff (aF (eF (ak 2)) (aF (eF (eP xF (aa (bg 1 (eC (.int 1))) (aa (bg 0 (eC (.int 0))) aC)))) (aF (eF (eP xF (aa (bg 3 (eC (.int 1))) (aa (bg 0 (eC (.int 1))) aC)))) bB)))))))
 (aZ (bJ 5 (aR aI (aF (bg 3 (eC (.int 1))) (aF (eF (ak 4)) (aF (eC (.int 300)) bB)))))
 (aZ (bJ 6 (bQ [3] (cU (bg 5 (eC (.int 2)))) aV (eF (bQ [1] (cU (eF (ak 0))) aV (eF (eP xF (aa (bg 1 (eC (.int 0))) (aa (eF (ak 0)) aC))))))))
 (cT (eP dF (aa (bg 5 (eC (.int 0))) (aa (bg 5 (eC (.int 1))) (aa (eF (ak 6)) aC)))))))))
noncomputable def Qj (cR:FM) (ff:FM) (aI:FM):GS:=
 (bJ 3 (aR cR (aF (bg 1 (eC (.int 0))) (aF (bg 2 (eC (.int 0))) bB))))
noncomputable def Qk (cR:FM) (ff:FM) (aI:FM):GS:=
 (bJ 4 (bQ [1,0,2] (cU (bg 3 (eC (.int 0)))) aV (eF (aR ff (aF (eF (ak 2)) (aF (eF (eP xF (aa (bg 1 (eC (.int 1))) (aa (bg 0 (eC (.int 0))) aC)))) (aF (eF (eP xF (aa (bg 3 (eC (.int 1))) (aa (bg 0 (eC (.int 1))) aC)))) bB)))))))
noncomputable def Ql (cR:FM) (ff:FM) (aI:FM):GS:=
 (bJ 5 (aR aI (aF (bg 3 (eC (.int 1))) (aF (eF (ak 4)) (aF (eC (.int 300)) bB)))))
noncomputable def Qm (cR:FM) (ff:FM) (aI:FM):GS:=
 (bJ 6 (bQ [3] (cU (bg 5 (eC (.int 2)))) aV (eF (bQ [1] (cU (eF (ak 0))) aV (eF (eP xF (aa (bg 1 (eC (.int 0))) (aa (eF (ak 0)) aC))))))))
noncomputable def Tv (cR:FM) (ff:FM) (aI:FM):GS:=
 (cT (eP dF (aa (bg 5 (eC (.int 0))) (aa (bg 5 (eC (.int 1))) (aa (eF (ak 6)) aC)))))
theorem L8 (cR:FM) (ff:FM) (aI:FM):cL cR ff aI=aZ (Qj cR ff aI) (aZ (Qk cR ff aI) (aZ (Ql cR ff aI) (aZ (Qm cR ff aI) (Tv cR ff aI)))):=rfl
noncomputable abbrev Qn (f2:FM):GD:=(eF (aR f2 (aF (eF (ak 2)) (aF (eF (eP xF (aa (bg 1 (eC (.int 1))) (aa (bg 0 (eC (.int 0))) aC)))) (aF (eF (eP xF (aa (bg 3 (eC (.int 1))) (aa (bg 0 (eC (.int 1))) aC)))) bB)))))
noncomputable abbrev Qo:GD:=(eF (eP xF (aa (bg 1 (eC (.int 0))) (aa (eF (ak 0)) aC))))
noncomputable abbrev Qp:GD:=(eF (bQ [1] (cU (eF (ak 0))) aV Qo))
section
variable {f2:FM}{o a b x1 x2:D}{ws us:List D}{p:Nat×Nat}{z3 z4 z5 z6:Option U}
theorem IM {acc:List D}(h1:dW ws (p.1:Int)=some x1) (h2:dW us (p.2:Int)=some x2) (h:f2 [.t o,.t x1,.t x2]=some (.t b,[])):
  br [1,0,2] aV (Qn f2) [cS p] [some (.t o),some (.t (.tup [a,.tup ws])),some (.t (.tup [a',.tup us])),z3,z4,z5,z6] acc=some (acc++[b],[some (.t o),some (.t (.tup [a,.tup ws])),some (.t (.tup [a',.tup us])),z3,z4,z5,z6]):=by
 have q1:dW [D.int (p.1:Nat),.int (p.2:Nat)] 0=some (.int (p.1:Nat)):=rfl
 have q2:dW [D.int (p.1:Nat),.int (p.2:Nat)] 1=some (.int (p.2:Nat)):=rfl
 unfold cS
 generalize ((p.1:Nat):Int)=i at *
 generalize ((p.2:Nat):Int)=j at *
 simp[br,bS,fW,at2,q1,q2,h1,h2,h,aP]
theorem zP {w:Nat×Nat->D}{a':D}:∀(P:List (Nat×Nat)) (acc:List D),(∀p∈P,∃x1 x2,dW ws (p.1:Int)=some x1/\dW us (p.2:Int)=some x2/\f2 [.t o,.t x1,.t x2]=some (.t (w p),[]))->
  br [1,0,2] aV (Qn f2) (P.map cS) [some (.t o),some (.t (.tup [a,.tup ws])),some (.t (.tup [a',.tup us])),z3,z4,z5,z6] acc=some (acc++P.map w,[some (.t o),some (.t (.tup [a,.tup ws])),some (.t (.tup [a',.tup us])),z3,z4,z5,z6])
 | [],acc,_=>by simp[br]
 | p :: P,acc,h=>by
  obtain⟨x1,x2,h1,h2,h3⟩:=h p List.mem_cons_self
  rw[List.map_cons,Sq.gz,IM h1 h2 h3,Option.bind_some,zP P _ fun q hq=>h q (List.mem_cons_of_mem _ hq)]
  simp
theorem Gs {ps rs gs:List D}{z0 z1 z2 z4:Option U}:∀(vs:List Nat) (acc:List D),(∀v∈vs,v < ps.length)->
    ∃out,br [1] aV Qo (iD vs) [some (.t gs'),some (.t (.tup [.lst ps,.lst rs]))] acc=some (out,[some (.t gs'),some (.t (.tup [.lst ps,.lst rs]))])
  | [],acc,_=>⟨acc,by simp[br,iD]⟩
  | v :: vs, acc, h => by
    have hv:=h v List.mem_cons_self
    have e:dW ps (v:Int)=some ps[v]:=pS (List.getElem?_eq_getElem hv)
    have e1:br [1] aV Qo [.int (v:Nat)] [some (.t gs'),some (.t (.tup [.lst ps,.lst rs]))] acc=some (acc++[ps[v]],[some (.t gs'),some (.t (.tup [.lst ps,.lst rs]))]):=by
      generalize ((v:Nat):Int)=i at *
      simp[br,bS,fW,at2,e,aP]
    obtain⟨out,e2⟩:=Gs (gs:=gs) (z0:=z0) (z1:=z1) (z2:=z2) (z4:=z4) vs (acc++[ps[v]]) fun u hu=>h u (List.mem_cons_of_mem _ hu)
    refine⟨out,?_⟩
    show br _ _ _ (D.int (v:Nat) :: iD vs) _ _=_
    rw[Sq.gz,e1,Option.bind_some]
    exact e2
theorem Df {ps rs:List D}{z0 z1 z2 z4 z5 z6:Option U}:∀(gs acc:List D),(∀g∈gs,∃vs:List Nat,g= .lst (iD vs)/\vs.length<=300/\∀v∈vs,v < ps.length)->
    ∃out,br [3] aV Qp gs [z0,z1,z2,some (.t (.tup [.lst ps,.lst rs])),z4,z5,z6] acc=some (out,[z0,z1,z2,some (.t (.tup [.lst ps,.lst rs])),z4,z5,z6])
  | [],acc,_=>⟨acc,by simp[br]⟩
  | g :: gs, acc, h => by
    obtain⟨vs,rfl,hl,hv⟩:=h g List.mem_cons_self
    obtain⟨o1,e⟩:=Gs (ps:=ps) (rs:=rs) (gs:=gs) (gs':=.lst (iD vs)) (z0:=none) (z1:=none) (z2:=none) (z4:=none) vs [] hv
    have il:(iD vs).length<=100000:=by unfold iD;rw[List.length_map];omega
    have e1:br [3] aV Qp [.lst (iD vs)] [z0,z1,z2,some (.t (.tup [.lst ps,.lst rs])),z4,z5,z6] acc=some (acc++[.lst o1],[z0,z1,z2,some (.t (.tup [.lst ps,.lst rs])),z4,z5,z6]):=by
      generalize iD vs=l at *
      simp[br,bS,fW,fY,cF,il,e,aP]
    obtain⟨out,e2⟩:=Df (z0:=z0) (z1:=z1) (z2:=z2) (z4:=z4) (z5:=z5) (z6:=z6) gs (acc++[.lst o1]) fun u hu=>h u (List.mem_cons_of_mem _ hu)
    refine⟨out,?_⟩
    rw[Sq.gz,e1,Option.bind_some]
    exact e2
end
noncomputable def uM:FM:=bM 7 (cL pairF IK i8)
theorem ym:∀us r,uM us=some r->bM 7 (cL pairF IK i8) us=some r:=fun _ _ h=>h
theorem Dg {f1 f2 f3:FM}{o a1 a2 n1 w1:D}{ws us ps rs gs ts:List D}(e1:f1 [.t a1,.t a2]=some (.t (.tup [.lst ps,.lst rs]),[])) (pl:ps.length<=1000)
  (e2:∀z3 z4 z5 z6,br [1,0,2] aV (Qn f2) ps [some (.t o),some (.t (.tup [a1,.tup ws])),some (.t (.tup [a2,.tup us])),z3,z4,z5,z6] []=some (ts,[some (.t o),some (.t (.tup [a1,.tup ws])),some (.t (.tup [a2,.tup us])),z3,z4,z5,z6]))
  (e3:f3 [.t (.lst rs),.t (.lst ts),.t (.int 300)]=some (.t (.tup [n1,w1,.lst gs]),[])) (gl:gs.length<=1000)
  (e4:∀z0 z1 z2 z4 z5 z6,∃out,br [3] aV Qp gs [z0,z1,z2,some (.t (.tup [.lst ps,.lst rs])),z4,z5,z6] []=some (out,[z0,z1,z2,some (.t (.tup [.lst ps,.lst rs])),z4,z5,z6])):
  ∃out,bM 7 (cL f1 f2 f3) [.t o,.t (.tup [a1,.tup ws]),.t (.tup [a2,.tup us])]=some (.t (.tup [n1,w1,.lst out]),[]):=by
 have Vv:ps.length<=100000:=by omega
 have Vw:gs.length<=100000:=by omega
 have s0:Qj f1 f2 f3 [some (.t o),some (.t (.tup [a1,.tup ws])),some (.t (.tup [a2,.tup us])),none,none,none,none]=some (.nx [some (.t o),some (.t (.tup [a1,.tup ws])),some (.t (.tup [a2,.tup us])),some (.t (.tup [.lst ps,.lst rs])),none,none,none]):=by
  simp[Qj,at2,e1]
 have s1:Qk f1 f2 f3 [some (.t o),some (.t (.tup [a1,.tup ws])),some (.t (.tup [a2,.tup us])),some (.t (.tup [.lst ps,.lst rs])),none,none,none]=some (.nx [some (.t o),some (.t (.tup [a1,.tup ws])),some (.t (.tup [a2,.tup us])),some (.t (.tup [.lst ps,.lst rs])),some (.m (.lst ts)),none,none]):=by
  simp[Qk,at2,fY,cF,Vv,e2]
 have s2:Ql f1 f2 f3 [some (.t o),some (.t (.tup [a1,.tup ws])),some (.t (.tup [a2,.tup us])),some (.t (.tup [.lst ps,.lst rs])),some (.m (.lst ts)),none,none]=some (.nx [some (.t o),some (.t (.tup [a1,.tup ws])),some (.t (.tup [a2,.tup us])),some (.t (.tup [.lst ps,.lst rs])),some (.t (.lst ts)),some (.t (.tup [n1,w1,.lst gs])),none]):=by
  simp[Ql,at2,e3]
 obtain⟨out,e5⟩:=e4 (some (.t o)) (some (.t (.tup [a1,.tup ws]))) (some (.t (.tup [a2,.tup us]))) (some (.t (.lst ts))) (some (.t (.tup [n1,w1,.lst gs]))) none
 have s3:Qm f1 f2 f3 [some (.t o),some (.t (.tup [a1,.tup ws])),some (.t (.tup [a2,.tup us])),some (.t (.tup [.lst ps,.lst rs])),some (.t (.lst ts)),some (.t (.tup [n1,w1,.lst gs])),none]=some (.nx [some (.t o),some (.t (.tup [a1,.tup ws])),some (.t (.tup [a2,.tup us])),some (.t (.tup [.lst ps,.lst rs])),some (.t (.lst ts)),some (.t (.tup [n1,w1,.lst gs])),some (.m (.lst out))]):=by
  simp[Qm,LO,fY,cF,Vw,e5]
 refine⟨out,qR (S:=[some (.t o),some (.t (.tup [a1,.tup ws])),some (.t (.tup [a2,.tup us])),some (.t (.tup [.lst ps,.lst rs])),some (.t (.lst ts)),some (.t (.tup [n1,w1,.lst gs])),some (.t (.lst out))]) ?_ rfl⟩
 show cL f1 f2 f3 [some (.t o),some (.t (.tup [a1,.tup ws])),some (.t (.tup [a2,.tup us])),none,none,none,none]=_
 rw[L8,Sq.bE s0,Sq.bE s1,Sq.bE s2,Sq.bE s3]
 simp[Tv,LO]
noncomputable def jV (gn:FM):GS:=
 (aZ (bJ 4 (aR gn (aF (eF (ak 1)) (aF (eF (ak 2)) (aF (eF (ak 3)) bB)))))
 (cT (eP dF (aa (bg 4 (eC (.int 0))) (aa (bg 4 (eC (.int 1))) aC)))))
noncomputable def jW:FM:=bM 5 (jV uM)
theorem Dh:∀us r,jW us=some r->bM 5 (jV uM) us=some r:=fun _ _ h=>h
theorem IP {f:FM}{td o a b x y g:D}(h:f [.t o,.t a,.t b]=some (.t (.tup [x,y,g]),[])):bM 5 (jV f) [.t td,.t o,.t a,.t b]=some (.t (.tup [x,y]),[]):=by
 simp[bM,jV,LO,h,aP]
theorem Fe {W m:Nat}{k:List Nat->Nat}{β γ:List Nat->Bool}{d e td:D}(o:Op) (hW:W < 900) (hk:∀cs,Vd W cs->k cs < m) (hm:m<=300) (h:Jd W k β d) (h':Jd W k γ e):
  ∃d',jW [.t td,.t (.str o.s),.t d,.t e]=some (.t d',[])/\Cn W k (fun cs=>o.b (β cs) (γ cs)) d':=by
 have tb:=h.tb
 have tb':=h'.tb
 obtain⟨n1,f,w1,rfl,A,b1,t1⟩:=h.ex
 obtain⟨n2,g,w2,rfl,B,b2,t2⟩:=h'.ex
 obtain⟨P,e1,F,few⟩:=E9 hk t1 t2 hm hW (fun cs v=>fZ A.lt cs 0 v A.pos) (fun cs v=>fZ B.lt cs 0 v B.pos)
 have p0:0 < P.length:=(List.getElem?_eq_some_iff.mp F.zero).1
 have pz:pa P 0=(0,0):=by have:=uL p0;rw[F.zero] at this;exact(Option.some.inj this).symm
 have lt:∀s c,s < P.length->c < W->fx f g P s c < P.length:=fun s c hs hc=>List.idxOf_lt_length_of_mem (F.seen s c hs hc)
 have Vx:∀p∈P,p.1 < n1/\p.2 < n2:=fun p hp=>by
  obtain⟨cs,v,rfl⟩:=F.rc p hp
  exact⟨fZ A.lt cs 0 v A.pos,fZ B.lt cs 0 v B.pos⟩
 have way:∀(cs:List Nat) (s:Nat),Vd W cs->s < P.length->pa P (led (fx f g P) cs s)=(led f cs (pa P s).1,led g cs (pa P s).2):=by
  intro cs
  induction cs with
  | nil=>intro s _ _;rfl
  | cons c cs ih=>
   intro s hc hs
   have hcc:=hc c List.mem_cons_self
   show pa P (led (fx f g P) cs (fx f g P s c))=(led f cs (f (pa P s).1 c),led g cs (g (pa P s).2 c))
   rw[ih _ (fun x hx=>hc x (List.mem_cons_of_mem _ hx)) (lt s c hs hcc)]
   unfold fx
   rw[ID (F.seen s c hs hcc)]
   rfl
 let w:Nat×Nat->D:=fun p=>.bl (o.b (bo (w1 p.1)) (bo (w2 p.2)))
 have ew:P.map w=(List.range P.length).map fun s=>w (pa P s):=by
  apply List.ext_getElem?
  intro i
  rw[List.getElem?_map,List.getElem?_map]
  by_cases hi:i < P.length
  ·rw[uL hi,List.getElem?_range hi];rfl
  ·rw[List.getElem?_eq_none (by omega),List.getElem?_eq_none (by rw[List.length_range];omega)];rfl
 obtain⟨n',nx',kF,gs,e3,C,b3,A',gl,gg⟩:=qZ (W:=W) (n:=P.length) (nx:=fx f g P) (wd:=fun s=>w (pa P s)) (nt:=.lst (aY P.length W (fx f g P))) (wt:=.lst (P.map w)) (md:=.int 300) ⟨p0,by omega,lt,fun s _=>⟨_,rfl⟩⟩ hW (.inr rfl) (.inr (by rw[ew])) (.inr rfl)
 have b4:∀cs,Vd W cs->kF (led nx' cs 0)= .bl (o.b (β cs) (γ cs)):=fun cs v=>by
  rw[b3 cs v]
  show w (pa P (led (fx f g P) cs 0))=_
  rw[way cs 0 v p0,pz]
  show D.bl (o.b (bo (w1 (led f cs 0))) (bo (w2 (led g cs 0))))=_
  rw[b1 cs v,b2 cs v]
  rfl
 obtain⟨out,e5⟩:=Dg (f1:=pairF) (f2:=IK) (f3:=i8) (o:=.str o.s) (ws:=(List.range n1).map w1) (us:=(List.range n2).map w2) (ts:=P.map w) e1 (by rw[List.length_map];omega) (fun z3 z4 z5 z6=>by
  have:=zP (f2:=IK) (o:=.str o.s) (a:=.tup (aY n1 W f)) (a':=.tup (aY n2 W g)) (ws:=(List.range n1).map w1) (us:=(List.range n2).map w2) (z3:=z3) (z4:=z4) (z5:=z5) (z6:=z6) (w:=w) P [] fun p hp=>by
   obtain⟨q1,q2⟩:=Vx p hp
   refine⟨w1 p.1,w2 p.2,wG q1,wG q2,?_⟩
   rw[A.bo q1,B.bo q2]
   exact L7 o _ _
  rw[List.nil_append] at this
  exact this) e3 (by omega) (fun z0 z1 z2 z4 z5 z6=>Df gs [] fun g hg=>by
   obtain⟨vs,q1,q2,q3⟩:=gg g hg
   exact⟨vs,q1,q2,by rw[List.length_map];exact q3⟩)
 refine⟨mT n' W nx' kF,IP e5,n',nx',kF,rfl,A',b4,yj C b4 fun cs ds es v1 v2 v3 q=>?_,C⟩
 show o.b _ _=o.b _ _
 rw[tb cs ds es v1 v2 v3 q,tb' cs ds es v1 v2 v3 q]
noncomputable abbrev Ma (xs:List D) (a b c:Int):MO:=.lst [.lst xs,.int a,.int b,.int c]
noncomputable def Fq (o:MO):Prop:=∃(xs:List D) (a b c:Int),(∀d∈xs,∃y:Int,d= .int y)/\o=Ma xs a b c
noncomputable def jw:GS:=
 (cT (eP iK (aa (eF (ak 0)) (aa (eF (ak 1)) (aa (eC (.int 0)) (aa (eC (.int 0)) aC))))))
noncomputable def gH:FM:=bM 2 jw
theorem Di:∀us r,gH us=some r->bM 2 jw us=some r:=fun _ _ h=>h
noncomputable def d7:GS:=
 (aZ (qE 0 (eC (.int 3)) (eF (eP ji (aa (bg 0 (eC (.int 3))) (aa (eC (.int 1)) aC)))))
 (aZ (oG (qB (eF (eP Jt (aa (bg 0 (eC (.int 2))) (aa (eF (ak 1)) aC))))) (aZ (bJ 2 (eP vI (aa (bg 0 (eC (.int 2))) (aa (eF (ak 1)) aC))))
 (aZ (qE 0 (eC (.int 2)) (eF (eP BW (aa (bg 0 (eC (.int 2))) (aa (eF (ak 1)) aC)))))
 (cT (ak 2)))) gX)
 (aZ (bJ 3 (eT (eC (.int 0))))
 (aZ (oG (qB (eF (eP MJ (aa (eF (eP rL (aa (bg 0 (eC (.int 0))) aC))) (aa (eC (.int 0)) aC))))) (bJ 3 (eP xF (aa (bg 0 (eC (.int 0))) (aa (eF (eP vI (aa (bg 0 (eC (.int 1))) (aa (eF (eP rL (aa (bg 0 (eC (.int 0))) aC))) aC)))) aC)))) gX)
 (aZ (qE 0 (eC (.int 1)) (eF (eP ji (aa (bg 0 (eC (.int 1))) (aa (eC (.int 1)) aC)))))
 (aZ (oG (qB (eF (eP Jt (aa (eF (ak 3)) (aa (eF (eP K1 (aa (eC (.int 10)) (aa (eC (.int 18)) aC)))) aC))))) (aZ (qE 0 (eC (.int 2)) (eF (eP BW (aa (eF (ak 3)) (aa (eF (ak 1)) aC)))))
 (cT (eP vI (aa (eF (ak 3)) (aa (eF (ak 1)) aC))))) gX)
 (aZ (bJ 4 (eP vI (aa (eF (eP xE (aa (eF (eP ji (aa (eF (eP ji (aa (eF (eP vI (aa (eF (ak 3)) (aa (eC (.int 2147483629)) aC)))) (aa (eF (eP xE (aa (eC (.int 7919)) (aa (bg 0 (eC (.int 3))) aC)))) aC)))) (aa (eF (eP xE (aa (eC (.int 31)) (aa (bg 0 (eC (.int 1))) aC)))) aC)))) (aa (eC (.int 48271)) aC)))) (aa (eC (.int 2147483647)) aC))))
 (aZ (bJ 4 (eP vI (aa (eF (eP xE (aa (eF (eP ji (aa (eF (eP BW (aa (eF (ak 4)) (aa (eC (.int 13)) aC)))) (aa (eF (eP xE (aa (eC (.int 6151)) (aa (bg 0 (eC (.int 3))) aC)))) aC)))) (aa (eC (.int 69621)) aC)))) (aa (eC (.int 2147483587)) aC))))
 (cT (eP vI (aa (eF (eP BW (aa (eF (ak 4)) (aa (eC (.int 11)) aC)))) (aa (eF (ak 1)) aC))))))))))))
noncomputable def lq:FM:=bM 5 d7
theorem Dj:∀us r,lq us=some r->bM 5 d7 us=some r:=fun _ _ h=>h
noncomputable def Tk (f:FM):Prop:=∀o,Fq o->∀m:Int,0 < m->m < 1000000->∃v o',f [.b o,.t (.int m)]=some (.t (.int v),[o'])/\Fq o'/\0<=v/\v < m
theorem p6 : Tk lq := by
  rintro o ⟨xs,a,b,c,hx,rfl⟩ m m0 m1
  have q0:∀(w x y z:D),dW [w,x,y,z] 0=some w/\dW [w,x,y,z] 1=some x/\dW [w,x,y,z] 2=some y/\dW [w,x,y,z] 3=some z:=fun _ _ _ _=>⟨rfl,rfl,rfl,rfl⟩
  have q1:uX 4 1=some 1/\uX 4 2=some 2/\uX 4 3=some 3:=⟨rfl,rfl,rfl⟩
  have m2:m < 1073741824:=by omega
  by_cases hb:m<=b
  . refine⟨b % m,Ma xs a (b / m) (c+1),?_,⟨xs,_,_,_,hx,rfl⟩,Int.emod_nonneg _ (by omega),Int.emod_lt_of_pos _ m0⟩
    simp[lq,bM,d7,aP,q0,q1,hb,m0,m2,kg,gY]
  . obtain⟨y,hy⟩:∃y:Int,(if 0 < xs.length then dW xs (a % (xs.length:Int)) else some (.int 0))=some (.int y):=by
      by_cases hp:0 < xs.length
      . rw[if_pos hp]
        obtain⟨x,e1,e2⟩:=Sq.Ie (l:=xs) (i:=a % (xs.length:Int)) (Int.emod_nonneg _ (by omega)) (Int.emod_lt_of_pos _ (by omega))
        obtain⟨y,rfl⟩:=hx x (List.mem_of_getElem? e2)
        exact⟨y,e1⟩
      . rw[if_neg hp];exact⟨0,rfl⟩
    by_cases hc:(1000000000000000000:Int)<=y
    . refine⟨y % m,Ma xs (a+1) (y / m) (c+1),?_,⟨xs,_,_,_,hx,rfl⟩,Int.emod_nonneg _ (by omega),Int.emod_lt_of_pos _ m0⟩
      by_cases hp:0 < xs.length
      . rw[if_pos hp] at hy
        simp[lq,bM,d7,aP,q0,q1,hb,m0,m2,kg,gY,hp,hy,hc]
      . rw[if_neg hp] at hy
        injection hy with hy
        injection hy with hy
        omega
    . refine⟨_,Ma xs (a+1) b (c+1),?_,⟨xs,_,_,_,hx,rfl⟩,Int.emod_nonneg (((((y % 2147483629+7919 * (c+1)+31 * (a+1)) * 48271 % 2147483647) / 13+6151 * (c+1)) * 69621 % 2147483587) / 11) (Int.ne_of_gt m0),Int.emod_lt_of_pos _ m0⟩
      by_cases hp:0 < xs.length
      . rw[if_pos hp] at hy
        simp[lq,bM,d7,aP,q0,q1,hb,m0,m2,kg,gY,hp,hy,hc]
      . rw[if_neg hp] at hy
        injection hy with hy
        injection hy with hy
        subst hy
        simp[lq,bM,d7,aP,q0,q1,hb,m0,m2,kg,gY,hp]
noncomputable def dD (aQ:FM):GS:=
 (aZ (bJ 1 (eP xF (aa (eF (eP iK (aa (eF (eP dF (aa (eC (.str "a")) (aa (eC (.str "ab")) (aa (eC (.str "b")) aC))))) (aa (eF (eP dF (aa (eC (.str "now")) (aa (eC (.str "any")) (aa (eC (.str "name")) aC))))) (aa (eF (eP dF (aa (eC (.str "less")) (aa (eC (.str "x")) (aa (eC (.str "n")) aC))))) (aa (eF (eP dF (aa (eC (.str "yes")) (aa (eC (.str "till")) (aa (eC (.str "no")) aC))))) aC)))))) (aa (eF (aR aQ (gQ (ak 0) (aF (eC (.int 4)) bB)))) aC))))
 (aZ (bJ 2 (eP ji (aa (eC (.int 1)) (aa (eF (aR aQ (gQ (ak 0) (aF (eC (.int 3)) bB)))) aC))))
 (aZ (oG (qB (eF (eP w4 (aa (eF (ak 2)) (aa (eC (.int 1)) aC))))) (cT (eP dF (aa (eF (eP dF (aa (bg 1 (eC (.int 0))) (aa (eF (eP ji (aa (eC (.int 1)) (aa (eF (aR aQ (gQ (ak 0) (aF (eC (.int 4)) bB)))) aC)))) aC)))) aC))) gX)
 (aZ (oG (qB (eF (eP w4 (aa (eF (ak 2)) (aa (eC (.int 2)) aC))))) (cT (eP dF (aa (eF (eP dF (aa (bg 1 (eC (.int 0))) (aa (eF (aR aQ (gQ (ak 0) (aF (eC (.int 3)) bB)))) aC)))) (aa (eF (eP dF (aa (bg 1 (eC (.int 1))) (aa (eF (aR aQ (gQ (ak 0) (aF (eC (.int 2)) bB)))) aC)))) aC)))) gX)
 (cT (eP dF (aa (eF (eP dF (aa (bg 1 (eC (.int 0))) (aa (eF (aR aQ (gQ (ak 0) (aF (eC (.int 2)) bB)))) aC)))) (aa (eF (eP dF (aa (bg 1 (eC (.int 1))) (aa (eC (.int 0)) aC)))) (aa (eF (eP dF (aa (bg 1 (eC (.int 2))) (aa (eF (aR aQ (gQ (ak 0) (aF (eC (.int 2)) bB)))) aC)))) aC)))))))))
noncomputable def jX:FM:=bM 3 (dD lq)
theorem tab_run:∀us r,jX us=some r->bM 3 (dD lq) us=some r:=fun _ _ h=>h
noncomputable abbrev Mb:List D:=[.tup [.str "a",.str "ab",.str "b"],.tup [.str "now",.str "any",.str "name"],.tup [.str "less",.str "x",.str "n"],.tup [.str "yes",.str "till",.str "no"]]
theorem Ff {i:Int}(h0:0<=i) (h1:i < 4):∃x y z,dW Mb i=some (.tup [.str x,.str y,.str z])/\uB x/\uB y/\uB z:=by
 have:i=0\/i=1\/i=2\/i=3:=by omega
 rcases this with rfl | rfl | rfl | rfl <;> exact⟨_,_,_,rfl,⟨by decide,by decide⟩,⟨by decide,by decide⟩,by decide,by decide⟩
theorem Me {f:FM}(hf:Tk f){o:MO}(ho:Fq o):∃T o',bM 3 (dD f) [.b o]=some (.t (oN T),[o'])/\Fq o'/\T.length<=4/\∀p∈T,uC p:=by
 obtain⟨i,o1,e1,h1,i0,i1⟩:=hf o ho 4 (by decide) (by decide)
 obtain⟨x,y,z,em,nx,ny,nz⟩:=Ff i0 i1
 obtain⟨j,o2,e2,h2,j0,j1⟩:=hf o1 h1 3 (by decide) (by decide)
 have q0:∀(x y z:D),dW [x,y,z] 0=some x/\dW [x,y,z] 1=some y/\dW [x,y,z] 2=some z:=fun _ _ _=>⟨rfl,rfl,rfl⟩
 have jj:j=0\/j=1\/j=2:=by omega
 rcases jj with rfl | rfl | rfl
 ·obtain⟨v,o3,e3,h3,v0,v1⟩:=hf o2 h2 4 (by decide) (by decide)
  refine⟨[(x,1+v)],o3,?_,h3,by simp,fun p hp=>?_⟩
  ·simp[bM,dD,e1,em,e2,e3,q0,aP,oN]
  ·rw[List.mem_singleton.mp hp];exact⟨nx,by show(0:Int)<=1+v;omega,by show(1+v:Int)<=10;omega⟩
 ·obtain⟨v,o3,e3,h3,v0,v1⟩:=hf o2 h2 3 (by decide) (by decide)
  obtain⟨u,o4,e4,h4,u0,u1⟩:=hf o3 h3 2 (by decide) (by decide)
  refine⟨[(x,v),(y,u)],o4,?_,h4,by simp,fun p hp=>?_⟩
  ·simp[bM,dD,e1,em,e2,e3,e4,q0,aP,oN]
  ·simp only[List.mem_cons,List.not_mem_nil,or_false] at hp
   rcases hp with rfl | rfl
   ·exact⟨nx,v0,by show(v:Int)<=10;omega⟩
   ·exact⟨ny,u0,by show(u:Int)<=10;omega⟩
 ·obtain⟨v,o3,e3,h3,v0,v1⟩:=hf o2 h2 2 (by decide) (by decide)
  obtain⟨u,o4,e4,h4,u0,u1⟩:=hf o3 h3 2 (by decide) (by decide)
  refine⟨[(x,v),(y,0),(z,u)],o4,?_,h4,by simp,fun p hp=>?_⟩
  ·simp[bM,dD,e1,em,e2,e3,e4,q0,aP,oN]
  ·simp only[List.mem_cons,List.not_mem_nil,or_false] at hp
   rcases hp with rfl | rfl | rfl
   ·exact⟨nx,v0,by show(v:Int)<=10;omega⟩
   ·exact⟨ny,by show(0:Int)<=0;decide,by show(0:Int)<=10;decide⟩
   ·exact⟨nz,u0,by show(u:Int)<=10;omega⟩
noncomputable def eV (aQ:FM):GS:=
 (pA (eT (eM 4 hAppend (aa (eF (eP cE (aa (eF (bQ [0,3] (iW (aa (eF (ak 1)) aC)) aV (eF (aR aQ (gQ (ak 1) (aF (eF (ak 2)) bB)))))) aC))) aC))))
noncomputable def cH (aQ:FM):GS:=
 (aZ (bJ 3 (eT (bg 2 (eF (aR aQ (gQ (ak 0) (aF (jA 2) bB)))))))
 (aZ (bJ 4 (eP iK aC))
 (aZ (j9 (bName 5) (iW (aa (eF (ak 3)) aC)) (eV aQ))
 (cT (eP dF (aa (eF (eP cE (aa (eF (ak 4)) aC))) (aa (eF (eP cE (aa (eF (bQ [0] (iW (aa (eF (ak 3)) aC)) aV (eF (eP w4 (aa (eF (aR aQ (gQ (ak 1) (aF (eC (.int 2)) bB)))) (aa (eC (.int 1)) aC)))))) aC))) aC)))))))
noncomputable def Qq (aQ:FM):GS:=
 (bJ 3 (eT (bg 2 (eF (aR aQ (gQ (ak 0) (aF (jA 2) bB)))))))
noncomputable def Tw (aQ:FM):GS:=
 (bJ 4 (eP iK aC))
noncomputable def Qs (aQ:FM):GS:=
 (j9 (bName 5) (iW (aa (eF (ak 3)) aC)) (eV aQ))
noncomputable def Tz (aQ:FM):GS:=
 (cT (eP dF (aa (eF (eP cE (aa (eF (ak 4)) aC))) (aa (eF (eP cE (aa (eF (bQ [0] (iW (aa (eF (ak 3)) aC)) aV (eF (eP w4 (aa (eF (aR aQ (gQ (ak 1) (aF (eC (.int 2)) bB)))) (aa (eC (.int 1)) aC)))))) aC))) aC))))
theorem Mf (aQ:FM):cH aQ=aZ (Qq aQ) (aZ (Tw aQ) (aZ (Qs aQ) (Tz aQ))):=rfl
noncomputable def cV:FM:=bM 6 (cH lq)
theorem AR:∀us r,cV us=some r->bM 6 (cH lq) us=some r:=fun _ _ h=>h
section
variable {f:FM}{a1 a2 a4 a5:Option U}
theorem IQ (hf:Tk f){o:MO}(ho:Fq o){m:Int}(m0:0 < m) (m1:m < 1000000) (n:Nat):
  ∃(vs:List Int) (o':MO),br [0,3] aV (eF (aR f (gQ (ak 1) (aF (eF (ak 2)) bB)))) (mF 0 n) [some (.b o),a1,a2,some (.t (.int m)),a4,a5] []=some (vs.map D.int,[some (.b o'),a1,a2,some (.t (.int m)),a4,a5])/\Fq o'/\vs.length=n/\∀v∈vs,0<=v/\v < m:=by
 obtain⟨acc,S',e,vs,o',rfl,hl,hq,hv,rfl⟩:=nP (cap:=[0,3]) (g:=eF (aR f (gQ (ak 1) (aF (eF (ak 2)) bB)))) (mF 0 n)
  (fun j acc S=>∃(vs:List Int) (o':MO),acc=vs.map D.int/\vs.length=j/\Fq o'/\(∀v∈vs,0<=v/\v < m)/\S=[some (.b o'),a1,a2,some (.t (.int m)),a4,a5]) _ ⟨[],o,rfl,rfl,ho,by simp,rfl⟩ (by
  rintro j d acc S hd ⟨vs,o',rfl,hl,hq,hv,rfl⟩
  obtain⟨v,o2,e1,h1,v0,v1⟩:=hf o' hq m m0 m1
  refine⟨.int v,[some (.b o2),a1,a2,some (.t (.int m)),a4,a5],?_,vs++[v],o2,by simp,by simp[hl],h1,fun w hw=>?_,rfl⟩
  ·simp[br,bS,fW,e1,aP]
  ·rcases List.mem_append.mp hw with q | q
   ·exact hv w q
   ·rw[List.mem_singleton.mp q];exact⟨v0,v1⟩)
 rw[Sq.ki] at hl
 exact⟨vs,o',e,hq,hl,hv⟩
theorem Dk (hf:Tk f){o:MO}(ho:Fq o){a3:Option U}(n:Nat):
  ∃(ws:List D) (o':MO),br [0] aV (eF (eP w4 (aa (eF (aR f (gQ (ak 1) (aF (eC (.int 2)) bB)))) (aa (eC (.int 1)) aC)))) (mF 0 n) [some (.b o),a1,a2,a3,a4,a5] []=some (ws,[some (.b o'),a1,a2,a3,a4,a5])/\Fq o'/\ws.length=n/\∀w∈ws,∃b,w=D.bl b:=by
 obtain⟨acc,S',e,o',hl,hq,hv,rfl⟩:=nP (cap:=[0]) (g:=(eF (eP w4 (aa (eF (aR f (gQ (ak 1) (aF (eC (.int 2)) bB)))) (aa (eC (.int 1)) aC))))) (mF 0 n)
  (fun j acc S=>∃(o':MO),acc.length=j/\Fq o'/\(∀w∈acc,∃b,w=D.bl b)/\S=[some (.b o'),a1,a2,a3,a4,a5]) _ ⟨o,rfl,ho,by simp,rfl⟩ (by
  rintro j d acc S hd ⟨o',hl,hq,hv,rfl⟩
  obtain⟨v,o2,e1,h1,v0,v1⟩:=hf o' hq 2 (by decide) (by decide)
  have d0:fX (.int v)<=40:=Nat.zero_le _
  refine⟨.bl (v == 1),[some (.b o2),a1,a2,a3,a4,a5],?_,o2,by simp[hl],h1,fun w hw=>?_,rfl⟩
  ·simp[br,bS,fW,e1,aP,d0]
  ·rcases List.mem_append.mp hw with q | q
   ·exact hv w q
   ·rw[List.mem_singleton.mp q];exact⟨_,rfl⟩)
 rw[Sq.ki] at hl
 exact⟨acc,o',e,hq,hl,hv⟩
noncomputable abbrev cW:List D:=[.int 1,.int 2,.int 3,.int 4,.int 5,.int 6]
theorem Fg {i:Int}(h0:0<=i) (h1:i < 6):∃n:Nat,dW cW i=some (.int n)/\0 < n/\n<=6:=by
 have:i=0\/i=1\/i=2\/i=3\/i=4\/i=5:=by omega
 rcases this with rfl | rfl | rfl | rfl | rfl | rfl
 ·exact⟨1,rfl,by decide,by decide⟩
 ·exact⟨2,rfl,by decide,by decide⟩
 ·exact⟨3,rfl,by decide,by decide⟩
 ·exact⟨4,rfl,by decide,by decide⟩
 ·exact⟨5,rfl,by decide,by decide⟩
 ·exact⟨6,rfl,by decide,by decide⟩
theorem Fi (hf:Tk f){o:MO}(ho:Fq o){n W:Nat}{N:List (List Int)}{k:Int}(n0:0 < n) (n6:n<=6) (hW:W < 900) (hN:N.length < 10):
  ∃(vs:List Int) (o':MO),eV f [some (.b o),some (.t (.int W)),a2,some (.t (.int n)),some (.m (.lst (N.map Sq.bT))),some (.t (.int k))]=some (.nx [some (.b o'),some (.t (.int W)),a2,some (.t (.int n)),some (.m (.lst ((N++[vs]).map Sq.bT))),some (.t (.int k))])/\Fq o'/\vs.length=W/\∀v∈vs,0<=v/\v < (n:Int):=by
 obtain⟨vs,o',e,hq,hl,hv⟩:=IQ (a1:=some (.t (.int W))) (a2:=a2) (a4:=some (.m (.lst (N.map Sq.bT)))) (a5:=some (.t (.int k))) hf ho (m:=n) (by omega) (by omega) W
 refine⟨vs,o',?_,hq,hl,hv⟩
 have c1:=fun S h=>Sq.x8 1 W S h (by omega)
 have c3:W<=100000:=by omega
 have c4:N.length < 100000:=by omega
 have em:(N++[vs]).map Sq.bT=N.map Sq.bT++[.tup (vs.map D.int)]:=by rw[List.map_append];rfl
 have c5:(N.map Sq.bT).length < 100000:=by rw[List.length_map];exact c4
 rw[em]
 generalize N.map Sq.bT=nd at *
 generalize vs.map D.int=vd at *
 unfold eV
 simp[-EA,c1,cF,Sq.ki,c3,e,kg,B6,hAppend,c5]
theorem Mg {o o1:MO}{W i:Int}{n:Nat}{sz:List D}(e1:f [.b o,.t (.int ((sz.length:Nat):Int))]=some (.t (.int i),[o1])) (en:dW sz i=some (.int n)):Qq f [some (.b o),some (.t (.int W)),some (.t (.lst sz)),none,none,none]=some (.nx [some (.b o1),some (.t (.int W)),some (.t (.lst sz)),some (.t (.int n)),none,none]):=by
 generalize ((n:Nat):Int)=nn at *
 simp[Qq,e1,en]
theorem Mh {o1:MO}{W:Int}{n:Nat}{sz:List D}{r:Out}(hn:n < 1000000) (e2:loop (bName 5) (eV f) (mF 0 n) [some (.b o1),some (.t (.int W)),some (.t (.lst sz)),some (.t (.int n)),some (.m (.lst [])),none]=some r):
  Qs f [some (.b o1),some (.t (.int W)),some (.t (.lst sz)),some (.t (.int n)),some (.m (.lst [])),none]=some r:=by
 have c1:=Sq.x8 3 n [some (.b o1),some (.t (.int W)),some (.t (.lst sz)),some (.t (.int n)),some (.m (.lst [])),none] rfl hn
 unfold Qs
 rw[uz,c1,Option.bind_some]
 exact e2
theorem IS {n:Nat}(hn:n < 1000):(mF 0 n).length<=100000:=by rw[Sq.ki];omega
theorem Mi {n:Nat}{S S':SS}{G:GD}{ws:List D}(hn:n < 1000) (h:S[3]? =some (some (.t (.int n)))) (e:br [0] aV G (mF 0 n) S []=some (ws,S')):bQ [0] (iW (aa (eF (ak 3)) aC)) aV G S=some (.m (.lst ws),S'):=by
 have c1:=Sq.x8 3 n S h (by omega)
 have l:=IS hn
 generalize mF 0 n=r at *
 rw[cF,c1,Option.bind_some]
 show(if r.length<=100000 then _ else _)=_
 rw[if_pos l,e]
 rfl
theorem IT {o2 o3:MO}{z1 z2 z3 x5:Option U}{nd ws:List D}{gc:GE}(ec:gc [some (.b o2),z1,z2,z3,some (.t (.lst nd)),x5]=some (.m (.lst ws),[some (.b o3),z1,z2,z3,some (.t (.lst nd)),x5])):
  (cT (eP dF (aa (eF (eP cE (aa (eF (ak 4)) aC))) (aa (eF (eP cE (aa (eF gc) aC))) aC)))) [some (.b o2),z1,z2,z3,some (.m (.lst nd)),x5]=some (.rt (.t (.tup [.tup nd,.tup ws])) [some (.b o3),z1,z2,z3,some (.t (.lst nd)),x5]):=by
 simp[ec]
theorem Mj {o2 o3:MO}{W:Int}{n:Nat}{sz nd ws:List D}{x5:Option U}(hn:n < 1000) (e4:br [0] aV (eF (eP w4 (aa (eF (aR f (gQ (ak 1) (aF (eC (.int 2)) bB)))) (aa (eC (.int 1)) aC)))) (mF 0 n) [some (.b o2),some (.t (.int W)),some (.t (.lst sz)),some (.t (.int n)),some (.t (.lst nd)),x5] []=some (ws,[some (.b o3),some (.t (.int W)),some (.t (.lst sz)),some (.t (.int n)),some (.t (.lst nd)),x5])):
  Tz f [some (.b o2),some (.t (.int W)),some (.t (.lst sz)),some (.t (.int n)),some (.m (.lst nd)),x5]=some (.rt (.t (.tup [.tup nd,.tup ws])) [some (.b o3),some (.t (.int W)),some (.t (.lst sz)),some (.t (.int n)),some (.t (.lst nd)),x5]):=
 IT (Mi hn rfl e4)
theorem uN (hf:Tk f){o:MO}(ho:Fq o){W:Nat}(hW:W < 900):
  ∃n nx wd o',bM 6 (cH f) [.b o,.t (.int W),.t (.lst cW)]=some (.t (mT n W nx wd),[o'])/\Fq o'/\Mc W n nx wd/\n<=6:=by
 obtain⟨i,o1,e1,h1,i0,i1⟩:=hf o ho 6 (by decide) (by decide)
 obtain⟨n,en,n0,n6⟩:=Fg i0 i1
 obtain⟨S',e2,N,o2,x5,hN,hr,h2,h5,rfl⟩:=nO (bd:=bName 5) (body:=eV f) (mF 0 n)
  (fun j S=>∃(N:List (List Int)) (o':MO) (x5:Option U),N.length=j/\(∀r∈N,r.length=W/\∀v∈r,0<=v/\v < (n:Int))/\Fq o'/\mC x5=false/\S=[some (.b o'),some (.t (.int W)),some (.t (.lst cW)),some (.t (.int n)),some (.m (.lst (N.map Sq.bT))),x5])
  [some (.b o1),some (.t (.int W)),some (.t (.lst cW)),some (.t (.int n)),some (.m (.lst [])),none] ⟨[],o1,none,rfl,by simp,h1,rfl,rfl⟩ (by
  rintro j d S hd ⟨N,o',x5,hN,hr,hq,h5,rfl⟩
  obtain⟨hj,rfl⟩:=EC hd
  obtain⟨vs,o2,e3,h3,vl,vv⟩:=Fi (a2:=some (.t (.lst cW))) hf hq (n:=n) (W:=W) (N:=N) (k:=j) n0 n6 hW (by omega)
  refine⟨_,_,?_,e3,N++[vs],o2,some (.t (.int j)),by simp[hN],fun r hr'=>?_,h3,rfl,rfl⟩
  ·generalize ((j:Nat):Int)=jj
   generalize N.map Sq.bT=nd
   simp[-gZ,fO,h5]
  ·rcases List.mem_append.mp hr' with q | q
   ·exact hr r q
   ·rw[List.mem_singleton.mp q];exact⟨vl,vv⟩)
 rw[Sq.ki] at hN
 obtain⟨ws,o3,e4,h4,wl,wv⟩:=Dk (a1:=some (.t (.int W))) (a2:=some (.t (.lst cW))) (a3:=some (.t (.int n))) (a4:=some (.t (.lst (N.map Sq.bT)))) (a5:=x5) hf h2 n
 have mo:pN W N:=⟨by omega,by omega,fun r q=>by rw[hN];exact hr r q⟩
 have aN:N.map Sq.bT=aY n W (gm N):=by
  unfold aY
  apply List.ext_getElem?
  intro s
  rw[List.getElem?_map,List.getElem?_map]
  by_cases hs:s < N.length
  ·rw[rw_get hs,List.getElem?_range (by omega)]
   show some (D.tup ((rw' N s).map D.int))=_
   rw[Gp mo hs]
   rfl
  ·rw[List.getElem?_eq_none (by omega),List.getElem?_eq_none (by rw[List.length_range];omega)];rfl
 have aM:ws=(List.range n).map (g9 ws):=by
  apply List.ext_getElem?
  intro s
  rw[List.getElem?_map]
  by_cases hs:s < n
  ·rw[List.getElem?_range hs,qP (by omega)];rfl
  ·rw[List.getElem?_eq_none (by omega),List.getElem?_eq_none (by rw[List.length_range];omega)];rfl
 refine⟨n,gm N,g9 ws,o3,?_,h4,⟨n0,by omega,fun s c hs hc=>?_,fun s hs=>wv _ (qQ (by omega))⟩,n6⟩
 ·have s0:=Mg (W:=W) (sz:=cW) e1 en
  have s1:Tw f [some (.b o1),some (.t (.int W)),some (.t (.lst cW)),some (.t (.int n)),none,none]=some (.nx [some (.b o1),some (.t (.int W)),some (.t (.lst cW)),some (.t (.int n)),some (.m (.lst [])),none]):=rfl
  have s2:=Mh (by omega) e2
  have s3:=Mj (nd:=N.map Sq.bT) (by omega) e4
  have all:cH f [some (.b o),some (.t (.int W)),some (.t (.lst cW)),none,none,none]=some (.rt (.t (.tup [.tup (N.map Sq.bT),.tup ws])) [some (.b o3),some (.t (.int W)),some (.t (.lst cW)),some (.t (.int n)),some (.t (.lst (N.map Sq.bT))),x5]):=by
   rw[Mf,Sq.bE s0,Sq.bE s1,Sq.bE s2,s3]
  have r:bM 6 (cH f) [.b o,.t (.int W),.t (.lst cW)]=some (.t (.tup [.tup (N.map Sq.bT),.tup ws]),[o3]):=by
   show(cH f [some (.b o),some (.t (.int W)),some (.t (.lst cW)),none,none,none]).bind _=_
   rw[all]
   rfl
  rw[r,aN]
  unfold mT
  rw[<-aM]
 ·have:=(qV mo (s:=s) (c:=c) (by omega) hc).2
  omega
end
noncomputable def Qt:D->Bool
 | .int _=>true
 | _=>false
noncomputable def AS (n:Nat):FM
 | [.t (.lst ds)]=>if ds.length<=n/\ds.all Qt=true then some (.t (.bl true),[]) else none
 | _=>none
noncomputable def Fj (p:Addr×Obj):Bool:=match p.2.cls with
 | .type n=>!(n == "list")
 | _=>true
theorem TF:∀{K:PySem.W.Frag}(h:K.all Fj=true){a:Addr}{o:Obj},K.lookup a=some o->o.cls≠.type "list"
 | [],_,_,_,e=>by cases e
 | (b,x) :: K,h,a,o,e=>by
  rw[List.all_cons,Bool.and_eq_true] at h
  rw[List.lookup_cons] at e
  split at e
  ·cases e
   intro z
   have:=h.1
   unfold Fj at this
   dsimp only at this
   rw[z] at this
   simp at this
  ·exact TF h.2 e
theorem sU (F:Hp):∀ns:List Int,bD F (ns.map V.int) (ns.map D.int)
 | []=>.nil
 | n :: ns=>.cons (.int n) (sU F ns)
theorem Fl (ns:List Int):(ns.map D.int).all Qt=true:=by
 rw[List.all_eq_true]
 intro d hd
 obtain⟨y,_,rfl⟩:=List.mem_map.mp hd
 rfl
theorem Fp {K:PySem.W.Frag}{H:Hp}{a:Addr}{ns:List Int}{n:Nat}{E:XK}(hK:K.all Fj=true) (hl:ns.length<=n) (hO:DX H) (hS:mR K H a (ns.map V.int)):spT K 1 (AS n) [.ref a] H (fun v _=>v= .bl true) E:=by
 have rd:Rd H a (.lst (ns.map V.int)):=by
  rcases hS with h | ⟨o,its,k,h1,h2,_⟩
  ·exact h
  ·exact absurd h2 (TF hK h1)
 have ll:(ns.map D.int).length<=n:=by rw[List.length_map];exact hl
 exact⟨rfl,H,[.t (.lst (ns.map D.int))],.t (.bl true),[],(fun b o z=>z),.cons (.lst rd (sU H ns)) .nil,List.nodup_nil,if_pos ⟨ll,Fl ns⟩,fun v F' H' _ r=>oE r⟩
theorem Ft {xs:List D}(h:xs.all Qt=true):∀d∈xs,∃y:Int,d= .int y:=fun d hd=>by
 have:=List.all_eq_true.mp h d hd
 cases d <;> first | exact⟨_,rfl⟩ | cases this
theorem zQ {k:Nat}:∀{ds:List D},(∀d∈ds,fX d<=k)->gU ds<=k
 | [],_=>Nat.zero_le _
 | d :: ds,h=>Nat.max_le.mpr ⟨h d List.mem_cons_self,zQ fun e he=>h e (List.mem_cons_of_mem _ he)⟩
theorem nT {k:Nat}{ds:List D}(h:∀d∈ds,fX d<=k):fX (.tup ds)<=k+1:=Nat.succ_le_succ (zQ h)
theorem IU {W n:Nat}{nx:Nat->Nat->Nat}{wd:Nat->D}(A:Mc W n nx wd):fX (mT n W nx wd)<=3:=by
 refine nT (k:=2) fun d hd=>?_
 simp only[List.mem_cons,List.not_mem_nil,or_false] at hd
 rcases hd with rfl | rfl
 ·refine nT (k:=1) fun d hd=>?_
  unfold aY at hd
  obtain⟨s,_,rfl⟩:=List.mem_map.mp hd
  refine nT (k:=0) fun d hd=>?_
  unfold fC at hd
  obtain⟨c,_,rfl⟩:=List.mem_map.mp hd
  exact Nat.zero_le _
 ·refine Nat.le_trans (nT (k:=0) fun d hd=>?_) (by decide)
  obtain⟨s,hs,rfl⟩:=List.mem_map.mp hd
  obtain⟨b,e⟩:=A.bl s (List.mem_range.mp hs)
  rw[e]
  exact Nat.zero_le _
theorem Cn.dep {W:Nat}{k:List Nat->Nat}{β:List Nat->Bool}{d:D}(h:Cn W k β d):fX d<=40:=by
 obtain⟨n,nx,wd,rfl,A,_⟩:=h.ex
 exact Nat.le_trans (IU A) (by decide)
noncomputable def Mk (W:Nat):D:=.tup [.tup [.tup (List.replicate W (.int 0))],.tup [.bl false]]
theorem q8:∀cs:List Nat,led (fun _ _=>0) cs 0=0
 | []=>rfl
 | _ :: cs=>q8 cs
theorem Ml (W:Nat) (k:List Nat->Nat):Cn W k (fun _=>false) (Mk W):=by
 refine⟨1,fun _ _=>0,fun _=>.bl false,?_,⟨by decide,by decide,fun _ _ _ _=>by decide,fun _ _=>⟨_,rfl⟩⟩,fun cs _=>rfl,fun cs ds _ _ _=>by rw[q8,q8],⟨by decide,fun _ _ _ _=>by decide,fun j h1 h2=>by omega,fun s t h1 h2 h3=>by omega⟩⟩
 unfold Mk mT aY fC
 simp
 rw[List.map_const',List.length_range]
noncomputable def uO (aH:FM) (aD:FM) (ao:FM) (aA:FM) (aJ:FM) (az:FM) (aO:FM):GS:=
 (oG (qB (eF (eP zb (aa (eF (aR aJ (aF (eF (ak 2)) (aF (eF (ak 7)) (aF (eF (ak 4)) (aF (eF (ak 5)) bB)))))) (aa (eF (aR aJ (aF (eF (ak 2)) (aF (eF (ak 7)) (aF (eF (ak 5)) (aF (eF (ak 4)) bB)))))) aC))))) (cT (eT (eC (.bl false)))) gX)
noncomputable def uP (aH:FM) (aD:FM) (ao:FM) (aA:FM) (aJ:FM) (az:FM) (aO:FM):GS:=
 (aZ (bJ 8 (aR aJ (aF (eF (ak 2)) (aF (eF (ak 7)) (aF (eF (aR aJ (aF (eF (ak 2)) (aF (eF (ak 7)) (aF (eF (ak 4)) (aF (eF (ak 5)) bB)))))) (aF (eF (ak 6)) bB))))))
 (aZ (oG (qB (eF (eP zb (aa (eF (ak 8)) (aa (eF (aR aJ (aF (eF (ak 2)) (aF (eF (ak 7)) (aF (eF (ak 4)) (aF (eF (aR aJ (aF (eF (ak 2)) (aF (eF (ak 7)) (aF (eF (ak 5)) (aF (eF (ak 6)) bB)))))) bB)))))) aC))))) (cT (eT (eC (.bl false)))) gX)
 (oG (qB (eF (eP zb (aa (eF (aR aJ (aF (eF (ak 2)) (aF (eF (ak 7)) (aF (eF (ak 4)) (aF (eF (ak 4)) bB)))))) (aa (eF (aR az (aF (eF (ak 2)) (aF (eF (ak 4)) bB)))) aC))))) (cT (eT (eC (.bl false)))) gX)))
noncomputable def wH (aH:FM) (aD:FM) (ao:FM) (aA:FM) (aJ:FM) (az:FM) (aO:FM):GS:=
 (aZ (bJ 1 (aR aH (gQ (ak 0) (aF (eC (.int 0)) bB))))
 (aZ (bJ 2 (aR aD (gQ (ak 1) bB)))
 (aZ (bJ 3 (eP rL (aa (eF (aR ao (aF (eF (ak 2)) bB))) aC)))
 (aZ (bJ 4 (aR aA (gQ (ak 1) (aF (eF (ak 3)) (aF (eF (eP iK (aa (eC (.int 1)) (aa (eC (.int 2)) (aa (eC (.int 3)) (aa (eC (.int 4)) (aa (eC (.int 5)) (aa (eC (.int 6)) aC)))))))) bB)))))
 (aZ (bJ 5 (aR aA (gQ (ak 1) (aF (eF (ak 3)) (aF (eF (eP iK (aa (eC (.int 1)) (aa (eC (.int 2)) (aa (eC (.int 3)) (aa (eC (.int 4)) (aa (eC (.int 5)) (aa (eC (.int 6)) aC)))))))) bB)))))
 (aZ (bJ 6 (aR aA (gQ (ak 1) (aF (eF (ak 3)) (aF (eF (eP iK (aa (eC (.int 1)) (aa (eC (.int 2)) (aa (eC (.int 3)) (aa (eC (.int 4)) (aa (eC (.int 5)) (aa (eC (.int 6)) aC)))))))) bB)))))
 (aZ (j9 (bName 7) (cU (eF (eP iK (aa (eC (.str "both")) (aa (eC (.str "either")) (aa (eC (.str "unlike")) aC)))))) (uO aH aD ao aA aJ az aO))
 (aZ (j9 (bName 7) (cU (eF (eP iK (aa (eC (.str "both")) (aa (eC (.str "either")) aC))))) (uP aH aD ao aA aJ az aO))
 (aZ (bJ 9 (aR aJ (aF (eF (ak 2)) (aF (eC (.str "but")) (aF (eF (ak 4)) (aF (eF (ak 5)) bB))))))
 (aZ (oG (qB (eF (eP zb (aa (eF (ak 9)) (aa (eF (aR aJ (aF (eF (ak 2)) (aF (eC (.str "both")) (aF (eF (ak 4)) (aF (eF (aR aO (aF (eF (ak 2)) (aF (eF (ak 5)) bB)))) bB)))))) aC))))) (cT (eT (eC (.bl false)))) gX)
 (aZ (oG (qB (eF (eP zb (aa (eF (aR aJ (aF (eF (ak 2)) (aF (eC (.str "unlike")) (aF (eF (ak 4)) (aF (eF (ak 5)) bB)))))) (aa (eF (aR aJ (aF (eF (ak 2)) (aF (eC (.str "either")) (aF (eF (ak 9)) (aF (eF (aR aJ (aF (eF (ak 2)) (aF (eC (.str "but")) (aF (eF (ak 5)) (aF (eF (ak 4)) bB)))))) bB)))))) aC))))) (cT (eT (eC (.bl false)))) gX)
 (aZ (oG (qB (eF (eP zb (aa (eF (aR aO (aF (eF (ak 2)) (aF (eF (aR aO (aF (eF (ak 2)) (aF (eF (ak 4)) bB)))) bB)))) (aa (eF (aR az (aF (eF (ak 2)) (aF (eF (ak 4)) bB)))) aC))))) (cT (eT (eC (.bl false)))) gX)
 (aZ (bJ 8 (aR aO (aF (eF (ak 2)) (aF (eF (aR aJ (aF (eF (ak 2)) (aF (eC (.str "both")) (aF (eF (ak 4)) (aF (eF (ak 5)) bB)))))) bB))))
 (aZ (oG (qB (eF (eP zb (aa (eF (ak 8)) (aa (eF (aR aJ (aF (eF (ak 2)) (aF (eC (.str "either")) (aF (eF (aR aO (aF (eF (ak 2)) (aF (eF (ak 4)) bB)))) (aF (eF (aR aO (aF (eF (ak 2)) (aF (eF (ak 5)) bB)))) bB)))))) aC))))) (cT (eT (eC (.bl false)))) gX)
 (aZ (bJ 10 (eP dF (aa (eF (eP dF (aa (eF (eP sL (aa (eF (eP dF (aa (eC (.int 0)) aC))) (aa (eF (ak 3)) aC)))) aC))) (aa (eF (eP dF (aa (eC (.bl false)) aC))) aC))))
 (cT (eT (eQ (ue (qB (eF (eP w4 (aa (eF (aR aJ (aF (eF (ak 2)) (aF (eC (.str "unlike")) (aF (eF (ak 4)) (aF (eF (ak 4)) bB)))))) (aa (eF (ak 10)) aC))))) (qB (eF (eP w4 (aa (eF (aR aJ (aF (eF (ak 2)) (aF (eC (.str "but")) (aF (eF (ak 4)) (aF (eF (ak 4)) bB)))))) (aa (eF (ak 10)) aC))))))))))))))))))))))))
noncomputable def Qu (aH:FM) (aD:FM) (ao:FM) (aA:FM) (aJ:FM) (az:FM) (aO:FM):GS:=
 (bJ 1 (aR aH (gQ (ak 0) (aF (eC (.int 0)) bB))))
noncomputable def Qv (aH:FM) (aD:FM) (ao:FM) (aA:FM) (aJ:FM) (az:FM) (aO:FM):GS:=
 (bJ 2 (aR aD (gQ (ak 1) bB)))
noncomputable def Qw (aH:FM) (aD:FM) (ao:FM) (aA:FM) (aJ:FM) (az:FM) (aO:FM):GS:=
 (bJ 3 (eP rL (aa (eF (aR ao (aF (eF (ak 2)) bB))) aC)))
noncomputable def Qx (aH:FM) (aD:FM) (ao:FM) (aA:FM) (aJ:FM) (az:FM) (aO:FM):GS:=
 (bJ 4 (aR aA (gQ (ak 1) (aF (eF (ak 3)) (aF (eF (eP iK (aa (eC (.int 1)) (aa (eC (.int 2)) (aa (eC (.int 3)) (aa (eC (.int 4)) (aa (eC (.int 5)) (aa (eC (.int 6)) aC)))))))) bB)))))
noncomputable def Qy (aH:FM) (aD:FM) (ao:FM) (aA:FM) (aJ:FM) (az:FM) (aO:FM):GS:=
 (bJ 5 (aR aA (gQ (ak 1) (aF (eF (ak 3)) (aF (eF (eP iK (aa (eC (.int 1)) (aa (eC (.int 2)) (aa (eC (.int 3)) (aa (eC (.int 4)) (aa (eC (.int 5)) (aa (eC (.int 6)) aC)))))))) bB)))))
noncomputable def Qz (aH:FM) (aD:FM) (ao:FM) (aA:FM) (aJ:FM) (az:FM) (aO:FM):GS:=
 (bJ 6 (aR aA (gQ (ak 1) (aF (eF (ak 3)) (aF (eF (eP iK (aa (eC (.int 1)) (aa (eC (.int 2)) (aa (eC (.int 3)) (aa (eC (.int 4)) (aa (eC (.int 5)) (aa (eC (.int 6)) aC)))))))) bB)))))
noncomputable def QA (aH:FM) (aD:FM) (ao:FM) (aA:FM) (aJ:FM) (az:FM) (aO:FM):GS:=
 (j9 (bName 7) (cU (eF (eP iK (aa (eC (.str "both")) (aa (eC (.str "either")) (aa (eC (.str "unlike")) aC)))))) (uO aH aD ao aA aJ az aO))
noncomputable def QB (aH:FM) (aD:FM) (ao:FM) (aA:FM) (aJ:FM) (az:FM) (aO:FM):GS:=
 (j9 (bName 7) (cU (eF (eP iK (aa (eC (.str "both")) (aa (eC (.str "either")) aC))))) (uP aH aD ao aA aJ az aO))
noncomputable def QC (aH:FM) (aD:FM) (ao:FM) (aA:FM) (aJ:FM) (az:FM) (aO:FM):GS:=
 (bJ 9 (aR aJ (aF (eF (ak 2)) (aF (eC (.str "but")) (aF (eF (ak 4)) (aF (eF (ak 5)) bB))))))
noncomputable def QD (aH:FM) (aD:FM) (ao:FM) (aA:FM) (aJ:FM) (az:FM) (aO:FM):GS:=
 (oG (qB (eF (eP zb (aa (eF (ak 9)) (aa (eF (aR aJ (aF (eF (ak 2)) (aF (eC (.str "both")) (aF (eF (ak 4)) (aF (eF (aR aO (aF (eF (ak 2)) (aF (eF (ak 5)) bB)))) bB)))))) aC))))) (cT (eT (eC (.bl false)))) gX)
noncomputable def IV (aH:FM) (aD:FM) (ao:FM) (aA:FM) (aJ:FM) (az:FM) (aO:FM):GS:=
 (oG (qB (eF (eP zb (aa (eF (aR aJ (aF (eF (ak 2)) (aF (eC (.str "unlike")) (aF (eF (ak 4)) (aF (eF (ak 5)) bB)))))) (aa (eF (aR aJ (aF (eF (ak 2)) (aF (eC (.str "either")) (aF (eF (ak 9)) (aF (eF (aR aJ (aF (eF (ak 2)) (aF (eC (.str "but")) (aF (eF (ak 5)) (aF (eF (ak 4)) bB)))))) bB)))))) aC))))) (cT (eT (eC (.bl false)))) gX)
noncomputable def IW (aH:FM) (aD:FM) (ao:FM) (aA:FM) (aJ:FM) (az:FM) (aO:FM):GS:=
 (oG (qB (eF (eP zb (aa (eF (aR aO (aF (eF (ak 2)) (aF (eF (aR aO (aF (eF (ak 2)) (aF (eF (ak 4)) bB)))) bB)))) (aa (eF (aR az (aF (eF (ak 2)) (aF (eF (ak 4)) bB)))) aC))))) (cT (eT (eC (.bl false)))) gX)
noncomputable def IX (aH:FM) (aD:FM) (ao:FM) (aA:FM) (aJ:FM) (az:FM) (aO:FM):GS:=
 (bJ 8 (aR aO (aF (eF (ak 2)) (aF (eF (aR aJ (aF (eF (ak 2)) (aF (eC (.str "both")) (aF (eF (ak 4)) (aF (eF (ak 5)) bB)))))) bB))))
noncomputable def IY (aH:FM) (aD:FM) (ao:FM) (aA:FM) (aJ:FM) (az:FM) (aO:FM):GS:=
 (oG (qB (eF (eP zb (aa (eF (ak 8)) (aa (eF (aR aJ (aF (eF (ak 2)) (aF (eC (.str "either")) (aF (eF (aR aO (aF (eF (ak 2)) (aF (eF (ak 4)) bB)))) (aF (eF (aR aO (aF (eF (ak 2)) (aF (eF (ak 5)) bB)))) bB)))))) aC))))) (cT (eT (eC (.bl false)))) gX)
noncomputable def IZ (aH:FM) (aD:FM) (ao:FM) (aA:FM) (aJ:FM) (az:FM) (aO:FM):GS:=
 (bJ 10 (eP dF (aa (eF (eP dF (aa (eF (eP sL (aa (eF (eP dF (aa (eC (.int 0)) aC))) (aa (eF (ak 3)) aC)))) aC))) (aa (eF (eP dF (aa (eC (.bl false)) aC))) aC))))
noncomputable def I0 (aH:FM) (aD:FM) (ao:FM) (aA:FM) (aJ:FM) (az:FM) (aO:FM):GS:=
 (cT (eT (eQ (ue (qB (eF (eP w4 (aa (eF (aR aJ (aF (eF (ak 2)) (aF (eC (.str "unlike")) (aF (eF (ak 4)) (aF (eF (ak 4)) bB)))))) (aa (eF (ak 10)) aC))))) (qB (eF (eP w4 (aa (eF (aR aJ (aF (eF (ak 2)) (aF (eC (.str "but")) (aF (eF (ak 4)) (aF (eF (ak 4)) bB)))))) (aa (eF (ak 10)) aC)))))))))
theorem lw_eq (aH:FM) (aD:FM) (ao:FM) (aA:FM) (aJ:FM) (az:FM) (aO:FM):wH aH aD ao aA aJ az aO=aZ (Qu aH aD ao aA aJ az aO) (aZ (Qv aH aD ao aA aJ az aO) (aZ (Qw aH aD ao aA aJ az aO) (aZ (Qx aH aD ao aA aJ az aO) (aZ (Qy aH aD ao aA aJ az aO) (aZ (Qz aH aD ao aA aJ az aO) (aZ (QA aH aD ao aA aJ az aO) (aZ (QB aH aD ao aA aJ az aO) (aZ (QC aH aD ao aA aJ az aO) (aZ (QD aH aD ao aA aJ az aO) (aZ (IV aH aD ao aA aJ az aO) (aZ (IW aH aD ao aA aJ az aO) (aZ (IX aH aD ao aA aJ az aO) (aZ (IY aH aD ao aA aJ az aO) (aZ (IZ aH aD ao aA aJ az aO) (I0 aH aD ao aA aJ az aO))))))))))))))):=rfl
section
variable {f1 f2 f3 f4 f5 f6 f7:FM}{td a b c o d e g l p u:D}{z0 z1 z3 z4 z5 z6 z7 z8 z9 gB:Option U}
theorem QE (h1:f5 [.t td,.t o,.t a,.t b]=some (.t d,[])) (h2:f5 [.t td,.t o,.t b,.t a]=some (.t d,[])) (dd:fX d<=40):
  uO f1 f2 f3 f4 f5 f6 f7 [z0,z1,some (.t td),z3,some (.t a),some (.t b),z6,some (.t o),z8,z9,gB]=some (.nx [z0,z1,some (.t td),z3,some (.t a),some (.t b),z6,some (.t o),z8,z9,gB]):=by
 have q:=gR d
 simp[uO,h1,h2,dd,q]
theorem TH (h8:mC z8=false) (h1:f5 [.t td,.t o,.t a,.t b]=some (.t e,[])) (h2:f5 [.t td,.t o,.t e,.t c]=some (.t p,[])) (h3:f5 [.t td,.t o,.t b,.t c]=some (.t g,[])) (h4:f5 [.t td,.t o,.t a,.t g]=some (.t p,[])) (h5:f5 [.t td,.t o,.t a,.t a]=some (.t l,[])) (h6:f6 [.t td,.t a]=some (.t l,[])) (dp:fX p<=40) (dl:fX l<=40):
  uP f1 f2 f3 f4 f5 f6 f7 [z0,z1,some (.t td),z3,some (.t a),some (.t b),some (.t c),some (.t o),z8,z9,gB]=some (.nx [z0,z1,some (.t td),z3,some (.t a),some (.t b),some (.t c),some (.t o),some (.t p),z9,gB]):=by
 have q:=gR p
 have q2:=gR l
 simp[-gZ,fO,uP,h1,h2,h3,h4,h5,h6,h8,dp,dl,q,q2]
theorem Mm {d:D}{z2 z4 z5:Option U}(h7:mC z7=false):bName 7 d [z0,z1,z2,z3,z4,z5,z6,z7,z8,z9,gB]=some [z0,z1,z2,z3,z4,z5,z6,some (.t d),z8,z9,gB]:=by
 simp[-gZ,fO,h7]
theorem QF {x y z:D}(h1:f5 [.t td,.t (.str "both"),.t a,.t b]=some (.t x,[])) (h2:f5 [.t td,.t (.str "both"),.t b,.t a]=some (.t x,[])) (h3:f5 [.t td,.t (.str "either"),.t a,.t b]=some (.t y,[])) (h4:f5 [.t td,.t (.str "either"),.t b,.t a]=some (.t y,[])) (h5:f5 [.t td,.t (.str "unlike"),.t a,.t b]=some (.t z,[])) (h6:f5 [.t td,.t (.str "unlike"),.t b,.t a]=some (.t z,[])) (dx:fX x<=40) (dy:fX y<=40) (dz:fX z<=40):
  QA f1 f2 f3 f4 f5 f6 f7 [z0,z1,some (.t td),z3,some (.t a),some (.t b),z6,none,z8,z9,gB]=some (.nx [z0,z1,some (.t td),z3,some (.t a),some (.t b),z6,some (.t (.str "unlike")),z8,z9,gB]):=by
 unfold QA
 have ei:cU (eF (eP iK (aa (eC (.str "both")) (aa (eC (.str "either")) (aa (eC (.str "unlike")) aC))))) [z0,z1,some (.t td),z3,some (.t a),some (.t b),z6,none,z8,z9,gB]=some ([.str "both",.str "either",.str "unlike"],[z0,z1,some (.t td),z3,some (.t a),some (.t b),z6,none,z8,z9,gB]):=rfl
 rw[uz,ei,Option.bind_some]
 show loop _ _ [.str "both",.str "either",.str "unlike"] _=_
 rw[g8,Mm rfl,Option.bind_some,QE h1 h2 dx,Option.bind_some]
 show loop _ _ [.str "either",.str "unlike"] _=_
 rw[g8,Mm rfl,Option.bind_some,QE h3 h4 dy,Option.bind_some]
 show loop _ _ [.str "unlike"] _=_
 rw[g8,Mm rfl,Option.bind_some,QE h5 h6 dz,Option.bind_some]
 rfl
theorem QG {e2 g2 p2:D}(h8:mC z8=false) (h7:mC z7=false) (h1:f5 [.t td,.t (.str "both"),.t a,.t b]=some (.t e,[])) (h2:f5 [.t td,.t (.str "both"),.t e,.t c]=some (.t p,[])) (h3:f5 [.t td,.t (.str "both"),.t b,.t c]=some (.t g,[])) (h4:f5 [.t td,.t (.str "both"),.t a,.t g]=some (.t p,[])) (h5:f5 [.t td,.t (.str "both"),.t a,.t a]=some (.t l,[])) (h6:f6 [.t td,.t a]=some (.t l,[])) (dp:fX p<=40) (dl:fX l<=40)
  (k1:f5 [.t td,.t (.str "either"),.t a,.t b]=some (.t e2,[])) (k2:f5 [.t td,.t (.str "either"),.t e2,.t c]=some (.t p2,[])) (k3:f5 [.t td,.t (.str "either"),.t b,.t c]=some (.t g2,[])) (k4:f5 [.t td,.t (.str "either"),.t a,.t g2]=some (.t p2,[])) (k5:f5 [.t td,.t (.str "either"),.t a,.t a]=some (.t l,[])) (Vy:fX p2<=40):
  QB f1 f2 f3 f4 f5 f6 f7 [z0,z1,some (.t td),z3,some (.t a),some (.t b),some (.t c),z7,z8,z9,gB]=some (.nx [z0,z1,some (.t td),z3,some (.t a),some (.t b),some (.t c),some (.t (.str "either")),some (.t p2),z9,gB]):=by
 unfold QB
 have ei:cU (eF (eP iK (aa (eC (.str "both")) (aa (eC (.str "either")) aC)))) [z0,z1,some (.t td),z3,some (.t a),some (.t b),some (.t c),z7,z8,z9,gB]=some ([.str "both",.str "either"],[z0,z1,some (.t td),z3,some (.t a),some (.t b),some (.t c),z7,z8,z9,gB]):=rfl
 rw[uz,ei,Option.bind_some]
 show loop _ _ [.str "both",.str "either"] _=_
 rw[g8,Mm h7,Option.bind_some,TH h8 h1 h2 h3 h4 h5 h6 dp dl,Option.bind_some]
 show loop _ _ [.str "either"] _=_
 rw[g8,Mm rfl,Option.bind_some,TH rfl k1 k2 k3 k4 k5 h6 Vy dl,Option.bind_some]
 rfl
theorem OW {x:D}{o0:MO}(h:f1 [.t x,.t (.int 0)]=some (.m o0,[])):Qu f1 f2 f3 f4 f5 f6 f7 [some (.t x),none,none,none,none,none,none,none,none,none,none]=some (.nx [some (.t x),some (.m o0),none,none,none,none,none,none,none,none,none]):=by
 simp[Qu,h]
theorem st1 {o0 o1:MO}(h:f2 [.b o0]=some (.t td,[o1])):Qv f1 f2 f3 f4 f5 f6 f7 [z0,some (.m o0),none,none,none,none,none,none,none,none,none]=some (.nx [z0,some (.m o1),some (.t td),none,none,none,none,none,none,none,none]):=by
 simp[Qv,h]
theorem QH {hs:List D}{W:Nat}(h:f3 [.t td]=some (.m (.lst hs),[])) (hw:hs.length=W):Qw f1 f2 f3 f4 f5 f6 f7 [z0,z1,some (.t td),none,none,none,none,none,none,none,none]=some (.nx [z0,z1,some (.t td),some (.t (.int W)),none,none,none,none,none,none,none]):=by
 subst hw
 simp[Qw,h]
theorem st3 {o1 o2:MO}{W:Int}(h:f4 [.b o1,.t (.int W),.t (.lst cW)]=some (.t a,[o2])):Qx f1 f2 f3 f4 f5 f6 f7 [z0,some (.m o1),some (.t td),some (.t (.int W)),none,none,none,none,none,none,none]=some (.nx [z0,some (.m o2),some (.t td),some (.t (.int W)),some (.t a),none,none,none,none,none,none]):=by
 unfold cW at h
 simp[Qx,h]
theorem Ho {o1 o2:MO}{W:Int}(h:f4 [.b o1,.t (.int W),.t (.lst cW)]=some (.t a,[o2])):Qy f1 f2 f3 f4 f5 f6 f7 [z0,some (.m o1),some (.t td),some (.t (.int W)),z4,none,none,none,none,none,none]=some (.nx [z0,some (.m o2),some (.t td),some (.t (.int W)),z4,some (.t a),none,none,none,none,none]):=by
 unfold cW at h
 simp[Qy,h]
theorem Kl {o1 o2:MO}{W:Int}(h:f4 [.b o1,.t (.int W),.t (.lst cW)]=some (.t a,[o2])):Qz f1 f2 f3 f4 f5 f6 f7 [z0,some (.m o1),some (.t td),some (.t (.int W)),z4,z5,none,none,none,none,none]=some (.nx [z0,some (.m o2),some (.t td),some (.t (.int W)),z4,z5,some (.t a),none,none,none,none]):=by
 unfold cW at h
 simp[Qz,h]
theorem QI {W:Int}{rr:List D}(h:sL [.tup [.int 0],.int W]=some (.t (.tup rr))):IZ f1 f2 f3 f4 f5 f6 f7 [z0,z1,some (.t td),some (.t (.int W)),z4,z5,z6,z7,z8,z9,none]=some (.nx [z0,z1,some (.t td),some (.t (.int W)),z4,z5,z6,z7,z8,z9,some (.t (.tup [.tup [.tup rr],.tup [.bl false]]))]):=by
 simp[IZ,h]
theorem D0 (h:f5 [.t td,.t (.str "but"),.t a,.t b]=some (.t u,[])):QC f1 f2 f3 f4 f5 f6 f7 [z0,z1,some (.t td),z3,some (.t a),some (.t b),z6,z7,z8,none,gB]=some (.nx [z0,z1,some (.t td),z3,some (.t a),some (.t b),z6,z7,z8,some (.t u),gB]):=by
 simp[QC,h]
theorem Vz (h:f7 [.t td,.t b]=some (.t e,[])) (h2:f5 [.t td,.t (.str "both"),.t a,.t e]=some (.t u,[])) (du:fX u<=40):QD f1 f2 f3 f4 f5 f6 f7 [z0,z1,some (.t td),z3,some (.t a),some (.t b),z6,z7,z8,some (.t u),gB]=some (.nx [z0,z1,some (.t td),z3,some (.t a),some (.t b),z6,z7,z8,some (.t u),gB]):=by
 have q:=gR u
 simp[QD,h,h2,du,q]
theorem QJ (h:f5 [.t td,.t (.str "unlike"),.t a,.t b]=some (.t d,[])) (h2:f5 [.t td,.t (.str "but"),.t b,.t a]=some (.t e,[])) (h3:f5 [.t td,.t (.str "either"),.t u,.t e]=some (.t d,[])) (dd:fX d<=40):IV f1 f2 f3 f4 f5 f6 f7 [z0,z1,some (.t td),z3,some (.t a),some (.t b),z6,z7,z8,some (.t u),gB]=some (.nx [z0,z1,some (.t td),z3,some (.t a),some (.t b),z6,z7,z8,some (.t u),gB]):=by
 have q:=gR d
 simp[IV,h,h2,h3,dd,q]
theorem QK (h:f7 [.t td,.t a]=some (.t d,[])) (h2:f7 [.t td,.t d]=some (.t l,[])) (h3:f6 [.t td,.t a]=some (.t l,[])) (dl:fX l<=40):IW f1 f2 f3 f4 f5 f6 f7 [z0,z1,some (.t td),z3,some (.t a),z5,z6,z7,z8,z9,gB]=some (.nx [z0,z1,some (.t td),z3,some (.t a),z5,z6,z7,z8,z9,gB]):=by
 have q:=gR l
 simp[IW,h,h2,h3,dl,q]
theorem QL (h8:mC z8=false) (h:f5 [.t td,.t (.str "both"),.t a,.t b]=some (.t e,[])) (h2:f7 [.t td,.t e]=some (.t p,[])):IX f1 f2 f3 f4 f5 f6 f7 [z0,z1,some (.t td),z3,some (.t a),some (.t b),z6,z7,z8,z9,gB]=some (.nx [z0,z1,some (.t td),z3,some (.t a),some (.t b),z6,z7,some (.t p),z9,gB]):=by
 simp[-gZ,fO,IX,h,h2,h8]
theorem QM (h:f7 [.t td,.t a]=some (.t d,[])) (h2:f7 [.t td,.t b]=some (.t e,[])) (h3:f5 [.t td,.t (.str "either"),.t d,.t e]=some (.t p,[])) (dp:fX p<=40):IY f1 f2 f3 f4 f5 f6 f7 [z0,z1,some (.t td),z3,some (.t a),some (.t b),z6,z7,some (.t p),z9,gB]=some (.nx [z0,z1,some (.t td),z3,some (.t a),some (.t b),z6,z7,some (.t p),z9,gB]):=by
 have q:=gR p
 simp[IY,h,h2,h3,dp,q]
theorem QN (h:f5 [.t td,.t (.str "unlike"),.t a,.t a]=some (.t d,[])) (h2:f5 [.t td,.t (.str "but"),.t a,.t a]=some (.t d,[])) (dd:fX d<=40):I0 f1 f2 f3 f4 f5 f6 f7 [z0,z1,some (.t td),z3,some (.t a),z5,z6,z7,z8,z9,some (.t d)]=some (.rt (.t (.bl true)) [z0,z1,some (.t td),z3,some (.t a),z5,z6,z7,z8,z9,some (.t d)]):=by
 have q:=gR d
 simp[I0,h,h2,dd,q]
end
noncomputable abbrev QO (g:FM->FM->FM->FM->FM->FM->FM->GS):GS:=g gH jX Sq.gj cV jW sS turnF
theorem AU : ∀ us r, AS 63 us = some r -> bM 11 (QO wH) us = some r := by
  intro us r hr
  unfold AS at hr
  split at hr
  . rename_i xs
    obtain⟨⟨_,hx⟩,rfl⟩:=dj hr
    have q0:∃o0,gH [.t (.lst xs),.t (.int 0)]=some (.m o0,[])/\Fq o0:=⟨Ma xs 0 0 0,rfl,xs,0,0,0,Ft hx,rfl⟩
    obtain⟨o0,e0,F0⟩:=q0
    obtain⟨T,o1,e1,F1,hT,hp⟩:=Me p6 F0
    have e1:jX [.b o0]=some (.t (oN T),[o1]):=e1
    have e2:=Sq.ED hT hp
    have hw:=qJ hp
    have wl:((ng T).map xZ).length=(ng T).length:=List.length_map _
    generalize (ng T).map xZ=hs at *
    have hW:(ng T).length < 900:=by omega
    generalize (ng T).length=W at *
    obtain⟨n1,x1,w1,o2,e3,F2,A1,m1⟩:=uN p6 F1 hW
    obtain⟨n2,x2,w2,o3,e4,F3,A2,m2⟩:=uN p6 F2 hW
    obtain⟨n3,x3,w3,o4,e5,F4,A3,m3⟩:=uN p6 F3 hW
    have e3:cV [.b o1,.t (.int W),.t (.lst cW)]=some (.t (mT n1 W x1 w1),[o2]):=e3
    have e4:cV [.b o2,.t (.int W),.t (.lst cW)]=some (.t (mT n2 W x2 w2),[o3]):=e4
    have e5:cV [.b o3,.t (.int W),.t (.lst cW)]=some (.t (mT n3 W x3 w3),[o4]):=e5
    obtain⟨k,hk,t1,t2,t3⟩:∃k:List Nat->Nat,(∀cs,Vd W cs->k cs < 216)/\mD W k x1/\mD W k x2/\mD W k x3:=by
      have r1:∀cs,Vd W cs->led x1 cs 0 < 6:=fun cs v=>Nat.lt_of_lt_of_le (fZ A1.lt cs 0 v A1.pos) m1
      have r2:∀cs,Vd W cs->led x2 cs 0 < 6:=fun cs v=>Nat.lt_of_lt_of_le (fZ A2.lt cs 0 v A2.pos) m2
      have r3:∀cs,Vd W cs->led x3 cs 0 < 6:=fun cs v=>Nat.lt_of_lt_of_le (fZ A3.lt cs 0 v A3.pos) m3
      refine⟨fun cs=>(led x1 cs 0 * 6+led x2 cs 0) * 6+led x3 cs 0,fun cs v=>?_,fun cs ds v v' e=>?_,fun cs ds v v' e=>?_,fun cs ds v v' e=>?_⟩
      . have:=r1 cs v;have:=r2 cs v;have:=r3 cs v
        show(led x1 cs 0 * 6+led x2 cs 0) * 6+led x3 cs 0 < 216
        omega
      all_goals
        have e:(led x1 cs 0 * 6+led x2 cs 0) * 6+led x3 cs 0=(led x1 ds 0 * 6+led x2 ds 0) * 6+led x3 ds 0:=e
        have:=r1 cs v;have:=r2 cs v;have:=r3 cs v
        have:=r1 ds v';have:=r2 ds v';have:=r3 ds v'
        omega
    have hb:∀{n:Nat}{x:Nat->Nat->Nat}{w:Nat->D},Mc W n x w->mD W k x->Jd W k (fun cs=>bo (w (led x cs 0))) (mT n W x w):=fun {n x w} A t=>⟨n,x,w,rfl,A,fun cs v=>A.bo (fZ A.lt cs 0 v A.pos),t⟩
    have J1:=hb A1 t1
    have J2:=hb A2 t2
    have J3:=hb A3 t3
    generalize (fun cs=>bo (w1 (led x1 cs 0)))=α at J1
    generalize (fun cs=>bo (w2 (led x2 cs 0)))=β at J2
    generalize (fun cs=>bo (w3 (led x3 cs 0)))=γ at J3
    generalize mT n1 W x1 w1=a at *
    generalize mT n2 W x2 w2=b at *
    generalize mT n3 W x3 w3=c at *
    generalize oN T=td at *
    have jn:∀(o:Op){β γ:List Nat->Bool}{d e:D},Jd W k β d->Jd W k γ e->∃d',jW [.t td,.t (.str o.s),.t d,.t e]=some (.t d',[])/\Cn W k (fun cs=>o.b (β cs) (γ cs)) d':=fun o {_ _ _ _} h h'=>Fe o hW hk (by decide) h h'
    have tn:∀{β:List Nat->Bool}{d:D},Jd W k β d->∃d',turnF [.t td,.t d]=some (.t d',[])/\Cn W k (fun cs=>!β cs) d':=fun {_ _} h=>Fc hW h
    obtain⟨l,el,Cl⟩:=L6 (td:=td) hW J1
    obtain⟨b1,QS,Nt⟩:=jn .both J1 J2
    obtain⟨b2,VA,VB⟩:=jn .both J2 J1
    obtain⟨i1,TJ,QT⟩:=jn .either J1 J2
    obtain⟨i2,VC,VE⟩:=jn .either J2 J1
    obtain⟨VF,TL,Nu⟩:=jn .unlike J1 J2
    obtain⟨TM,VG,VH⟩:=jn .unlike J2 J1
    have qb:b2=b1:=VB.one Nt fun cs _=>by show(β cs && α cs)=(α cs && β cs);exact Bool.and_comm _ _
    have qi:i2=i1:=VE.one QT fun cs _=>by show(β cs || α cs)=(α cs || β cs);exact Bool.or_comm _ _
    have qn:TM=VF:=VH.one Nu fun cs _=>by show(β cs != α cs)=(α cs != β cs);cases α cs <;> cases β cs <;> rfl
    subst qb qi qn
    obtain⟨p1,VI,TN⟩:=jn .both Nt.jd J3
    obtain⟨g1,VJ,VL⟩:=jn .both J2 J3
    obtain⟨p2,VM,VN⟩:=jn .both J1 VL.jd
    obtain⟨p3,VO,TQ⟩:=jn .either QT.jd J3
    obtain⟨g2,VP,VQ⟩:=jn .either J2 J3
    obtain⟨p4,VR,VS⟩:=jn .either J1 VQ.jd
    have qp:p2=p1:=VN.one TN fun cs _=>by show(α cs && (β cs && γ cs))=((α cs && β cs) && γ cs);exact(Bool.and_assoc _ _ _).symm
    have VT:p4=p3:=VS.one TQ fun cs _=>by show(α cs || (β cs || γ cs))=((α cs || β cs) || γ cs);exact(Bool.or_assoc _ _ _).symm
    subst qp VT
    obtain⟨l1,VU,VW⟩:=jn .both J1 J1
    obtain⟨l2,VX,VY⟩:=jn .either J1 J1
    have VZ:l1=l:=VW.one Cl fun cs _=>by show(α cs && α cs)=α cs;exact Bool.and_self _
    have V0:l2=l:=VY.one Cl fun cs _=>by show(α cs || α cs)=α cs;exact Bool.or_self _
    subst VZ V0
    obtain⟨u,eu,Cu⟩:=jn .but J1 J2
    obtain⟨tb,TR,TU⟩:=tn J2
    obtain⟨u2,V1,V2⟩:=jn .both J1 TU.jd
    have qu:u2=u:=V2.one Cu fun cs _=>rfl
    subst qu
    obtain⟨v,ev,Cv⟩:=jn .but J2 J1
    obtain⟨m,em,Cm⟩:=jn .either Cu.jd Cv.jd
    have qm:m=TM:=Cm.one Nu fun cs _=>by show((α cs && !β cs) || (β cs && !α cs))=(α cs != β cs);cases α cs <;> cases β cs <;> rfl
    subst qm
    obtain⟨ta,eta,TV⟩:=tn J1
    obtain⟨V3,QU,QV⟩:=tn TV.jd
    have qt:V3=l2:=QV.one Cl fun cs _=>by show(!!α cs)=α cs;exact Bool.not_not _
    subst qt
    obtain⟨h1,V4,TX⟩:=tn Nt.jd
    obtain⟨h2,V5,V6⟩:=jn .either TV.jd TU.jd
    have qh:h2=h1:=V6.one TX fun cs _=>by show(!α cs || !β cs)=!(α cs && β cs);exact(Bool.not_and _ _).symm
    subst qh
    obtain⟨y1,V7,V8⟩:=jn .unlike J1 J1
    obtain⟨y2,V9,Wa⟩:=jn .but J1 J1
    have nv:=Ml W k
    have Wb:y1=Mk W:=V8.one nv fun cs _=>by show(α cs != α cs)=false;cases α cs <;> rfl
    have Wc:y2=Mk W:=Wa.one nv fun cs _=>by show(α cs && !α cs)=false;cases α cs <;> rfl
    subst Wb Wc
    have dv:=nv.dep
    have s0:=OW (f1:=gH) (f2:=jX) (f3:=Sq.gj) (f4:=cV) (f5:=jW) (f6:=sS) (f7:=turnF) e0
    have s1:=st1 (f1:=gH) (f2:=jX) (f3:=Sq.gj) (f4:=cV) (f5:=jW) (f6:=sS) (f7:=turnF) (z0:=some (.t (.lst xs))) e1
    have s2:=QH (f1:=gH) (f2:=jX) (f3:=Sq.gj) (f4:=cV) (f5:=jW) (f6:=sS) (f7:=turnF) (z0:=some (.t (.lst xs))) (z1:=some (.m o1)) e2 wl
    have s3:=st3 (f1:=gH) (f2:=jX) (f3:=Sq.gj) (f4:=cV) (f5:=jW) (f6:=sS) (f7:=turnF) (z0:=some (.t (.lst xs))) (td:=td) e3
    have s4:=Ho (f1:=gH) (f2:=jX) (f3:=Sq.gj) (f4:=cV) (f5:=jW) (f6:=sS) (f7:=turnF) (z0:=some (.t (.lst xs))) (td:=td) (z4:=some (.t a)) e4
    have s5:=Kl (f1:=gH) (f2:=jX) (f3:=Sq.gj) (f4:=cV) (f5:=jW) (f6:=sS) (f7:=turnF) (z0:=some (.t (.lst xs))) (td:=td) (z4:=some (.t a)) (z5:=some (.t b)) e5
    have s6:=QF (f1:=gH) (f2:=jX) (f3:=Sq.gj) (f4:=cV) (f6:=sS) (f7:=turnF) (z0:=some (.t (.lst xs))) (z1:=some (.m o4)) (z3:=some (.t (.int W))) (z6:=some (.t c)) (z8:=none) (z9:=none) (gB:=none) QS VA TJ VC TL VG Nt.dep QT.dep Nu.dep
    have s7:=QG (f1:=gH) (f2:=jX) (f3:=Sq.gj) (f4:=cV) (f6:=sS) (f7:=turnF) (z0:=some (.t (.lst xs))) (z1:=some (.m o4)) (z3:=some (.t (.int W))) (z7:=some (.t (.str "unlike"))) (z8:=none) (z9:=none) (gB:=none) rfl rfl QS VI VJ VM VU el TN.dep Cl.dep TJ VO VP VR VX TQ.dep
    have s8:=D0 (f1:=gH) (f2:=jX) (f3:=Sq.gj) (f4:=cV) (f6:=sS) (f7:=turnF) (z0:=some (.t (.lst xs))) (z1:=some (.m o4)) (z3:=some (.t (.int W))) (z6:=some (.t c)) (z7:=some (.t (.str "either"))) (z8:=some (.t p4)) (gB:=none) eu
    have s9:=Vz (f1:=gH) (f2:=jX) (f3:=Sq.gj) (f4:=cV) (f6:=sS) (f7:=turnF) (z0:=some (.t (.lst xs))) (z1:=some (.m o4)) (z3:=some (.t (.int W))) (z6:=some (.t c)) (z7:=some (.t (.str "either"))) (z8:=some (.t p4)) (gB:=none) TR V1 Cu.dep
    have KU:=QJ (f1:=gH) (f2:=jX) (f3:=Sq.gj) (f4:=cV) (f6:=sS) (f7:=turnF) (z0:=some (.t (.lst xs))) (z1:=some (.m o4)) (z3:=some (.t (.int W))) (z6:=some (.t c)) (z7:=some (.t (.str "either"))) (z8:=some (.t p4)) (gB:=none) TL ev em Nu.dep
    have D4:=QK (f1:=gH) (f2:=jX) (f3:=Sq.gj) (f4:=cV) (f5:=jW) (f6:=sS) (f7:=turnF) (z0:=some (.t (.lst xs))) (z1:=some (.m o4)) (z3:=some (.t (.int W))) (z5:=some (.t b)) (z6:=some (.t c)) (z7:=some (.t (.str "either"))) (z8:=some (.t p4)) (z9:=some (.t u2)) (gB:=none) eta QU el Cl.dep
    have s12:=QL (f1:=gH) (f2:=jX) (f3:=Sq.gj) (f4:=cV) (f6:=sS) (f7:=turnF) (z0:=some (.t (.lst xs))) (z1:=some (.m o4)) (z3:=some (.t (.int W))) (z6:=some (.t c)) (z7:=some (.t (.str "either"))) (z8:=some (.t p4)) (z9:=some (.t u2)) (gB:=none) rfl QS V4
    have We:=QM (f1:=gH) (f2:=jX) (f3:=Sq.gj) (f4:=cV) (f6:=sS) (f7:=turnF) (z0:=some (.t (.lst xs))) (z1:=some (.m o4)) (z3:=some (.t (.int W))) (z6:=some (.t c)) (z7:=some (.t (.str "either"))) (z9:=some (.t u2)) (gB:=none) eta TR V5 TX.dep
    have rp:sL [.tup [.int 0],.int (W:Nat)]=some (.t (.tup (List.replicate W (.int 0)))):=by
      show(if _ then _ else _)=_
      rw[if_pos ⟨Int.natCast_nonneg W,by rw[Int.toNat_natCast];omega⟩,Int.toNat_natCast]
    have Wf:=QI (f1:=gH) (f2:=jX) (f3:=Sq.gj) (f4:=cV) (f5:=jW) (f6:=sS) (f7:=turnF) (td:=td) (z0:=some (.t (.lst xs))) (z1:=some (.m o4)) (z4:=some (.t a)) (z5:=some (.t b)) (z6:=some (.t c)) (z7:=some (.t (.str "either"))) (z8:=some (.t h2)) (z9:=some (.t u2)) rp
    have Wg:=QN (f1:=gH) (f2:=jX) (f3:=Sq.gj) (f4:=cV) (f6:=sS) (f7:=turnF) (z0:=some (.t (.lst xs))) (z1:=some (.m o4)) (z3:=some (.t (.int W))) (z5:=some (.t b)) (z6:=some (.t c)) (z7:=some (.t (.str "either"))) (z8:=some (.t h2)) (z9:=some (.t u2)) V7 V9 dv
    have all:QO wH [some (.t (.lst xs)),none,none,none,none,none,none,none,none,none,none]=some (.rt (.t (.bl true)) [some (.t (.lst xs)),some (.m o4),some (.t td),some (.t (.int W)),some (.t a),some (.t b),some (.t c),some (.t (.str "either")),some (.t h2),some (.t u2),some (.t (Mk W))]):=by
      unfold QO
      rw[lw_eq,Sq.bE s0,Sq.bE s1,Sq.bE s2,Sq.bE s3,Sq.bE s4,Sq.bE s5,Sq.bE s6,Sq.bE s7,Sq.bE s8,Sq.bE s9,Sq.bE KU,Sq.bE D4,Sq.bE s12,Sq.bE We,Sq.bE Wf]
      exact Wg
    exact qR all rfl
  . cases hr
end So
end
section
namespace K56
open PySem PySem.Spec PyProof.Rows L2
def top (i:Nat):Stmt:=PySem.Challenge.pw_surewatch_k56_whole_judges_put_together.main.body.getD i (.Pass ⟨0,0,0,0⟩)
open L2 Sw Sq Sl Sk So
noncomputable abbrev iS:Stmt:=top 4
theorem gC:cA ["nexts","begin","found","seen","at","leads","later"] ["nexts","begin"] (aT iS):=⟨rfl,rfl,rfl,by decide +kernel,rfl,by decide +kernel,by decide +kernel⟩
theorem yp {P:Program}{w:World}{K:PySem.W.Frag}{mg:Str->Option Value}{base:Heap}{f:Addr}{fd:FuncData}{n:Nat}{fm:FM}(F:rE K "reached" "reached" iS f fd) (Dl:mg "list" =none) (Dm:mg "dict" =none) (i9:mg "len" =none)
  (hf:∀us r,fm us=some r->bM 7 (ia) us=some r):cJ P w K mg base jz (n+1) f fd ["nexts","begin"] (spT K 2 fm):=
 wZ (g:=ia) F gC (fun cdv A outer s H E hr=>(aG (bC (i:=2) gC.nd rfl (by first | exact Or.inl rfl | exact Or.inr rfl) (eO xJ rfl Dl PyProof.Rows.Boot.list (aq (JE.d (ah 1)) aL)))
  (aG (bC (i:=3) gC.nd rfl (by first | exact Or.inl rfl | exact Or.inr rfl) (Az rfl rfl Dm (JE.d (fM (mV (by decide) (by decide) rfl (by decide) rfl) rfl (d8 (JE.d (ah 1))) (fun _ _ _ _=>cQ) (fun _ _ _ _=>(JE.d (bW (aq (JE.d (ah 0)) (aq mH aL)))))))))
  (aG (bC (i:=4) gC.nd rfl (by first | exact Or.inl rfl | exact Or.inr rfl) (JD.e aB))
  (aG (qz PassesOwn.never (dP BX (JE.d (ah 4)) (kZ (i:=2) rfl i9)) (aG (bC (i:=5) gC.nd rfl (by first | exact Or.inl rfl | exact Or.inr rfl) (JD.e (aW (i:=0) (bq hr) (aW (i:=2) (bq hr) (JE.d (ah 4)) (fun _ _=>rfl)) (fun _ _=>rfl))))
  (aG (mX PassesOwn.never rfl (d8 (JE.d (ah 5))) (fL (i:=6) gC.nd rfl (by first | exact Or.inl rfl | exact Or.inr rfl)) (bx (gG (lQ (i:=3) (bq hr) (JE.d (ah 6))) (aG (kh (i:=3) (bq hr) (JE.d (ah 6)) mH)
  (bx (lK (JD.e (lM (i:=2) PySem.F.slot_list_append PySem.F.type_list_append iR jL jP (aq (JE.d (ah 6)) aL)))))) dQ)))
  (bx (HD (i:=4) GW gC.nd rfl (by first | exact Or.inl rfl | exact Or.inr rfl) aB)))))
  (bx (bO (ah 2)))))))) hf
noncomputable abbrev jY:Stmt:=top 5
theorem ir:cA ["one","other","pairs","numbers","nexts","pair","leads","later"] ["one","other"] (aT jY):=⟨rfl,rfl,rfl,by decide +kernel,rfl,by decide +kernel,by decide +kernel⟩
theorem AV {P:Program}{w:World}{K:PySem.W.Frag}{mg:Str->Option Value}{base:Heap}{f:Addr}{fd:FuncData}{n:Nat}{fm:FM}(F:rE K "paired" "paired" jY f fd) (i9:mg "len" =none) (Ja:mg "zip" =none) (fE:mg "tuple" =none)
  (hf:∀us r,fm us=some r->bM 8 (jT) us=some r):cJ P w K mg base jz (n+1) f fd ["one","other"] (spT K 2 fm):=
 wZ (g:=jT) F ir (fun cdv A outer s H E hr=>(aG (bC (i:=2) ir.nd rfl (by first | exact Or.inl rfl | exact Or.inr rfl) (gW (aq (JE.d (bW (aq aB (aq aB aL)))) aL)))
  (aG (bC (i:=3) ir.nd rfl (by first | exact Or.inl rfl | exact Or.inr rfl) (Co (bq hr) (JE.d (bW (aq aB (aq aB aL)))) aB))
  (aG (bC (i:=4) ir.nd rfl (by first | exact Or.inl rfl | exact Or.inr rfl) (gW aL))
  (aG (qz PassesOwn.never (dP BX (kZ (i:=4) rfl i9) (kZ (i:=2) rfl i9)) (aG (bC (i:=5) ir.nd rfl (by first | exact Or.inl rfl | exact Or.inr rfl) (JD.e (aW (i:=2) (bq hr) (kZ (i:=4) rfl i9) (fun _ _=>rfl))))
  (aG (bC (i:=6) ir.nd rfl (by first | exact Or.inl rfl | exact Or.inr rfl) (gW aL))
  (aG (zh PassesOwn.never rfl (CD rfl Ja (aq (aW (i:=0) (bq hr) (aW (i:=5) (bq hr) aB (fun _ _=>rfl)) (fun _ _=>rfl)) (aq (aW (i:=1) (bq hr) (aW (i:=5) (bq hr) aB (fun _ _=>rfl)) (fun _ _=>rfl)) aL))) (fL (i:=7) ir.nd rfl (by first | exact Or.inl rfl | exact Or.inr rfl)) (aG (gG (lQ (i:=3) (bq hr) (JE.d (ah 7))) (aG (kh (i:=3) (bq hr) (JE.d (ah 7)) (kZ (i:=2) rfl i9))
  (bx (lK (JD.e (lM (i:=2) PySem.F.slot_list_append PySem.F.type_list_append iR jL jP (aq (JE.d (ah 7)) aL)))))) dQ)
  (bx (lK (JD.e (lM (i:=6) PySem.F.slot_list_append PySem.F.type_list_append iR jL jP (aq (aW (i:=3) (bq hr) (JE.d (ah 7)) (fun _ _=>rfl)) aL)))))))
  (bx (lK (JD.e (lM (i:=4) PySem.F.slot_list_append PySem.F.type_list_append iR jL jP (aq (JE.d (eO dm rfl fE PyProof.Rows.Boot.tuple (aq (JE.d (ah 6)) aL))) aL)))))))))
  (bx (bO (bW (aq (JE.d (ah 2)) (aq (JE.d (ah 4)) aL)))))))))) hf
noncomputable abbrev iu:Stmt:=top 6
theorem iG:cA ["signs","numbers","sign"] ["signs"] (aT iu):=⟨rfl,rfl,rfl,by decide +kernel,rfl,by decide +kernel,by decide +kernel⟩
theorem wI {P:Program}{w:World}{K:PySem.W.Frag}{mg:Str->Option Value}{base:Heap}{f:Addr}{fd:FuncData}{n:Nat}{fm:FM}(F:rE K "numbered" "numbered" iu f fd) (i9:mg "len" =none)
  (hf:∀us r,fm us=some r->bM 3 (dH) us=some r):cJ P w K mg base jz (n+1) f fd ["signs"] (spT K 1 fm):=
 wZ (g:=dH) F iG (fun cdv A outer s H E hr=>(Lo (aG (bC (i:=1) iG.nd rfl (by first | exact Or.inl rfl | exact Or.inr rfl) zj)
  (aG (mX PassesOwn.never rfl (d8 (JE.d (ah 0))) (fL (i:=2) iG.nd rfl (by first | exact Or.inl rfl | exact Or.inr rfl)) (bx (gG (lQ (i:=1) (bq hr) (JE.d (ah 2))) (bx (kh (i:=1) (bq hr) (JE.d (ah 2)) (kZ (i:=1) rfl i9))) dQ)))
  (bx (bO (fM (fq (i:=1) rfl (by decide) rfl (by decide) rfl rfl (by decide) (by decide) rfl rfl rfl) rfl (d8 (JE.d (ah 0))) (fun _ _ _ _=>cQ) (fun _ _ _ _=>(aW (i:=1) (bq hr) (JE.d (ah 0)) (fun _ _=>rfl))))))))
  (aG (bC (i:=1) iG.nd rfl (by first | exact Or.inl rfl | exact Or.inr rfl) El)
  (aG (mX PassesOwn.never rfl (d8 (JE.d (ah 0))) (fL (i:=2) iG.nd rfl (by first | exact Or.inl rfl | exact Or.inr rfl)) (bx (gG (lQ (i:=1) (bq hr) (JE.d (ah 2))) (bx (kh (i:=1) (bq hr) (JE.d (ah 2)) (kZ (i:=1) rfl i9))) dQ)))
  (bx (bO (fM (fq (i:=1) rfl (by decide) rfl (by decide) rfl rfl (by decide) (by decide) rfl rfl rfl) rfl (d8 (JE.d (ah 0))) (fun _ _ _ _=>cQ) (fun _ _ _ _=>(aW (i:=1) (bq hr) (JE.d (ah 0)) (fun _ _=>rfl)))))))))) hf
noncomputable abbrev fQ:Stmt:=top 7
theorem gq:cA ["nexts","words","most","numbers","count"] ["nexts","words","most"] (aT fQ):=⟨rfl,rfl,rfl,by decide +kernel,rfl,by decide +kernel,by decide +kernel⟩
theorem rQ {P:Program}{w:World}{K:PySem.W.Frag}{mg:Str->Option Value}{base:Heap}{f:Addr}{fd:FuncData}{n:Nat}{fm:FM}(F:rE K "told_apart" "told_apart" fQ f fd) (yq:mg "max" =none) (gD:mg "enumerate" =none) (fE:mg "tuple" =none)
  {oV:Addr}{sV:FuncData}{bR:FM}(sW:cJ P w K mg base jz n oV sV ["signs"] (spT K 1 bR)) (sX:Binds K sV ["signs"] []) (sY:PySem.W.keepIn K (.ref oV)=true) (sZ:mg "numbered" =some (.ref oV))
  (hf:∀us r,fm us=some r->bM 5 (fP bR) us=some r):cJ P w K mg base jz (n+1) f fd ["nexts","words","most"] (spT K 3 fm):=
 wZ (g:=fP bR) F gq (fun cdv A outer s H E hr=>(aG (bC (i:=3) gq.nd rfl (by first | exact Or.inl rfl | exact Or.inr rfl) (aX sW hr rfl sZ sY sX (au (JE.d (ah 1)) bw)))
  (aG (bC (i:=4) gq.nd rfl (by first | exact Or.inl rfl | exact Or.inr rfl) (JD.e aB))
  (aG (qz PassesOwn.never (dP xD (JE.d (jH (m8 rfl) rfl yq PyProof.Rows.Boot.max (aq (JE.d (ah 3)) aL))) (JE.d (ah 4))) (aG (bC (i:=4) gq.nd rfl (by first | exact Or.inl rfl | exact Or.inr rfl) (dh gP (JE.d (jH (m8 rfl) rfl yq PyProof.Rows.Boot.max (aq (JE.d (ah 3)) aL))) aB))
  (aG (gG (JW.t (Hz (dP xS (JE.d (ah 2)) BU) (xB (dP BY (JE.d (ah 4)) (JE.d (ah 2)))))) (bx Lm) dQ)
  (bx (bC (i:=3) gq.nd rfl (by first | exact Or.inl rfl | exact Or.inr rfl) (aX sW hr rfl sZ sY sX (au (JE.d (Ay ⟨(fq (i:=3) rfl (by decide) rfl (by decide) rfl rfl (by decide) (by decide) rfl rfl rfl),rfl,by decide⟩ rfl (uw rfl gD (aq (JE.d (ah 0)) aL)) (fun _ _ _ _=>cQ) (fun _ _ _ _=>(JE.d (dh gP (JE.d (bW (aq (aW (i:=2) (bq hr) (JE.d (ah 0)) (fun _ _=>rfl)) aL))) (JE.d (eO dm rfl fE PyProof.Rows.Boot.tuple (aq (JE.d (fM (fq (i:=2) rfl (by decide) rfl (by decide) rfl rfl (by decide) (by decide) rfl rfl rfl) rfl (d8 (JE.d (ah 1))) (fun _ _ _ _=>cQ) (fun _ _ _ _=>(aW (i:=1) (bq hr) (JE.d (ah 0)) (fun _ _=>rfl))))) aL)))))))) bw)))))))
  (bx (bO (ah 3))))))) hf
noncomputable abbrev cZ:Stmt:=top 8
theorem bF:cA ["nexts","words","most","spots","places","place","spot","inner","numbers","groups","number","least"] ["nexts","words","most"] (aT cZ):=⟨rfl,rfl,rfl,by decide +kernel,rfl,by decide +kernel,by decide +kernel⟩
theorem oW {P:Program}{w:World}{K:PySem.W.Frag}{mg:Str->Option Value}{base:Heap}{f:Addr}{fd:FuncData}{n:Nat}{fm:FM}(F:rE K "least_machine" "least_machine" cZ f fd) (gD:mg "enumerate" =none) (yq:mg "max" =none) (je:mg "range" =none) (fE:mg "tuple" =none)
  {q9:Addr}{wJ:FuncData}{cy:FM}(Dn:cJ P w K mg base jz n q9 wJ ["nexts","begin"] (spT K 2 cy)) (Dp:Binds K wJ ["nexts","begin"] []) (Dq:PySem.W.keepIn K (.ref q9)=true) (Dr:mg "reached" =some (.ref q9))
  {lu:Addr}{pH:FuncData}{bG:FM}(wK:cJ P w K mg base jz n lu pH ["nexts","words","most"] (spT K 3 bG)) (wL:Binds K pH ["nexts","words","most"] []) (wM:PySem.W.keepIn K (.ref lu)=true) (wN:mg "told_apart" =some (.ref lu))
  (hf:∀us r,fm us=some r->bM 12 (cY cy bG) us=some r):cJ P w K mg base jz (n+1) f fd ["nexts","words","most"] (spT K 3 fm):=
 wZ (g:=cY cy bG) F bF (fun cdv A outer s H E hr=>(aG (bC (i:=3) bF.nd rfl (by first | exact Or.inl rfl | exact Or.inr rfl) (aX Dn hr rfl Dr Dq Dp (au (JE.d (ah 0)) (au (JE.d (gW (aq aB aL))) bw))))
  (aG (bC (i:=4) bF.nd rfl (by first | exact Or.inl rfl | exact Or.inr rfl) zj)
  (aG (zh PassesOwn.never rfl (uw rfl gD (aq (JE.d (ah 3)) aL)) (xG rfl (jJ (fL (i:=5) bF.nd rfl (by first | exact Or.inl rfl | exact Or.inr rfl)) (jJ (fL (i:=6) bF.nd rfl (by first | exact Or.inl rfl | exact Or.inr rfl)) ug))) (bx (kh (i:=4) (bq hr) (JE.d (ah 6)) (JE.d (ah 5)))))
  (aG (nG (i:=7) bF.nd rfl (by first | exact Or.inl rfl | exact Or.inr rfl) (iZ (bH:=["nexts","places"]) (cap:=[0,4]) rfl (by decide) rfl (by decide) rfl rfl (by decide) (by first | exact Or.inl rfl | exact Or.inr rfl) (by decide) rfl rfl rfl) rfl (d8 (JE.d (ah 3))) (fun _ _ _ _=>cQ) (fun _ _ _ _=>(JE.d (eO dm rfl fE PyProof.Rows.Boot.tuple (aq (JE.d (fM (fq (i:=2) rfl (by decide) rfl (by decide) rfl rfl (by decide) (by decide) rfl rfl rfl) rfl (d8 (aW (i:=1) (bq hr) (JE.d (ah 0)) (fun _ _=>rfl))) (fun _ _ _ _=>cQ) (fun _ _ _ _=>(aW (i:=1) (bq hr) (JE.d (ah 0)) (fun _ _=>rfl))))) aL)))))
  (aG (bC (i:=8) bF.nd rfl (by first | exact Or.inl rfl | exact Or.inr rfl) (aX wK hr rfl wN wM wL (au (JE.d (ah 7)) (au (JE.d (fM (fq (i:=1) rfl (by decide) rfl (by decide) rfl rfl (by decide) (by decide) rfl rfl rfl) rfl (d8 (JE.d (ah 3))) (fun _ _ _ _=>cQ) (fun _ _ _ _=>(aW (i:=1) (bq hr) (JE.d (ah 0)) (fun _ _=>rfl))))) (au (JE.d (ah 2)) bw)))))
  (Eu (i:=9) bF.nd rfl (by first | exact Or.inl rfl | exact Or.inr rfl) (mV (by decide) (by decide) rfl (by decide) rfl) rfl (jK rfl je (aq (JE.d (dh gP (JE.d (jH (m8 rfl) rfl yq PyProof.Rows.Boot.max (aq (JE.d (ah 8)) aL))) aB)) aL)) (HQ PassesOwn.never rfl (uw rfl gD (aq (JE.d (ah 8)) aL)) (xG rfl (jJ (fL (i:=5) bF.nd rfl (by first | exact Or.inl rfl | exact Or.inr rfl)) (jJ (fL (i:=10) bF.nd rfl (by first | exact Or.inl rfl | exact Or.inr rfl)) ug))) (HP (i:=9) (JE.d (ah 10)) (aW (i:=3) (bq hr) (JE.d (ah 5)) (fun _ _=>rfl)) (by intro _ _;rfl))) (aG (nG (i:=11) bF.nd rfl (by first | exact Or.inl rfl | exact Or.inr rfl) (iZ (bH:=["nexts","numbers","places"]) (cap:=[0,8,4]) rfl (by decide) rfl (by decide) rfl rfl (by decide) (by first | exact Or.inl rfl | exact Or.inr rfl) (by decide) rfl rfl rfl) rfl (d8 (JE.d (ah 9))) (fun _ _ _ _=>cQ) (fun _ _ _ _=>(JE.d (eO dm rfl fE PyProof.Rows.Boot.tuple (aq (JE.d (fM (iZ (bH:=["numbers","places"]) (cap:=[2,3]) rfl (by decide) rfl (by decide) rfl rfl (by decide) (by first | exact Or.inl rfl | exact Or.inr rfl) (by decide) rfl rfl rfl) rfl (d8 (aW (i:=1) (bq hr) (aW (i:=0) (bq hr) aB (fun _ _=>rfl)) (fun _ _=>rfl))) (fun _ _ _ _=>cQ) (fun _ _ _ _=>(aW (i:=1) (bq hr) (aW (i:=2) (bq hr) (JE.d (ah 0)) (fun _ _=>rfl)) (fun _ _=>rfl))))) aL)))))
  (bx (bO (bW (aq (JE.d (eO dm rfl fE PyProof.Rows.Boot.tuple (aq (JE.d (ah 11)) aL))) (aq (JE.d (eO dm rfl fE PyProof.Rows.Boot.tuple (aq (JE.d (fM (fq (i:=1) rfl (by decide) rfl (by decide) rfl rfl (by decide) (by decide) rfl rfl rfl) rfl (d8 (JE.d (ah 9))) (fun _ _ _ _=>cQ) (fun _ _ _ _=>(aW (i:=1) (bq hr) (aW (i:=0) (bq hr) aB (fun _ _=>rfl)) (fun _ _=>rfl))))) aL))) (aq (JE.d (ah 9)) aL)))))))))))))) hf
noncomputable abbrev eY:Stmt:=top 10
theorem lA:cA ["table","judge","least"] ["table","judge"] (aT eY):=⟨rfl,rfl,rfl,by decide +kernel,rfl,by decide +kernel,by decide +kernel⟩
theorem rA {P:Program}{w:World}{K:PySem.W.Frag}{mg:Str->Option Value}{base:Heap}{f:Addr}{fd:FuncData}{n:Nat}{fm:FM}(F:rE K "least_judge" "least_judge" eY f fd)
  {bK:Addr}{cz:FuncData}{aI:FM}(fG:cJ P w K mg base jz n bK cz ["nexts","words","most"] (spT K 3 aI)) (fH:Binds K cz ["nexts","words","most"] []) (fJ:PySem.W.keepIn K (.ref bK)=true) (fK:mg "least_machine" =some (.ref bK))
  (hf:∀us r,fm us=some r->bM 3 (So.eU aI) us=some r):cJ P w K mg base jz (n+1) f fd ["table","judge"] (spT K 2 fm):=
 wZ (g:=So.eU aI) F lA (fun cdv A outer s H E hr=>(aG (bC (i:=2) lA.nd rfl (by first | exact Or.inl rfl | exact Or.inr rfl) (aX fG hr rfl fK fJ fH (au (aW (i:=1) (bq hr) aB (fun _ _=>rfl)) (au (aW (i:=1) (bq hr) aB (fun _ _=>rfl)) (au BU bw)))))
  (bx (bO (bW (aq (aW (i:=2) (bq hr) aB (fun _ _=>rfl)) (aq (aW (i:=2) (bq hr) aB (fun _ _=>rfl)) aL))))))) hf
noncomputable abbrev lX:Stmt:=top 12
theorem Ds:cA ["op","one","other"] ["op","one","other"] (aT lX):=⟨rfl,rfl,rfl,by decide +kernel,rfl,by decide +kernel,by decide +kernel⟩
theorem Dt {P:Program}{w:World}{K:PySem.W.Frag}{mg:Str->Option Value}{base:Heap}{f:Addr}{fd:FuncData}{n:Nat}{fm:FM}(F:rE K "by_op" "by_op" lX f fd)
  (hf:∀us r,fm us=some r->bM 3 (p5) us=some r):cJ P w K mg base jz (n+1) f fd ["op","one","other"] (spT K 3 fm):=
 wZ (g:=p5) F Ds (fun cdv A outer s H E hr=>(aG (gG (dP (kW hr.units) (JE.d (ah 0)) bV) (bx (bO (JD.e (xC (JE.d (ah 1)) (uf (JE.d (ah 2))))))) dQ)
  (aG (gG (dP (kW hr.units) (JE.d (ah 0)) bV) (bx (bO (JD.e (K0 (JE.d (ah 1)) (uf (JE.d (ah 2))))))) dQ)
  (aG (gG (dP (kW hr.units) (JE.d (ah 0)) bV) (bx (bO (JD.e (xC (JE.d (ah 1)) (uf (BV (JE.d (ah 2)))))))) dQ)
  (bx (bO (uc (kX hr.units) (JE.d (ah 1)) (JE.d (ah 2))))))))) hf
noncomputable abbrev dU:Stmt:=top 15
theorem eB:cA ["op","one","other","found","truths","least","groups"] ["op","one","other"] (aT dU):=⟨rfl,rfl,rfl,by decide +kernel,rfl,by decide +kernel,by decide +kernel⟩
theorem pP {P:Program}{w:World}{K:PySem.W.Frag}{mg:Str->Option Value}{base:Heap}{f:Addr}{fd:FuncData}{n:Nat}{fm:FM}(F:rE K "least_joined" "least_joined" dU f fd){iH:Tok}(gI:mg "MOST_SPOTS" =some (.int 300 iH))
  {uQ:Addr}{zR:FuncData}{cR:FM}(Fv:cJ P w K mg base jz n uQ zR ["one","other"] (spT K 2 cR)) (Fw:Binds K zR ["one","other"] []) (Fx:PySem.W.keepIn K (.ref uQ)=true) (Fy:mg "paired" =some (.ref uQ))
  {yr:Addr}{Du:FuncData}{ff:FM}(Jb:cJ P w K mg base jz n yr Du ["op","one","other"] (spT K 3 ff)) (Jc:Binds K Du ["op","one","other"] []) (Je:PySem.W.keepIn K (.ref yr)=true) (Jf:mg "by_op" =some (.ref yr))
  {bK:Addr}{cz:FuncData}{aI:FM}(fG:cJ P w K mg base jz n bK cz ["nexts","words","most"] (spT K 3 aI)) (fH:Binds K cz ["nexts","words","most"] []) (fJ:PySem.W.keepIn K (.ref bK)=true) (fK:mg "least_machine" =some (.ref bK))
  (hf:∀us r,fm us=some r->bM 7 (cL cR ff aI) us=some r):cJ P w K mg base jz (n+1) f fd ["op","one","other"] (spT K 3 fm):=
 wZ (g:=cL cR ff aI) F eB (fun cdv A outer s H E hr=>(aG (bC (i:=3) eB.nd rfl (by first | exact Or.inl rfl | exact Or.inr rfl) (aX Fv hr rfl Fy Fx Fw (au (aW (i:=1) (bq hr) aB (fun _ _=>rfl)) (au (aW (i:=2) (bq hr) aB (fun _ _=>rfl)) bw))))
  (aG (nG (i:=4) eB.nd rfl (by first | exact Or.inl rfl | exact Or.inr rfl) (iZ (bH:=["one","op","other"]) (cap:=[1,0,2]) rfl (by decide) rfl (by decide) rfl rfl (by decide) (by first | exact Or.inl rfl | exact Or.inr rfl) (by decide) rfl rfl rfl) rfl (d8 (aW (i:=3) (bq hr) aB (fun _ _=>rfl))) (fun _ _ _ _=>cQ) (fun _ _ _ _=>(JE.d (aX Jb hr rfl Jf Je Jc (au (JE.d (ah 2)) (au (JE.d (vH B0 (aW (i:=1) (bq hr) aB (fun _ _=>rfl)) (aW (i:=0) (bq hr) aB (fun _ _=>rfl)) (fun _ _=>rfl))) (au (JE.d (vH B0 (aW (i:=3) (bq hr) aB (fun _ _=>rfl)) (aW (i:=0) (bq hr) aB (fun _ _=>rfl)) (fun _ _=>rfl))) bw)))))))
  (aG (bC (i:=5) eB.nd rfl (by first | exact Or.inl rfl | exact Or.inr rfl) (aX fG hr rfl fK fJ fH (au (aW (i:=3) (bq hr) aB (fun _ _=>rfl)) (au (JE.d (ah 4)) (au (zc rfl gI) bw)))))
  (aG (nG (i:=6) eB.nd rfl (by first | exact Or.inl rfl | exact Or.inr rfl) (fq (i:=3) rfl (by decide) rfl (by decide) rfl rfl (by decide) (by decide) rfl rfl rfl) rfl (d8 (aW (i:=5) (bq hr) aB (fun _ _=>rfl))) (fun _ _ _ _=>cQ) (fun _ _ _ _=>(JE.d (fM (fq (i:=1) rfl (by decide) rfl (by decide) rfl rfl (by decide) (by decide) rfl rfl rfl) rfl (d8 (JE.d (ah 0))) (fun _ _ _ _=>cQ) (fun _ _ _ _=>(JE.d (vH B0 (aW (i:=1) (bq hr) aB (fun _ _=>rfl)) (JE.d (ah 0)) (fun _ _=>rfl))))))))
  (bx (bO (bW (aq (aW (i:=5) (bq hr) aB (fun _ _=>rfl)) (aq (aW (i:=5) (bq hr) aB (fun _ _=>rfl)) (aq (JE.d (ah 6)) aL))))))))))) hf
noncomputable abbrev jZ:Stmt:=top 16
theorem tu:cA ["table","op","one","other","least"] ["table","op","one","other"] (aT jZ):=⟨rfl,rfl,rfl,by decide +kernel,rfl,by decide +kernel,by decide +kernel⟩
theorem AW {P:Program}{w:World}{K:PySem.W.Frag}{mg:Str->Option Value}{base:Heap}{f:Addr}{fd:FuncData}{n:Nat}{fm:FM}(F:rE K "joined" "joined" jZ f fd)
  {jC:Addr}{mL:FuncData}{gn:FM}(rR:cJ P w K mg base jz n jC mL ["op","one","other"] (spT K 3 gn)) (rS:Binds K mL ["op","one","other"] []) (rT:PySem.W.keepIn K (.ref jC)=true) (rU:mg "least_joined" =some (.ref jC))
  (hf:∀us r,fm us=some r->bM 5 (jV gn) us=some r):cJ P w K mg base jz (n+1) f fd ["table","op","one","other"] (spT K 4 fm):=
 wZ (g:=jV gn) F tu (fun cdv A outer s H E hr=>(aG (bC (i:=4) tu.nd rfl (by first | exact Or.inl rfl | exact Or.inr rfl) (aX rR hr rfl rU rT rS (au (JE.d (ah 1)) (au (JE.d (ah 2)) (au (JE.d (ah 3)) bw)))))
  (bx (bO (bW (aq (aW (i:=4) (bq hr) aB (fun _ _=>rfl)) (aq (aW (i:=4) (bq hr) aB (fun _ _=>rfl)) aL))))))) hf
noncomputable abbrev j3:Stmt:=top 17
theorem tw:cA ["table","judge","least"] ["table","judge"] (aT j3):=⟨rfl,rfl,rfl,by decide +kernel,rfl,by decide +kernel,by decide +kernel⟩
theorem AX {P:Program}{w:World}{K:PySem.W.Frag}{mg:Str->Option Value}{base:Heap}{f:Addr}{fd:FuncData}{n:Nat}{fm:FM}(F:rE K "turned" "turned" j3 f fd){iH:Tok}(gI:mg "MOST_SPOTS" =some (.int 300 iH))
  {bK:Addr}{cz:FuncData}{aI:FM}(fG:cJ P w K mg base jz n bK cz ["nexts","words","most"] (spT K 3 aI)) (fH:Binds K cz ["nexts","words","most"] []) (fJ:PySem.W.keepIn K (.ref bK)=true) (fK:mg "least_machine" =some (.ref bK))
  (hf:∀us r,fm us=some r->bM 3 (jU aI) us=some r):cJ P w K mg base jz (n+1) f fd ["table","judge"] (spT K 2 fm):=
 wZ (g:=jU aI) F tw (fun cdv A outer s H E hr=>(aG (bC (i:=2) tw.nd rfl (by first | exact Or.inl rfl | exact Or.inr rfl) (aX fG hr rfl fK fJ fH (au (aW (i:=1) (bq hr) aB (fun _ _=>rfl)) (au (JE.d (fM (mV (by decide) (by decide) rfl (by decide) rfl) rfl (d8 (aW (i:=1) (bq hr) aB (fun _ _=>rfl))) (fun _ _ _ _=>cQ) (fun _ _ _ _=>(BV (JE.d (ah 0)))))) (au (zc rfl gI) bw)))))
  (bx (bO (bW (aq (aW (i:=2) (bq hr) aB (fun _ _=>rfl)) (aq (aW (i:=2) (bq hr) aB (fun _ _=>rfl)) aL))))))) hf
noncomputable abbrev gJ:Stmt:=top 19
theorem uR:cA ["_law_script","_law_at"] ["_law_script","_law_at"] (aT gJ):=⟨rfl,rfl,rfl,by decide +kernel,rfl,by decide +kernel,by decide +kernel⟩
theorem uS {P:Program}{w:World}{K:PySem.W.Frag}{mg:Str->Option Value}{base:Heap}{f:Addr}{fd:FuncData}{n:Nat}{fm:FM}(F:rE K "_law_feed" "_law_feed" gJ f fd)
  (hf:∀us r,fm us=some r->bM 2 (So.jw) us=some r):cJ P w K mg base jz (n+1) f fd ["_law_script","_law_at"] (spT K 2 fm):=
 wZ (g:=So.jw) F uR (fun cdv A outer s H E hr=>(bx (bO (gW (aq (JE.d (ah 0)) (aq (JE.d (ah 1)) (aq aB (aq aB aL)))))))) hf
noncomputable abbrev gK:Stmt:=top 20
theorem fR:cA ["_law_feed_here","_law_many","_law_found","_law_cell","_law_mixed"] ["_law_feed_here","_law_many"] (aT gK):=⟨rfl,rfl,rfl,by decide +kernel,rfl,by decide +kernel,by decide +kernel⟩
theorem uT {P:Program}{w:World}{K:PySem.W.Frag}{mg:Str->Option Value}{base:Heap}{f:Addr}{fd:FuncData}{n:Nat}{fm:FM}(F:rE K "_law_take" "_law_take" gK f fd) (i9:mg "len" =none)
  (hf:∀us r,fm us=some r->bM 5 (So.d7) us=some r):cJ P w K mg base jz (n+1) f fd ["_law_feed_here","_law_many"] (spT K 2 fm):=
 wZ (g:=So.d7) F fR (fun cdv A outer s H E hr=>(aG (kh (i:=0) (bq hr) aB (JE.d (dh gP (aW (i:=0) (bq hr) aB (fun _ _=>rfl)) aB)))
  (aG (gG (dP xD (aW (i:=0) (bq hr) aB (fun _ _=>rfl)) (JE.d (ah 1))) (aG (bC (i:=2) fR.nd rfl (by first | exact Or.inl rfl | exact Or.inr rfl) (dh j8 (aW (i:=0) (bq hr) aB (fun _ _=>rfl)) (JE.d (ah 1))))
  (aG (kh (i:=0) (bq hr) aB (JE.d (dh pU (aW (i:=0) (bq hr) aB (fun _ _=>rfl)) (JE.d (ah 1)))))
  (bx (bO (ah 2))))) dQ)
  (aG (bC (i:=3) fR.nd rfl (by first | exact Or.inl rfl | exact Or.inr rfl) (JD.e aB))
  (aG (gG (dP BY (JE.d (jH oF rfl i9 PySem.boot_len (aq (aW (i:=0) (bq hr) aB (fun _ _=>rfl)) aL))) aB) (bx (bC (i:=3) fR.nd rfl (by first | exact Or.inl rfl | exact Or.inr rfl) (vH B0 (aW (i:=0) (bq hr) aB (fun _ _=>rfl)) (JE.d (dh j8 (aW (i:=0) (bq hr) aB (fun _ _=>rfl)) (JE.d (jH oF rfl i9 PySem.boot_len (aq (aW (i:=0) (bq hr) aB (fun _ _=>rfl)) aL))))) (fun _ _=>rfl)))) dQ)
  (aG (kh (i:=0) (bq hr) aB (JE.d (dh gP (aW (i:=0) (bq hr) aB (fun _ _=>rfl)) aB)))
  (aG (gG (dP xD (JE.d (ah 3)) (JE.d (dh D6 aB aB))) (aG (kh (i:=0) (bq hr) aB (JE.d (dh pU (JE.d (ah 3)) (JE.d (ah 1)))))
  (bx (bO (dh j8 (JE.d (ah 3)) (JE.d (ah 1)))))) dQ)
  (aG (bC (i:=4) fR.nd rfl (by first | exact Or.inl rfl | exact Or.inr rfl) (dh j8 (JE.d (dh nD (JE.d (dh gP (JE.d (dh gP (JE.d (dh j8 (JE.d (ah 3)) aB)) (JE.d (dh nD aB (aW (i:=0) (bq hr) aB (fun _ _=>rfl)))))) (JE.d (dh nD aB (aW (i:=0) (bq hr) aB (fun _ _=>rfl)))))) aB)) aB))
  (aG (bC (i:=4) fR.nd rfl (by first | exact Or.inl rfl | exact Or.inr rfl) (dh j8 (JE.d (dh nD (JE.d (dh gP (JE.d (dh pU (JE.d (ah 4)) aB)) (JE.d (dh nD aB (aW (i:=0) (bq hr) aB (fun _ _=>rfl)))))) aB)) aB))
  (bx (bO (dh j8 (JE.d (dh pU (JE.d (ah 4)) aB)) (JE.d (ah 1)))))))))))))) hf
noncomputable abbrev fS:Stmt:=top 21
theorem jD:cA ["_law_feed_here","_law_some","_law_many"] ["_law_feed_here"] (aT fS):=⟨rfl,rfl,rfl,by decide +kernel,rfl,by decide +kernel,by decide +kernel⟩
theorem rW {P:Program}{w:World}{K:PySem.W.Frag}{mg:Str->Option Value}{base:Heap}{f:Addr}{fd:FuncData}{n:Nat}{fm:FM}(F:rE K "_law_table" "_law_table" fS f fd)
  {gF:Addr}{jf:FuncData}{aQ:FM}(cM:cJ P w K mg base jz n gF jf ["_law_feed_here","_law_many"] (spT K 2 aQ)) (cN:Binds K jf ["_law_feed_here","_law_many"] []) (cO:PySem.W.keepIn K (.ref gF)=true) (cP:mg "_law_take" =some (.ref gF))
  (hf:∀us r,fm us=some r->bM 3 (So.dD aQ) us=some r):cJ P w K mg base jz (n+1) f fd ["_law_feed_here"] (spT K 1 fm):=
 wZ (g:=So.dD aQ) F jD (fun cdv A outer s H E hr=>(aG (bC (i:=1) jD.nd rfl (by first | exact Or.inl rfl | exact Or.inr rfl) (vH B0 (JE.d (gW (aq (JE.d (bW (aq bV (aq bV (aq bV aL))))) (aq (JE.d (bW (aq bV (aq bV (aq bV aL))))) (aq (JE.d (bW (aq bV (aq bV (aq bV aL))))) (aq (JE.d (bW (aq bV (aq bV (aq bV aL))))) aL)))))) (JE.d (aX cM hr rfl cP cO cN (gw (ah 0) (au aB bw)))) (fun _ _=>rfl)))
  (aG (bC (i:=2) jD.nd rfl (by first | exact Or.inl rfl | exact Or.inr rfl) (dh gP aB (JE.d (aX cM hr rfl cP cO cN (gw (ah 0) (au aB bw))))))
  (aG (gG (dP (kW hr.units) (JE.d (ah 2)) aB) (bx (bO (bW (aq (JE.d (bW (aq (aW (i:=1) (bq hr) aB (fun _ _=>rfl)) (aq (JE.d (dh gP aB (JE.d (aX cM hr rfl cP cO cN (gw (ah 0) (au aB bw)))))) aL)))) aL)))) dQ)
  (aG (gG (dP (kW hr.units) (JE.d (ah 2)) aB) (bx (bO (bW (aq (JE.d (bW (aq (aW (i:=1) (bq hr) aB (fun _ _=>rfl)) (aq (JE.d (aX cM hr rfl cP cO cN (gw (ah 0) (au aB bw)))) aL)))) (aq (JE.d (bW (aq (aW (i:=1) (bq hr) aB (fun _ _=>rfl)) (aq (JE.d (aX cM hr rfl cP cO cN (gw (ah 0) (au aB bw)))) aL)))) aL))))) dQ)
  (bx (bO (bW (aq (JE.d (bW (aq (aW (i:=1) (bq hr) aB (fun _ _=>rfl)) (aq (JE.d (aX cM hr rfl cP cO cN (gw (ah 0) (au aB bw)))) aL)))) (aq (JE.d (bW (aq (aW (i:=1) (bq hr) aB (fun _ _=>rfl)) (aq aB aL)))) (aq (JE.d (bW (aq (aW (i:=1) (bq hr) aB (fun _ _=>rfl)) (aq (JE.d (aX cM hr rfl cP cO cN (gw (ah 0) (au aB bw)))) aL)))) aL))))))))))) hf
noncomputable abbrev cC:Stmt:=top 22
theorem d9:cA ["_law_table_here","_law_found","_law_name","_law_most"] ["_law_table_here"] (aT cC):=⟨rfl,rfl,rfl,by decide +kernel,rfl,by decide +kernel,by decide +kernel⟩
theorem nh {P:Program}{w:World}{K:PySem.W.Frag}{mg:Str->Option Value}{base:Heap}{f:Addr}{fd:FuncData}{n:Nat}{fm:FM}(F:rE K "_law_happenings" "_law_happenings" cC f fd) (je:mg "range" =none)
  (hf:∀us r,fm us=some r->bM 4 (dw) us=some r):cJ P w K mg base jz (n+1) f fd ["_law_table_here"] (spT K 1 fm):=
 wZ (g:=dw) F d9 (fun cdv A outer s H E hr=>(aG (bC (i:=1) d9.nd rfl (by first | exact Or.inl rfl | exact Or.inr rfl) (gW aL))
  (aG (mX PassesOwn.never rfl (HA (JE.d (ah 0))) (xG rfl (jJ (fL (i:=2) d9.nd rfl (by first | exact Or.inl rfl | exact Or.inr rfl)) (jJ (fL (i:=3) d9.nd rfl (by first | exact Or.inl rfl | exact Or.inr rfl)) ug))) (bx (lK (JD.e (lM (i:=1) PySem.F.slot_list_extend PySem.F.type_list_extend xN Aq Ar (aq (JE.d (fM (fq (i:=2) rfl (by decide) rfl (by decide) rfl rfl (by decide) (by decide) rfl rfl rfl) rfl (jK rfl je (aq (JE.d (dh gP (JE.d (ah 3)) aB)) aL)) (fun _ _ _ _=>cQ) (fun _ _ _ _=>(JE.d (bW (aq (JE.d (ah 1)) (aq (JE.d (ah 0)) aL))))))) aL))))))
  (bx (bO (ah 1)))))) hf
noncomputable abbrev fT:Stmt:=top 23
theorem iB:cA ["_law_feed_here","_law_many","_law_sizes","_law_spots","_law_nexts","_law_k"] ["_law_feed_here","_law_many","_law_sizes"] (aT fT):=⟨rfl,rfl,rfl,by decide +kernel,rfl,by decide +kernel,by decide +kernel⟩
theorem rX {P:Program}{w:World}{K:PySem.W.Frag}{mg:Str->Option Value}{base:Heap}{f:Addr}{fd:FuncData}{n:Nat}{fm:FM}(F:rE K "_law_judge" "_law_judge" fT f fd) (i9:mg "len" =none) (je:mg "range" =none) (fE:mg "tuple" =none)
  {gF:Addr}{jf:FuncData}{aQ:FM}(cM:cJ P w K mg base jz n gF jf ["_law_feed_here","_law_many"] (spT K 2 aQ)) (cN:Binds K jf ["_law_feed_here","_law_many"] []) (cO:PySem.W.keepIn K (.ref gF)=true) (cP:mg "_law_take" =some (.ref gF))
  (hf:∀us r,fm us=some r->bM 6 (So.cH aQ) us=some r):cJ P w K mg base jz (n+1) f fd ["_law_feed_here","_law_many","_law_sizes"] (spT K 3 fm):=
 wZ (g:=So.cH aQ) F iB (fun cdv A outer s H E hr=>(aG (bC (i:=3) iB.nd rfl (by first | exact Or.inl rfl | exact Or.inr rfl) (JD.e (aW (i:=2) (bq hr) (JE.d (aX cM hr rfl cP cO cN (gw (ah 0) (au (kZ (i:=2) rfl i9) bw)))) (fun _ _=>rfl))))
  (aG (bC (i:=4) iB.nd rfl (by first | exact Or.inl rfl | exact Or.inr rfl) (gW aL))
  (aG (mX PassesOwn.never rfl (jK rfl je (aq (JE.d (ah 3)) aL)) (fL (i:=5) iB.nd rfl (by first | exact Or.inl rfl | exact Or.inr rfl)) (bx (lK (JD.e (lM (i:=4) PySem.F.slot_list_append PySem.F.type_list_append iR jL jP (aq (JE.d (eO dm rfl fE PyProof.Rows.Boot.tuple (aq (JE.d (fM (iZ (bH:=["_law_feed_here","_law_spots"]) (cap:=[0,3]) rfl (by decide) rfl (by decide) rfl rfl (by decide) (by first | exact Or.inl rfl | exact Or.inr rfl) (by decide) rfl rfl rfl) rfl (jK rfl je (aq (JE.d (ah 1)) aL)) (fun _ _ _ _=>cQ) (fun _ _ _ _=>(JE.d (aX cM hr rfl cP cO cN (gw (ah 1) (au (JE.d (ah 2)) bw))))))) aL))) aL))))))
  (bx (bO (bW (aq (JE.d (eO dm rfl fE PyProof.Rows.Boot.tuple (aq (JE.d (ah 4)) aL))) (aq (JE.d (eO dm rfl fE PyProof.Rows.Boot.tuple (aq (JE.d (fM (fq (i:=0) rfl (by decide) rfl (by decide) rfl rfl (by decide) (by decide) rfl rfl rfl) rfl (jK rfl je (aq (JE.d (ah 3)) aL)) (fun _ _ _ _=>cQ) (fun _ _ _ _=>(JE.d (uc (kW hr.units) (JE.d (aX cM hr rfl cP cO cN (gw (ah 1) (au aB bw)))) aB))))) aL))) aL))))))))) hf
noncomputable abbrev nU:Stmt:=top 24
theorem iw:cA ["_law_script","_law_feed_here","_law_table_here","_law_many","_law_one","_law_other","_law_third","_law_op","_law_here","_law_but","_law_never"] ["_law_script"] (aT nU):=⟨rfl,rfl,rfl,by decide +kernel,rfl,by decide +kernel,by decide +kernel⟩
theorem Jg {P:Program}{w:World}{K:PySem.W.Frag}{mg:Str->Option Value}{base:Heap}{f:Addr}{fd:FuncData}{n:Nat}{fm:FM}(F:rE K "law" "law" nU f fd) (i9:mg "len" =none)
  {ni:Addr}{rB:FuncData}{aH:FM}(yt:cJ P w K mg base jz n ni rB ["_law_script","_law_at"] (spT K 2 aH)) (yu:Binds K rB ["_law_script","_law_at"] []) (yw:PySem.W.keepIn K (.ref ni)=true) (yx:mg "_law_feed" =some (.ref ni))
  {lB:Addr}{pI:FuncData}{aD:FM}(wO:cJ P w K mg base jz n lB pI ["_law_feed_here"] (spT K 1 aD)) (wQ:Binds K pI ["_law_feed_here"] []) (wR:PySem.W.keepIn K (.ref lB)=true) (wU:mg "_law_table" =some (.ref lB))
  {iy:Addr}{j4:FuncData}{ao:FM}(oX:cJ P w K mg base jz n iy j4 ["_law_table_here"] (spT K 1 ao)) (oY:Binds K j4 ["_law_table_here"] []) (oZ:PySem.W.keepIn K (.ref iy)=true) (o7:mg "_law_happenings" =some (.ref iy))
  {lC:Addr}{pJ:FuncData}{aA:FM}(lD:cJ P w K mg base jz n lC pJ ["_law_feed_here","_law_many","_law_sizes"] (spT K 3 aA)) (lE:Binds K pJ ["_law_feed_here","_law_many","_law_sizes"] []) (lF:PySem.W.keepIn K (.ref lC)=true) (lG:mg "_law_judge" =some (.ref lC))
  {uU:Addr}{zS:FuncData}{aJ:FM}(dJ:cJ P w K mg base jz n uU zS ["table","op","one","other"] (spT K 4 aJ)) (dM:Binds K zS ["table","op","one","other"] []) (dN:PySem.W.keepIn K (.ref uU)=true) (dO:mg "joined" =some (.ref uU))
  {kC:Addr}{nW:FuncData}{az:FM}(nX:cJ P w K mg base jz n kC nW ["table","judge"] (spT K 2 az)) (nY:Binds K nW ["table","judge"] []) (nZ:PySem.W.keepIn K (.ref kC)=true) (oh:mg "least_judge" =some (.ref kC))
  {uV:Addr}{zT:FuncData}{aO:FM}(lY:cJ P w K mg base jz n uV zT ["table","judge"] (spT K 2 aO)) (lZ:Binds K zT ["table","judge"] []) (mh:PySem.W.keepIn K (.ref uV)=true) (mj:mg "turned" =some (.ref uV))
  (hf:∀us r,fm us=some r->bM 11 (So.wH aH aD ao aA aJ az aO) us=some r):cJ P w K mg base jz (n+1) f fd ["_law_script"] (spT K 1 fm):=
 wZ (g:=So.wH aH aD ao aA aJ az aO) F iw (fun cdv A outer s H E hr=>(aG (bC (i:=1) iw.nd rfl (by first | exact Or.inl rfl | exact Or.inr rfl) (aX yt hr rfl yx yw yu (gw (ah 0) (au aB bw))))
  (aG (bC (i:=2) iw.nd rfl (by first | exact Or.inl rfl | exact Or.inr rfl) (aX wO hr rfl wU wR wQ (gw (ah 1) bw)))
  (aG (bC (i:=3) iw.nd rfl (by first | exact Or.inl rfl | exact Or.inr rfl) (jH oF rfl i9 PySem.boot_len (aq (JE.d (aX oX hr rfl o7 oZ oY (au (JE.d (ah 2)) bw))) aL)))
  (aG (bC (i:=4) iw.nd rfl (by first | exact Or.inl rfl | exact Or.inr rfl) (aX lD hr rfl lG lF lE (gw (ah 1) (au (JE.d (ah 3)) (au (JE.d (gW (aq aB (aq aB (aq aB (aq aB (aq aB (aq aB aL)))))))) bw)))))
  (aG (bC (i:=5) iw.nd rfl (by first | exact Or.inl rfl | exact Or.inr rfl) (aX lD hr rfl lG lF lE (gw (ah 1) (au (JE.d (ah 3)) (au (JE.d (gW (aq aB (aq aB (aq aB (aq aB (aq aB (aq aB aL)))))))) bw)))))
  (aG (bC (i:=6) iw.nd rfl (by first | exact Or.inl rfl | exact Or.inr rfl) (aX lD hr rfl lG lF lE (gw (ah 1) (au (JE.d (ah 3)) (au (JE.d (gW (aq aB (aq aB (aq aB (aq aB (aq aB (aq aB aL)))))))) bw)))))
  (aG (mX PassesOwn.never rfl (d8 (JE.d (gW (aq bV (aq bV (aq bV aL)))))) (fL (i:=7) iw.nd rfl (by first | exact Or.inl rfl | exact Or.inr rfl)) (bx (gG (dP (kX hr.units) (JE.d (aX dJ hr rfl dO dN dM (au (JE.d (ah 2)) (au (JE.d (ah 7)) (au (JE.d (ah 4)) (au (JE.d (ah 5)) bw)))))) (JE.d (aX dJ hr rfl dO dN dM (au (JE.d (ah 2)) (au (JE.d (ah 7)) (au (JE.d (ah 5)) (au (JE.d (ah 4)) bw))))))) (bx (bO (JD.e mH))) dQ)))
  (aG (mX PassesOwn.never rfl (d8 (JE.d (gW (aq bV (aq bV aL))))) (fL (i:=7) iw.nd rfl (by first | exact Or.inl rfl | exact Or.inr rfl)) (aG (bC (i:=8) iw.nd rfl (by first | exact Or.inl rfl | exact Or.inr rfl) (aX dJ hr rfl dO dN dM (au (JE.d (ah 2)) (au (JE.d (ah 7)) (au (JE.d (aX dJ hr rfl dO dN dM (au (JE.d (ah 2)) (au (JE.d (ah 7)) (au (JE.d (ah 4)) (au (JE.d (ah 5)) bw)))))) (au (JE.d (ah 6)) bw))))))
  (aG (gG (dP (kX hr.units) (JE.d (ah 8)) (JE.d (aX dJ hr rfl dO dN dM (au (JE.d (ah 2)) (au (JE.d (ah 7)) (au (JE.d (ah 4)) (au (JE.d (aX dJ hr rfl dO dN dM (au (JE.d (ah 2)) (au (JE.d (ah 7)) (au (JE.d (ah 5)) (au (JE.d (ah 6)) bw)))))) bw))))))) (bx (bO (JD.e mH))) dQ)
  (bx (gG (dP (kX hr.units) (JE.d (aX dJ hr rfl dO dN dM (au (JE.d (ah 2)) (au (JE.d (ah 7)) (au (JE.d (ah 4)) (au (JE.d (ah 4)) bw)))))) (JE.d (aX nX hr rfl oh nZ nY (au (JE.d (ah 2)) (au (JE.d (ah 4)) bw))))) (bx (bO (JD.e mH))) dQ)))))
  (aG (bC (i:=9) iw.nd rfl (by first | exact Or.inl rfl | exact Or.inr rfl) (aX dJ hr rfl dO dN dM (au (JE.d (ah 2)) (au bV (au (JE.d (ah 4)) (au (JE.d (ah 5)) bw))))))
  (aG (gG (dP (kX hr.units) (JE.d (ah 9)) (JE.d (aX dJ hr rfl dO dN dM (au (JE.d (ah 2)) (au bV (au (JE.d (ah 4)) (au (JE.d (aX lY hr rfl mj mh lZ (au (JE.d (ah 2)) (au (JE.d (ah 5)) bw)))) bw))))))) (bx (bO (JD.e mH))) dQ)
  (aG (gG (dP (kX hr.units) (JE.d (aX dJ hr rfl dO dN dM (au (JE.d (ah 2)) (au bV (au (JE.d (ah 4)) (au (JE.d (ah 5)) bw)))))) (JE.d (aX dJ hr rfl dO dN dM (au (JE.d (ah 2)) (au bV (au (JE.d (ah 9)) (au (JE.d (aX dJ hr rfl dO dN dM (au (JE.d (ah 2)) (au bV (au (JE.d (ah 5)) (au (JE.d (ah 4)) bw)))))) bw))))))) (bx (bO (JD.e mH))) dQ)
  (aG (gG (dP (kX hr.units) (JE.d (aX lY hr rfl mj mh lZ (au (JE.d (ah 2)) (au (JE.d (aX lY hr rfl mj mh lZ (au (JE.d (ah 2)) (au (JE.d (ah 4)) bw)))) bw)))) (JE.d (aX nX hr rfl oh nZ nY (au (JE.d (ah 2)) (au (JE.d (ah 4)) bw))))) (bx (bO (JD.e mH))) dQ)
  (aG (bC (i:=8) iw.nd rfl (by first | exact Or.inl rfl | exact Or.inr rfl) (aX lY hr rfl mj mh lZ (au (JE.d (ah 2)) (au (JE.d (aX dJ hr rfl dO dN dM (au (JE.d (ah 2)) (au bV (au (JE.d (ah 4)) (au (JE.d (ah 5)) bw)))))) bw))))
  (aG (gG (dP (kX hr.units) (JE.d (ah 8)) (JE.d (aX dJ hr rfl dO dN dM (au (JE.d (ah 2)) (au bV (au (JE.d (aX lY hr rfl mj mh lZ (au (JE.d (ah 2)) (au (JE.d (ah 4)) bw)))) (au (JE.d (aX lY hr rfl mj mh lZ (au (JE.d (ah 2)) (au (JE.d (ah 5)) bw)))) bw))))))) (bx (bO (JD.e mH))) dQ)
  (aG (bC (i:=10) iw.nd rfl (by first | exact Or.inl rfl | exact Or.inr rfl) (bW (aq (JE.d (bW (aq (JE.d (dh Ci (JE.d (bW (aq aB aL))) (JE.d (ah 3)))) aL))) (aq (JE.d (bW (aq mH aL))) aL))))
  (bx (bO (JD.e (xC (JE.d (uc (kW hr.units) (JE.d (aX dJ hr rfl dO dN dM (au (JE.d (ah 2)) (au bV (au (JE.d (ah 4)) (au (JE.d (ah 4)) bw)))))) (JE.d (ah 10)))) (uf (JE.d (uc (kW hr.units) (JE.d (aX dJ hr rfl dO dN dM (au (JE.d (ah 2)) (au bV (au (JE.d (ah 4)) (au (JE.d (ah 4)) bw)))))) (JE.d (ah 10))))))))))))))))))))))))) hf
end K56
end
namespace K56
open PySem L2 Sw Sq Sl Sk So
set_option maxHeartbeats 0 in
theorem all_mk {l:PySem.W.OpenLaw}{w:World}{K:PySem.W.Frag}{h:Heap}{mg:Str->Option Value}{fa f1 f2 f3 f4 f5 f6 f7 f8 f9 QW f11 QX QY QZ Q0 Q2:Addr}(X:K.In h) (G:h.Ns mainGlobals mg) (K5:mg "law" =some (.ref fa))
  {Wh Wi Wj Wk Wl Wm Wn Wo Wq Wr Ws Wt Wu Wv Ww Wx Wy Wz Q3 Q4 Q5 Q6 Q7 Q8 Q9 Rb Rf Rg Rh Ri Rj Mn:Option Addr}{WA sl2 WB WC WD WE WG WH WI Rk Rl Rm Rn Ro Rp Rq:Array (Option Value)} {WJ WK WL WM TY WN WO WQ WR WS TZ WT WU WV WW WX T5 WY WZ W0 W2 W3 T6 W4 W5 W6 W7 W8 T7 W9 Xa Xb Xc Xd T8 Xe Xf Xg Xh Xi T9 Xj Xk Xl Xm Xn Ua Xo Xp Xq Xr Xs Ub Xu Rr Rt Ru Rv Mp Rw Rx Ry Rz RA Mq RB RC RE RG RH Mr RI RJ RK RL RM Ms RO RP RQ RS RU Mt RV RW RX RY RZ Mu R5 R6 Mv Mw Mx Jh My:Value}{iH:Tok}
  (a1:PySem.W.nsIn K mainGlobals "reached" =some (some (.ref f1))) (l1:K.lookup f1=some ⟨WJ,Wh,.func (PySem.W.fnOf "reached" "reached" (bZ iS) (bU iS) (aT iS) .none WK WL WM Wi TY WN),WA⟩) (c1:PySem.W.codeIn K TY "reached" =true) (k1:PySem.W.keepIn K (.ref f1)=true)
  (a2:PySem.W.nsIn K mainGlobals "paired" =some (some (.ref f2))) (l2:K.lookup f2=some ⟨WO,Wj,.func (PySem.W.fnOf "paired" "paired" (bZ jY) (bU jY) (aT jY) .none WQ WR WS Wk TZ WT),sl2⟩) (c2:PySem.W.codeIn K TZ "paired" =true) (k2:PySem.W.keepIn K (.ref f2)=true)
  (a3:PySem.W.nsIn K mainGlobals "numbered" =some (some (.ref f3))) (l3:K.lookup f3=some ⟨WU,Wl,.func (PySem.W.fnOf "numbered" "numbered" (bZ iu) (bU iu) (aT iu) .none WV WW WX Wm T5 WY),WB⟩) (c3:PySem.W.codeIn K T5 "numbered" =true) (k3:PySem.W.keepIn K (.ref f3)=true)
  (a4:PySem.W.nsIn K mainGlobals "told_apart" =some (some (.ref f4))) (l4:K.lookup f4=some ⟨WZ,Wn,.func (PySem.W.fnOf "told_apart" "told_apart" (bZ fQ) (bU fQ) (aT fQ) .none W0 W2 W3 Wo T6 W4),WC⟩) (c4:PySem.W.codeIn K T6 "told_apart" =true) (k4:PySem.W.keepIn K (.ref f4)=true)
  (a5:PySem.W.nsIn K mainGlobals "least_machine" =some (some (.ref f5))) (l5:K.lookup f5=some ⟨W5,Wq,.func (PySem.W.fnOf "least_machine" "least_machine" (bZ cZ) (bU cZ) (aT cZ) .none W6 W7 W8 Wr T7 W9),WD⟩) (c5:PySem.W.codeIn K T7 "least_machine" =true) (k5:PySem.W.keepIn K (.ref f5)=true)
  (a6:PySem.W.nsIn K mainGlobals "least_judge" =some (some (.ref f6))) (l6:K.lookup f6=some ⟨Xa,Ws,.func (PySem.W.fnOf "least_judge" "least_judge" (bZ eY) (bU eY) (aT eY) .none Xb Xc Xd Wt T8 Xe),WE⟩) (c6:PySem.W.codeIn K T8 "least_judge" =true) (k6:PySem.W.keepIn K (.ref f6)=true)
  (a7:PySem.W.nsIn K mainGlobals "by_op" =some (some (.ref f7))) (l7:K.lookup f7=some ⟨Xf,Wu,.func (PySem.W.fnOf "by_op" "by_op" (bZ lX) (bU lX) (aT lX) .none Xg Xh Xi Wv T9 Xj),WG⟩) (c7:PySem.W.codeIn K T9 "by_op" =true) (k7:PySem.W.keepIn K (.ref f7)=true)
  (a8:PySem.W.nsIn K mainGlobals "least_joined" =some (some (.ref f8))) (l8:K.lookup f8=some ⟨Xk,Ww,.func (PySem.W.fnOf "least_joined" "least_joined" (bZ dU) (bU dU) (aT dU) .none Xl Xm Xn Wx Ua Xo),WH⟩) (c8:PySem.W.codeIn K Ua "least_joined" =true) (k8:PySem.W.keepIn K (.ref f8)=true)
  (a9:PySem.W.nsIn K mainGlobals "joined" =some (some (.ref f9))) (l9:K.lookup f9=some ⟨Xp,Wy,.func (PySem.W.fnOf "joined" "joined" (bZ jZ) (bU jZ) (aT jZ) .none Xq Xr Xs Wz Ub Xu),WI⟩) (c9:PySem.W.codeIn K Ub "joined" =true) (k9:PySem.W.keepIn K (.ref f9)=true)
  (a10:PySem.W.nsIn K mainGlobals "turned" =some (some (.ref QW))) (R7:K.lookup QW=some ⟨Rr,Q3,.func (PySem.W.fnOf "turned" "turned" (bZ j3) (bU j3) (aT j3) .none Rt Ru Rv Q4 Mp Rw),Rk⟩) (R8:PySem.W.codeIn K Mp "turned" =true) (Nv:PySem.W.keepIn K (.ref QW)=true)
  (a11:PySem.W.nsIn K mainGlobals "_law_feed" =some (some (.ref f11))) (R9:K.lookup f11=some ⟨Rx,Q5,.func (PySem.W.fnOf "_law_feed" "_law_feed" (bZ gJ) (bU gJ) (aT gJ) .none Ry Rz RA Q6 Mq RB),Rl⟩) (Sa:PySem.W.codeIn K Mq "_law_feed" =true) (Nx:PySem.W.keepIn K (.ref f11)=true)
  (a12:PySem.W.nsIn K mainGlobals "_law_take" =some (some (.ref QX))) (Sd:K.lookup QX=some ⟨RC,Q7,.func (PySem.W.fnOf "_law_take" "_law_take" (bZ gK) (bU gK) (aT gK) .none RE RG RH Q8 Mr RI),Rm⟩) (c12:PySem.W.codeIn K Mr "_law_take" =true) (BL:PySem.W.keepIn K (.ref QX)=true)
  (a13:PySem.W.nsIn K mainGlobals "_law_table" =some (some (.ref QY))) (Se:K.lookup QY=some ⟨RJ,Q9,.func (PySem.W.fnOf "_law_table" "_law_table" (bZ fS) (bU fS) (aT fS) .none RK RL RM Rb Ms RO),Rn⟩) (Sg:PySem.W.codeIn K Ms "_law_table" =true) (Ny:PySem.W.keepIn K (.ref QY)=true)
  (a14:PySem.W.nsIn K mainGlobals "_law_happenings" =some (some (.ref QZ))) (Sh:K.lookup QZ=some ⟨RP,Rf,.func (PySem.W.fnOf "_law_happenings" "_law_happenings" (bZ cC) (bU cC) (aT cC) .none RQ RS RU Rg Mt RV),Ro⟩) (Si:PySem.W.codeIn K Mt "_law_happenings" =true) (Nz:PySem.W.keepIn K (.ref QZ)=true)
  (a15:PySem.W.nsIn K mainGlobals "_law_judge" =some (some (.ref Q0))) (Sj:K.lookup Q0=some ⟨RW,Rh,.func (PySem.W.fnOf "_law_judge" "_law_judge" (bZ fT) (bU fT) (aT fT) .none RX RY RZ Ri Mu R5),Rp⟩) (Sm:PySem.W.codeIn K Mu "_law_judge" =true) (NC:PySem.W.keepIn K (.ref Q0)=true)
  (a16:PySem.W.nsIn K mainGlobals "law" =some (some (.ref Q2))) (Ss:K.lookup Q2=some ⟨R6,Rj,.func (PySem.W.fnOf "law" "law" (bZ nU) (bU nU) (aT nU) .none Mv Mw Mx Mn Jh My),Rq⟩) (Su:PySem.W.codeIn K Jh "law" =true) (Sv:PySem.W.keepIn K (.ref Q2)=true)
  (lH:PySem.W.nsIn K mainGlobals "MOST_SPOTS" =some (some (.int 300 iH)))
  (Dv:PySem.W.nsIn K mainGlobals "list" =some none) (zdict:PySem.W.nsIn K mainGlobals "dict" =some none) (Ji:PySem.W.nsIn K mainGlobals "len" =some none) (Jj:PySem.W.nsIn K mainGlobals "zip" =some none) (yy:PySem.W.nsIn K mainGlobals "tuple" =some none) (Jk:PySem.W.nsIn K mainGlobals "max" =some none) (nj:PySem.W.nsIn K mainGlobals "enumerate" =some none) (yz:PySem.W.nsIn K mainGlobals "range" =some none):
  ∃fd:FuncData,(∀(s:Shared) (v:Value),BindsTo s fd ⟨[v],[]⟩ [("_law_script",v)])/\∀base:Heap,K.In base->base.Ns mainGlobals mg->cJ l.prog w K mg base jz 6 fa fd ["_law_script"] (spT K 1 (AS 63)):=by
 have e:=K5.symm.trans (PySem.W.mg_of X G a16)
 cases e
 have F1:=fV (st:=iS) l1 c1 k1
 have b1:=F1.binds (ps:=["nexts","begin"]) fun _ _ _ _ _ _ us hl=>match us,hl with | [_,_],_=>rfl
 have n1:=PySem.W.mg_of X G a1
 have F2:=fV (st:=jY) l2 c2 k2
 have b2:=F2.binds (ps:=["one","other"]) fun _ _ _ _ _ _ us hl=>match us,hl with | [_,_],_=>rfl
 have n2:=PySem.W.mg_of X G a2
 have F3:=fV (st:=iu) l3 c3 k3
 have b3:=F3.binds (ps:=["signs"]) fun _ _ _ _ _ _ us hl=>match us,hl with | [_],_=>rfl
 have n3:=PySem.W.mg_of X G a3
 have F4:=fV (st:=fQ) l4 c4 k4
 have b4:=F4.binds (ps:=["nexts","words","most"]) fun _ _ _ _ _ _ us hl=>match us,hl with | [_,_,_],_=>rfl
 have n4:=PySem.W.mg_of X G a4
 have F5:=fV (st:=cZ) l5 c5 k5
 have b5:=F5.binds (ps:=["nexts","words","most"]) fun _ _ _ _ _ _ us hl=>match us,hl with | [_,_,_],_=>rfl
 have n5:=PySem.W.mg_of X G a5
 have F6:=fV (st:=eY) l6 c6 k6
 have b6:=F6.binds (ps:=["table","judge"]) fun _ _ _ _ _ _ us hl=>match us,hl with | [_,_],_=>rfl
 have n6:=PySem.W.mg_of X G a6
 have F7:=fV (st:=lX) l7 c7 k7
 have b7:=F7.binds (ps:=["op","one","other"]) fun _ _ _ _ _ _ us hl=>match us,hl with | [_,_,_],_=>rfl
 have n7:=PySem.W.mg_of X G a7
 have F8:=fV (st:=dU) l8 c8 k8
 have b8:=F8.binds (ps:=["op","one","other"]) fun _ _ _ _ _ _ us hl=>match us,hl with | [_,_,_],_=>rfl
 have n8:=PySem.W.mg_of X G a8
 have F9:=fV (st:=jZ) l9 c9 k9
 have b9:=F9.binds (ps:=["table","op","one","other"]) fun _ _ _ _ _ _ us hl=>match us,hl with | [_,_,_,_],_=>rfl
 have n9:=PySem.W.mg_of X G a9
 have Uc:=fV (st:=j3) R7 R8 Nv
 have Qg:=Uc.binds (ps:=["table","judge"]) fun _ _ _ _ _ _ us hl=>match us,hl with | [_,_],_=>rfl
 have Xv:=PySem.W.mg_of X G a10
 have Ud:=fV (st:=gJ) R9 Sa Nx
 have Xw:=Ud.binds (ps:=["_law_script","_law_at"]) fun _ _ _ _ _ _ us hl=>match us,hl with | [_,_],_=>rfl
 have Xx:=PySem.W.mg_of X G a11
 have Ue:=fV (st:=gK) Sd c12 BL
 have Ug:=Ue.binds (ps:=["_law_feed_here","_law_many"]) fun _ _ _ _ _ _ us hl=>match us,hl with | [_,_],_=>rfl
 have Uh:=PySem.W.mg_of X G a12
 have Ui:=fV (st:=fS) Se Sg Ny
 have Xy:=Ui.binds (ps:=["_law_feed_here"]) fun _ _ _ _ _ _ us hl=>match us,hl with | [_],_=>rfl
 have Xz:=PySem.W.mg_of X G a13
 have Uj:=fV (st:=cC) Sh Si Nz
 have XA:=Uj.binds (ps:=["_law_table_here"]) fun _ _ _ _ _ _ us hl=>match us,hl with | [_],_=>rfl
 have XC:=PySem.W.mg_of X G a14
 have Uk:=fV (st:=fT) Sj Sm NC
 have XD:=Uk.binds (ps:=["_law_feed_here","_law_many","_law_sizes"]) fun _ _ _ _ _ _ us hl=>match us,hl with | [_,_,_],_=>rfl
 have XE:=PySem.W.mg_of X G a15
 have XF:=fV (st:=nU) Ss Su Sv
 have Dl:=PySem.W.mg_none_of X G Dv
 have Dm:=PySem.W.mg_none_of X G zdict
 have i9:=PySem.W.mg_none_of X G Ji
 have Ja:=PySem.W.mg_none_of X G Jj
 have fE:=PySem.W.mg_none_of X G yy
 have yq:=PySem.W.mg_none_of X G Jk
 have gD:=PySem.W.mg_none_of X G nj
 have je:=PySem.W.mg_none_of X G yz
 have gI:=PySem.W.mg_of X G lH
 refine⟨PySem.W.fnOf "law" "law" (bZ nU) (bU nU) (aT nU) .none Mv Mw Mx Mn Jh My,fun s v=>.of_eq rfl,fun base _ _=>?_⟩
 have Dw:=yp (P:=l.prog) (w:=w) (K:=K) (mg:=mg) (base:=base) (n:=0) F1 Dl Dm i9 (fm:=reachF) AH
 have Fz:=AV (P:=l.prog) (w:=w) (K:=K) (mg:=mg) (base:=base) (n:=0) F2 i9 Ja fE (fm:=pairF) C8
 have AY:=wI (P:=l.prog) (w:=w) (K:=K) (mg:=mg) (base:=base) (n:=0) F3 i9 (fm:=qM) EF
 have Jl:=Dt (P:=l.prog) (w:=w) (K:=K) (mg:=mg) (base:=base) (n:=0) F7 (fm:=IK) IL
 have yC:=uS (P:=l.prog) (w:=w) (K:=K) (mg:=mg) (base:=base) (n:=0) Ud (fm:=So.gH) So.Di
 have rC:=uT (P:=l.prog) (w:=w) (K:=K) (mg:=mg) (base:=base) (n:=0) Ue i9 (fm:=So.lq) So.Dj
 have o8:=nh (P:=l.prog) (w:=w) (K:=K) (mg:=mg) (base:=base) (n:=0) Uj je (fm:=gj) CI
 have wV:=rQ (P:=l.prog) (w:=w) (K:=K) (mg:=mg) (base:=base) (n:=1) F4 yq gD fE (AY.mono (by omega)) b3 k3 n3 (fm:=iM) CU
 have wW:=rW (P:=l.prog) (w:=w) (K:=K) (mg:=mg) (base:=base) (n:=1) Ui (rC.mono (by omega)) Ug BL Uh (fm:=jX) tab_run
 have wX:=rX (P:=l.prog) (w:=w) (K:=K) (mg:=mg) (base:=base) (n:=1) Uk i9 je fE (rC.mono (by omega)) Ug BL Uh (fm:=So.cV) So.AR
 have jg:=oW (P:=l.prog) (w:=w) (K:=K) (mg:=mg) (base:=base) (n:=2) F5 gD yq je fE (Dw.mono (by omega)) b1 k1 n1 (wV.mono (by omega)) b4 k4 n4 (fm:=i8) AN
 have uW:=rA (P:=l.prog) (w:=w) (K:=K) (mg:=mg) (base:=base) (n:=3) F6 (jg.mono (by omega)) b5 k5 n5 (fm:=So.sS) So.II
 have rY:=pP (P:=l.prog) (w:=w) (K:=K) (mg:=mg) (base:=base) (n:=3) F8 gI (Fz.mono (by omega)) b2 k2 n2 (Jl.mono (by omega)) b7 k7 n7 (jg.mono (by omega)) b5 k5 n5 (fm:=uM) ym
 have FA:=AX (P:=l.prog) (w:=w) (K:=K) (mg:=mg) (base:=base) (n:=3) Uc gI (jg.mono (by omega)) b5 k5 n5 (fm:=turnF) Dd
 have FD:=AW (P:=l.prog) (w:=w) (K:=K) (mg:=mg) (base:=base) (n:=4) F9 (rY.mono (by omega)) b8 k8 n8 (fm:=jW) Dh
 exact Jg (P:=l.prog) (w:=w) (K:=K) (mg:=mg) (base:=base) (n:=5) XF i9 (yC.mono (by omega)) Xw Nx Xx (wW.mono (by omega)) Xy Ny Xz (o8.mono (by omega)) XA Nz XC (wX.mono (by omega)) XD NC XE (FD.mono (by omega)) b9 k9 n9 (uW.mono (by omega)) b6 k6 n6 (FA.mono (by omega)) Qg Nv Xv AU
theorem walk {l:PySem.W.OpenLaw}{q:Program}{loose:List Str}{XP:(Str->Option Value)->Heap->Prop}{YP:World->Heap->Prop}{d:DefRec}{K:Params->PySem.W.Frag}(hn:l.most=some 63) (hdf:d.params.defaults=[])
  (hY:∀(w:World) (h:Heap),YP w h->(K w.params).In h)
  (XG:∀w:World,(K w.params).all So.Fj=true)
  (F:∀(w:World) (mg:Str->Option Value) (fa:Addr) (h:Heap),(K w.params).In h->h.Ns mainGlobals mg->mg d.name=some (.ref fa)->
   ∃fd:FuncData,(∀(s:Shared) (u:Value),BindsTo s fd ⟨[u],[]⟩ [("_law_script",u)])/\∀base:Heap,(K w.params).In base->base.Ns mainGlobals mg->cJ l.prog w (K w.params) mg base jz 6 fa fd ["_law_script"] (spT (K w.params) 1 (AS 63))):
  PySem.W.WalkO q loose XP YP l.row.toRowW d [] (fun f vs=>PySem.call f vs):=
 L2.DY (n:=63) (k:=6) (x:="_law_script") (CX:=fun _=>jz) (sp:=fun w=>spT (K w.params) 1 (AS 63)) hn (by decide) hdf ⟨rfl,by decide,by decide,rfl⟩ hY F (fun w H a ns hl hO hS=>So.Fp (XG w) hl hO hS) fun _ _ _ _ _ z=>z
end K56
open PySem PySem.W PyProof.Rows
noncomputable def PySem.W.Fast.tw6866661845774731476:Nat->Stmt:=K56.top
theorem PySem.W.Fast.te6866661845774731476:K56.top=PySem.W.Fast.tw6866661845774731476:=rfl
def K56.sc:Scope:=PySem.Challenge.pw_surewatch_k56_whole_judges_put_together.main.scope
noncomputable def PySem.W.Fast.tw6851307553258014624:Scope:=K56.sc
theorem PySem.W.Fast.te6851307553258014624:K56.sc=PySem.W.Fast.tw6851307553258014624:=rfl
def K56.pw:Program:={main:={body:=[K56.top 0,K56.top 1,K56.top 2,K56.top 3,K56.top 4,K56.top 5,K56.top 6,K56.top 7,K56.top 8,K56.top 9,K56.top 10,K56.top 11,K56.top 12,K56.top 13,K56.top 14,K56.top 15,K56.top 16,K56.top 17,K56.top 18,K56.top 19,K56.top 20,K56.top 21,K56.top 22,K56.top 23,K56.top 24],scope:=K56.sc,futureAnnotations:=false,file:="/claim/cut.py",more:=[]},modules:=[],parses:=[],absent:=[],harvested:=[],given:={argv:=[],stdin:=[],environ:=some [([76,67,95,65,76,76],[67,46,85,84,70,45,56])]}}
def K56.rw:OpenLaw:={prog:=K56.pw,name:=(PySem.Str.ofString "law"),about:=[(PySem.Str.ofString "joined")],foot:=6,most:=some 63,bound:=none,writes:=false}
noncomputable def PySem.W.Fast.tw2348520109049898324:=0
noncomputable def PySem.W.Fast.tw10795622132559154735:=0
noncomputable def PySem.W.Fast.tw11148662750764241078:=0
noncomputable def PySem.W.Fast.tw3314628651210723686:=0
noncomputable def PySem.W.Fast.tw14639338385584242997:=0
noncomputable def PySem.W.Fast.tw835667140101262369:=0
noncomputable def PySem.W.Fast.tw8425841618486128831:=0
noncomputable def PySem.W.Fast.tw13272586319479843721:=0
noncomputable def PySem.W.Fast.tw4750833661652021868:=0
noncomputable def PySem.W.Fast.tw15150079181106884398:=0
noncomputable def PySem.W.Fast.tw11294473543184082633:=0
noncomputable def PySem.W.Fast.tw14179753036582311339:=0
noncomputable def PySem.W.Fast.tw891317056142519507:=0
noncomputable def PySem.W.Fast.tw10526906117033759351:=0
noncomputable def PySem.W.Fast.tw7698521261108251783:=0
noncomputable def PySem.W.Fast.tw13292132167552470285:=0
noncomputable def PySem.W.Fast.tw5784471250774907610:=0
noncomputable def PySem.W.Fast.tw6997539815874641511:=0
noncomputable def PySem.W.Fast.tw3476170058067963285:=0
noncomputable def PySem.W.Fast.tw11445581297170022506:=0
noncomputable def PySem.W.Fast.tw13329914509515087224:=0
noncomputable def PySem.W.Fast.tw15667110545672138313:=0
noncomputable def PySem.W.Fast.tw12959346872770847539:=0
noncomputable def PySem.W.Fast.tw12579410613854481836:=0
noncomputable def PySem.W.Fast.tw11314030629271932957:=0
noncomputable def PySem.W.Fast.tw9457780529372613190:=0
noncomputable def PySem.W.Fast.tw15397220917080986731:=0
noncomputable def PySem.W.Fast.tw17001255633371196289:=0
noncomputable def PySem.W.Fast.tw1432227897296320854:=0
noncomputable def PySem.W.Fast.tw12657519878176936217:=0
set_option maxRecDepth 100000 in
set_option maxHeartbeats 0 in
theorem K56.holds:K56.rw.Holds:=by
 w_on;o_law;k_head;(case hw=>w_witness2)
 k_fill
 refine K56.walk (l:=K56.rw) rfl rfl (fun w h Y=>PySem.W.kIn_of Y) ?NL ?F
 case NL=>exact fun w=>Eq.refl true
 case F=>
  intro w mg fa h KX G hmg
  refine' K56.all_mk KX G hmg ?a1 ?l1 ?c1 ?k1 ?a2 ?l2 ?c2 ?k2 ?a3 ?l3 ?c3 ?k3 ?a4 ?l4 ?c4 ?k4 ?a5 ?l5 ?c5 ?k5 ?a6 ?l6 ?c6 ?k6 ?a7 ?l7 ?c7 ?k7 ?a8 ?l8 ?c8 ?k8 ?a9 ?l9 ?c9 ?k9 ?a10 ?R7 ?R8 ?Nv ?a11 ?R9 ?Sa ?Nx ?a12 ?Sd ?c12 ?BL ?a13 ?Se ?Sg ?Ny ?a14 ?Sh ?Si ?Nz ?a15 ?Sj ?Sm ?NC ?a16 ?Ss ?Su ?Sv ?lH ?Dv ?zdict ?Ji ?Jj ?yy ?Jk ?nj ?yz
  (case a1=>k_is);(case l1=>k_is);(case c1=>k_is);(case k1=>k_is)
  (case a2=>k_is);(case l2=>k_is);(case c2=>k_is);(case k2=>k_is)
  (case a3=>k_is);(case l3=>k_is);(case c3=>k_is);(case k3=>k_is)
  (case a4=>k_is);(case l4=>k_is);(case c4=>k_is);(case k4=>k_is)
  (case a5=>k_is);(case l5=>k_is);(case c5=>k_is);(case k5=>k_is)
  (case a6=>k_is);(case l6=>k_is);(case c6=>k_is);(case k6=>k_is)
  (case a7=>k_is);(case l7=>k_is);(case c7=>k_is);(case k7=>k_is)
  (case a8=>k_is);(case l8=>k_is);(case c8=>k_is);(case k8=>k_is)
  (case a9=>k_is);(case l9=>k_is);(case c9=>k_is);(case k9=>k_is)
  (case a10=>k_is);(case R7=>k_is);(case R8=>k_is);(case Nv=>k_is)
  (case a11=>k_is);(case R9=>k_is);(case Sa=>k_is);(case Nx=>k_is)
  (case a12=>k_is);(case Sd=>k_is);(case c12=>k_is);(case BL=>k_is)
  (case a13=>k_is);(case Se=>k_is);(case Sg=>k_is);(case Ny=>k_is)
  (case a14=>k_is);(case Sh=>k_is);(case Si=>k_is);(case Nz=>k_is)
  (case a15=>k_is);(case Sj=>k_is);(case Sm=>k_is);(case NC=>k_is)
  (case a16=>k_is);(case Ss=>k_is);(case Su=>k_is);(case Sv=>k_is)
  (case lH=>k_is)
  (case Dv=>k_is);(case zdict=>k_is);(case Ji=>k_is);(case Jj=>k_is);(case yy=>k_is);(case Jk=>k_is);(case nj=>k_is);(case yz=>k_is)
theorem PySem.Challenge.cw_surewatch_k56_whole_judges_put_together_holds : PySem.Challenge.rw_surewatch_k56_whole_judges_put_together.Holds :=
 K56.holds
