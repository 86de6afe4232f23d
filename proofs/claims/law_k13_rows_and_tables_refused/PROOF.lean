import PyProof.Rows.All
import Wide.All
import OpenK.AllK
import Wide.FinOn
import PyProof.EqAt
import PyProof.EqKinds
import PyProof.TupleCall
import Lean
import PySem.Challenge.RW_surewatch_k13_rows_and_tables_refused
set_option Elab.async false
set_option linter.all false
set_option maxRecDepth 100000
noncomputable section
abbrev AAA:=PySem.W.Frag
abbrev AAB:=PySem.Value->PySem.Shared->Prop
abbrev AAC:=PySem.Str->Option PySem.Value
abbrev AAD:=List (PySem.Addr×PySem.Obj)
abbrev AAG:=List (PySem.Str×Int)
abbrev AAH:=Array PySem.Value
abbrev AAI:=List PySem.Value
abbrev XY:=@PySem.wpAny_bind
abbrev XZ:=@PySem.wpAny_pure
abbrev X0:=@List.size_toArray
abbrev X3:=@PySem.Heap.get?_push_of_some
abbrev X4:=@Option.bind_some
abbrev X5:=@PySem.Heap.lt_size
abbrev X6:=@Nat.le_refl
abbrev X7:=@Nat.lt_of_lt_of_le
abbrev X8:=@List.mem_append_right
abbrev Yb:=@List.mem_cons_of_mem
abbrev Yc:=@Nat.le_trans
abbrev Yd:=@PySem.wpAny_mono
abbrev Ye:=@List.getElem?_eq_some_iff
abbrev Yg:=@List.mem_cons_self
abbrev Yh:=@List.length_map
abbrev Yi:=@List.mem_cons
abbrev Yj:=@List.map_cons
abbrev Yk:=@PySem.Heap.get?_push_size
abbrev Yl:=@List.getElem?_set_ne
abbrev Ym:=@Nat.ne_of_lt
abbrev Yn:=@Option.some.inj
abbrev Yo:=@List.getElem?_eq_getElem
abbrev Yp:=@PySem.W.mg_of
abbrev Yq:=@List.mem_singleton
abbrev Yr:=@Bool.and_eq_true
abbrev Ys:=@List.length_cons
abbrev Yt:=@decide_eq_false
abbrev Yu:=@List.getElem?_map
abbrev Yv:=@PySem.W.mg_none_of
abbrev Yw:=@List.getElem?_set_self
abbrev Yx:=@PySem.F.slot_str_split
abbrev Yy:=@List.length_append
abbrev Yz:=@List.mem_map
abbrev YA:=@PyProof.Rows.slot_tuple_getitem
abbrev YB:=@PySem.Heap.get?_update_other
abbrev YC:=@List.drop_eq_getElem_cons
abbrev YD:=@PySem.mem_of_lookup
abbrev YE:=@Nat.lt_irrefl
abbrev YF:=@PySem.wpAny_passesOwn
abbrev YG:=@PySem.wpAny_field
abbrev YH:=@List.mem_of_getElem?
abbrev YI:=@PySem.wpAny_holding
abbrev YJ:=@Array.getElem?_eq_some_iff
abbrev YK:=@decide_eq_true
abbrev YL:=@PySem.F.type_str_split
abbrev YM:=@PySem.Str.length_append
abbrev YN:=@List.mem_append
abbrev YO:=@Classical.byContradiction
abbrev YQ:=@PySem.Heap.get?_update_self
abbrev YR:=@PySem.Obj.data_mapFields
abbrev YS:=@PySem.F.slot_list_append
abbrev YT:=@PySem.F.type_list_append
abbrev YU:=@List.all_cons
abbrev YV:=@List.mem_range
abbrev YW:=@List.mem_append_left
abbrev YX:=@PySem.wpAny_truthy_bool
abbrev YY:=@PySem.wpAny_newObj_type
abbrev YZ:=@List.nodup_cons
abbrev Y0:=@List.length_set
abbrev Y3:=@PySem.PassesOwn.never
abbrev Y4:=@Nat.zero_le
abbrev Y5:=@PySem.wpAny_Call_Name_kw
abbrev Y6:=@List.find?_cons
abbrev Y7:=@PySem.lookup_relabel_local
abbrev Y8:=@Ne.symm
abbrev Y9:=@PySem.wpAny_loadPart_at
abbrev Za:=@PySem.wpAny_callSpecial?_slot
abbrev Zb:=@List.filter_cons_of_pos
abbrev Zc:=@List.filter_cons_of_neg
abbrev Zd:=@List.length_reverse
abbrev Ze:=@PySem.Heap.size_after_update
abbrev Zf:=@PySem.W.kia_one
abbrev Zg:=@PySem.Obj.isFreed_of_fields
abbrev Zh:=@List.nil_append
abbrev Zi:=@List.map_append
abbrev Zj:=@PySem.F.slot_tuple_iterator_next
abbrev Zk:=@List.getElem?_append_left
abbrev Zl:=@PySem.W.looks_findIn
abbrev Zm:=@List.drop_length
abbrev Zn:=@List.map_map
abbrev Zo:=@List.filterMap_cons
abbrev Zp:=@PySem.wpAny_getItem_str_slice
abbrev Zq:=@List.any_cons
abbrev Zr:=@List.append_nil
abbrev Zs:=@of_decide_eq_true
abbrev Zt:=@Int.toNat_natCast
abbrev Zu:=@List.append_assoc
abbrev Zv:=@PySem.Txt.slice_le
abbrev Zw:=@PyProof.Rows.Boot.isinstance
abbrev Zx:=@PySem.wpAny_setField
abbrev Zy:=@PySem.F.slot_str_join
abbrev Zz:=@PySem.F.type_str_join
abbrev ZA:=@PyProof.Rows.callWith_type1
abbrev ZC:=@List.length_drop
abbrev ZD:=@PySem.typeIs_str
abbrev ZE:=@List.lookup_cons
abbrev ZF:=@PySem.wpAny_isSubtype_exc
abbrev ZG:=@List.length_nil
abbrev ZI:=@PySem.wpAny_pyIter_tuple
abbrev ZJ:=@Bool.false_ne_true
abbrev ZK:=@PySem.W.callWith_K
abbrev ZL:=@PySem.F.args_tuple_add_2
abbrev ZM:=@Nat.lt_of_le_of_lt
abbrev ZN:=@PySem.F.args_str_split_2
abbrev ZO:=@PySem.wpAny_call
abbrev ZP:=@List.nodup_nil
abbrev ZQ:=@PySem.boot_len
abbrev ZR:=@PySem.F.entry_tuple_add
abbrev ZS:=@PySem.F.entry_str_split
abbrev ZT:=@PyProof.Rows.Boot.tuple
abbrev ZU:=@decide_eq_true_eq
abbrev ZV:=@List.range_succ_eq_map
abbrev ZW:=@PySem.F.slot_tuple_add
abbrev ZX:=@PyProof.Rows.Boot.bool
abbrev ZY:=@PySem.wpAny_execs_cons
abbrev ZZ:=@List.length_take
abbrev Z0:=@PySem.wpAny_call_entry
abbrev Z1:=@List.all_eq_true
abbrev Z2:=@Option.getD_some
abbrev Z3:=@Classical.choose_spec
abbrev Z4:=@PyProof.Rows.Boot.str
abbrev Z5:=@PySem.SeqAt.EqAt.bool_bool
abbrev Z6:=@PySem.SeqAt.EqAt.same
abbrev Z7:=@Nat.le_of_lt
abbrev Z8:=@PySem.Heap.get?_none_of_le
abbrev Z9:=@PySem.wpAny_execs_nil
abbrev aaa:=@Nat.ne_of_gt
abbrev aab:=@PySem.codeAny_mono
abbrev aac:=@PySem.call_meets
abbrev aad:=@PySem.post_val_or_str
abbrev aae:=@PySem.codeAny_call_builtin
abbrev aaf:=@Nat.not_lt
abbrev aag:=@PySem.SeqAt.EqAt.int_bool
abbrev aah:=@PySem.SeqAt.EqAt.bool_int
abbrev aai:=@PySem.SeqAt.EqAt.bool_str
abbrev aaj:=@PySem.SeqAt.EqAt.str_bool
abbrev aak:=@Array.length_toList
abbrev aal:=@if_false
abbrev aam:=@Bool.false_and
abbrev aan:=@PySem.sizeLine_eq
abbrev aao:=@Nat.le_succ
abbrev aap:=@PySem.SeqAt.EqAt.int_str
abbrev aaq:=@PySem.SeqAt.EqAt.str_int
abbrev aar:=@PySem.SeqAt.EqAt.of_refs
abbrev aas:=@Bool.false_eq_true
abbrev aat:=@PySem.Calls.spliced_cons
abbrev aau:=@Int.emod_lt_of_pos
abbrev aav:=@PySem.Paired.length
abbrev aaw:=@PySem.wpAny_standAt
abbrev aax:=@PySem.F.slot_str_partition
abbrev aay:=@List.getD_eq_getElem?_getD
abbrev aaz:=@PySem.wpAny_pyIter_list
abbrev aaA:=@PySem.StrLaws.found_one
abbrev aaB:=@PySem.F.slot_dict_getitem
abbrev aaC:=@PySem.Around.in1_units
abbrev aaD:=@PySem.noFill_tuple_add
abbrev aaE:=@PySem.wpAny_typeOf
abbrev aaF:=@List.getElem_mem
abbrev aaG:=@List.any_eq_true
abbrev aaH:=@List.not_mem_nil
abbrev aaI:=@List.getElem?_replicate
abbrev aaJ:=@List.length_eq_zero_iff
abbrev aaK:=@List.of_mem_zip
abbrev aaL:=@Int.emod_nonneg
abbrev aaM:=@Bool.and_false
abbrev aaN:=@Bool.not_true
section
section
namespace L2
open PySem PySem.Spec PyProof.Rows
inductive D where
 | cz | bl (b:Bool) | int (i:Int) | str (z:Str) | tup (ds:List D) | lst (ds:List D)
mutual
noncomputable def D.same:D->D->Bool
 | .cz,.cz=>true
 | .bl a,.bl b=>a == b
 | .int a,.int b=>a == b
 | .str a,.str b=>decide (a=b)
 | .tup a,.tup b=>D.oH a b
 | .lst a,.lst b=>D.oH a b
 | _,_=>false
noncomputable def D.oH:List D->List D->Bool
 | [],[]=>true
 | a :: as,b :: bs=>D.same a b && D.oH as bs
 | _,_=>false
end
mutual
theorem D.same_refl:∀a:D,D.same a a=true
 | .cz=>rfl
 | .bl _=>by simp[D.same]
 | .int _=>by simp[D.same]
 | .str _=>by simp[D.same]
 | .tup a=>by unfold D.same;exact D.nJ a
 | .lst a=>by unfold D.same;exact D.nJ a
theorem D.nJ:∀a:List D,D.oH a a=true
 | []=>rfl
 | a :: as=>by unfold D.oH;rw[D.same_refl a,D.nJ as];rfl
end
mutual
theorem D.same_eq:∀{a b:D},D.same a b=true->a=b
 | .cz,b,h=>by cases b <;> simp[D.same] at h ⊢
 | .bl _,b,h=>by cases b <;> simp[D.same] at h ⊢;exact h
 | .int _,b,h=>by cases b <;> simp[D.same] at h ⊢;exact h
 | .str _,b,h=>by cases b <;> simp[D.same] at h ⊢;exact h
 | .tup a,b,h=>by
  cases b with
  | tup b=>unfold D.same at h;rw[D.rT h]
  | _=>simp[D.same] at h
 | .lst a,b,h=>by
  cases b with
  | lst b=>unfold D.same at h;rw[D.rT h]
  | _=>simp[D.same] at h
theorem D.rT:∀{a b:List D},D.oH a b=true->a=b
 | [],b,h=>by cases b <;> simp[D.oH] at h ⊢
 | a :: as,b,h=>by
  cases b with
  | nil=>simp[D.oH] at h
  | cons b bs=>
   unfold D.oH at h
   rw[Yr] at h
   rw[D.same_eq h.1,D.rT h.2]
end
noncomputable instance:DecidableEq D:=fun a b=>if h:D.same a b=true then isTrue (D.same_eq h) else isFalse fun e=>h (e▸D.same_refl a)
noncomputable def bI (b:Bool):Int:=if b then 1 else 0
mutual
noncomputable def nf:D->D
 | .bl b=>.int (bI b)
 | .tup ds=>.tup (N2 ds)
 | d=>d
noncomputable def N2:List D->List D
 | []=>[]
 | d :: ds=>nf d :: N2 ds
end
noncomputable def gj:Nat->D->Bool
 | _,.bl _=>true
 | _,.int _=>true
 | _,.str _=>true
 | n+1,.tup ds=>ds.all (gj n)
 | _,_=>false
mutual
theorem Bx:∀(d:D) (n:Nat),gj n d=true->gj n (nf d)=true
 | .bl _,n,_=>by cases n <;> rfl
 | .int _,n,_=>by cases n <;> rfl
 | .str _,n,_=>by cases n <;> rfl
 | .cz,n,h=>by cases n <;> exact h
 | .lst _,n,h=>by cases n <;> exact h
 | .tup ds,0,h=>by exact h
 | .tup ds,n+1,h=>yf ds n h
theorem yf:∀(ds:List D) (n:Nat),ds.all (gj n)=true->(N2 ds).all (gj n)=true
 | [],n,_=>rfl
 | d :: ds,n,h=>by
  rw[YU,Yr] at h
  show((nf d :: N2 ds).all (gj n))=true
  rw[YU,Bx d n h.1,yf ds n h.2]
  rfl
end
mutual
inductive uB (h:Heap):Value->D->Prop
 | bool (b:Bool):uB h (.bool b) (.int (bI b))
 | int (i:Int) (t:Tok):uB h (.int i t) (.int i)
 | str (x:Str) (t:Tok):uB h (.str x t) (.str x)
 | tup {a:Addr}{its:AAI}{ds:List D}(p:h.IsTuple a its.toArray) (r:jC h its ds):uB h (.ref a) (.tup ds)
inductive jC (h:Heap):List Value->List D->Prop
 | nil:jC h [] []
 | cons {u:Value}{d:D}{us:AAI}{ds:List D}(r:uB h u d) (rs:jC h us ds):jC h (u :: us) (d :: ds)
end
mutual
noncomputable def Ea (w:World):D->Int
 | .int i=>hashInt i
 | .str x=>hashStr w x
 | .tup ds=>reduceHash (Builtin.Tuple.tupleHashOf (nK w ds))
 | _=>0
noncomputable def nK (w:World):List D->List Int
 | []=>[]
 | d :: ds=>Ea w d :: nK w ds
end
mutual
noncomputable def wg:D->Nat
 | .tup ds=>rF ds+1
 | _=>1
noncomputable def rF:List D->Nat
 | []=>0
 | d :: ds=>wg d+rF ds
end
theorem jC.length {h:Heap}:∀{us:AAI}{ds:List D},jC h us ds->us.length=ds.length
 | _,_,.nil=>rfl
 | _,_,.cons _ rs=>congrArg Nat.succ (jC.length rs)
mutual
theorem uB.inj {h:Heap}:∀{v:Value}{d e:D},uB h v d->uB h v e->d=e
 | _,_,_,.bool b,r=>by cases r;rfl
 | _,_,_,.int i t,r=>by cases r;rfl
 | _,_,_,.str x t,r=>by cases r;rfl
 | _,_,_,@uB.tup _ a its ds p r,q=>by
  cases q with
  | @tup _ its' ds' p' r'=>
   obtain⟨o,h1,_,n,h2⟩:=p
   obtain⟨o',Vb,_,n',h2'⟩:=p'
   rw[h1] at Vb
   cases Vb
   rw[h2] at h2'
   injection h2' with e1 _
   have e:its=its':=by simpa using congrArg Array.toList e1
   subst e
   rw[jC.inj r r']
theorem jC.inj {h:Heap}:∀{vs:AAI}{ds es:List D},jC h vs ds->jC h vs es->ds=es
 | _,_,_,.nil,r=>by cases r;rfl
 | _,_,_,.cons r1 s1,r=>by
  cases r with
  | cons r2 s2=>rw[uB.inj r1 r2,jC.inj s1 s2]
end
mutual
theorem uB.keeps {h h':Heap}{d:Addr}{o:Obj}{es:Array DictEntry}{ep:Nat}(ho:h.get? d=some o) (hd:o.data= .dict es ep) (hs:Heap.SameBut d h h'):∀{v:Value}{k:D},uB h v k->uB h' v k
 | _,_,.bool b=>.bool b
 | _,_,.int i t=>.int i t
 | _,_,.str x t=>.str x t
 | _,_,@uB.tup _ a its ds p r=>by
  obtain⟨o',h1,h2,n,h3⟩:=p
  have hne:a≠d:=by
   intro z
   subst z
   rw[ho] at h1
   cases h1
   rw[hd] at h3
   cases h3
  exact .tup ⟨o',(hs.2 a hne).trans h1,h2,n,h3⟩ (jC.keeps ho hd hs r)
theorem jC.keeps {h h':Heap}{d:Addr}{o:Obj}{es:Array DictEntry}{ep:Nat}(ho:h.get? d=some o) (hd:o.data= .dict es ep) (hs:Heap.SameBut d h h'):∀{v:AAI}{k:List D},jC h v k->jC h' v k
 | _,_,.nil=>.nil
 | _,_,.cons r1 s1=>.cons (uB.keeps ho hd hs r1) (jC.keeps ho hd hs s1)
end
section
variable {prog:Program}{w:World}{E:AAB}
def qJ {A:Around}{s:Shared}{b:Bool}{Q:Int->Shared->Prop}(h:Q (hashInt (bI b)) {s with toks:=s.toks+1}):wpAny (model prog w) A (pyHash (.bool b)) Q E s:=by
 refine PySem.W.pyHash_slot (T:="bool") rfl F.slot_bool_hash F.entry_int_hash (F.args_int_hash_1 _) (beq_builtin_none _) (.inl rfl) ?_
 cases b
 ·exact(show wpAny _ _ (do ret (<-mkInt 0)) _ _ s from XY (wpAny_mkInt (XZ ⟨_,_,rfl,h⟩)))
 ·exact(show wpAny _ _ (do ret (<-mkInt 1)) _ _ s from XY (wpAny_mkInt (XZ ⟨_,_,rfl,h⟩)))
mutual
theorem yg:∀(d:D){n:Nat}{v:Value}{A:Around}{s:Shared}{Q:Int->Shared->Prop},uB s.heap v d->gj n d=true->A.units+n < cLine->Q (Ea w d) {s with toks:=s.toks+wg d}->wpAny (model prog w) A (pyHash v) Q E s
 | .int i,n,v,A,s,Q,x,_,_,h=>by
  cases x with
  | int=>exact wpAny_pyHash_int h
  | bool b=>exact qJ h
 | .str y,n,v,A,s,Q,x,_,_,h=>by cases x;exact wpAny_pyHash_str h
 | .cz,n,v,A,s,Q,x,_,_,h=>by cases x
 | .bl _,n,v,A,s,Q,x,_,_,h=>by cases x
 | .lst _,n,v,A,s,Q,x,_,_,h=>by cases x
 | .tup ds,n,v,A,s,Q,x,hk,hu,h=>by
  cases n with
  | zero=>simp[gj] at hk
  | succ n=>
   cases x with
   | @tup a its _ p r=>
    obtain⟨o,hg,hc,m,hd⟩:=p
    refine PySem.W.pyHash_slot (T:="tuple") ⟨_,hg,hc⟩ F.slot_tuple_hash F.entry_tuple_hash (F.args_tuple_hash_1 _) (beq_builtin_none _) (.inr (by lia)) ?_
    show wpAny _ _ (Builtin.Tuple.tupleItemsOf (.ref a) >>= _) _ _ s
    refine XY (wpAny_tupleItemsOf hg hd ?_)
    refine XY ?_
    rw[<-Array.forIn_toList]
    refine u5 ds (n:=n) (A:=A.in1) (b:=#[]) r hk (by rw[aaC];lia) fun b hb=>?_
    show wpAny _ _ (retInt (Builtin.Tuple.tupleHashOf b.toList)) _ _ _
    rw[hb]
    refine XY (wpAny_mkInt (XZ ⟨_,_,rfl,?_⟩))
    have e:(#[]:Array Int).toList++nK w ds=nK w ds:=by simp
    rw[e]
    exact h
theorem u5:∀(ds:List D){n:Nat}{vs:AAI}{A:Around}{s:Shared}{b:Array Int}{Q:Array Int->Shared->Prop},jC s.heap vs ds->ds.all (gj n)=true->A.units+n < cLine->
  (∀b',b'.toList=b.toList++nK w ds->Q b' {s with toks:=s.toks+rF ds})->
  wpAny (model prog w) A (forIn vs b fun x r=>do let h <-pyHash x;pure PUnit.unit;pure (ForInStep.yield (r.push h))) Q E s
 | [],n,_,A,s,b,Q,x,_,_,h=>by cases x;exact XZ (h b (by simp[nK]))
 | d :: ds,n,_,A,s,b,Q,x,hk,hu,h=>by
  cases x with
  | cons x1 x2=>
   rw[YU,Yr] at hk
   rw[List.forIn_cons]
   refine XY (XY (yg d (n:=n) x1 hk.1 hu ?_))
   refine XY (XZ (XZ ?_))
   refine u5 ds (n:=n) x2 hk.2 hu fun b' hb=>?_
   have q:=h b' (by simp[hb,nK])
   show Q b' {s with toks:=s.toks+wg d+rF ds}
   rw[Nat.add_assoc]
   exact q
end
end
def wj (n:Nat) (f:Nat->Bool):(List.range (n+1)).all f=(f 0 && (List.range n).all fun j=>f (j+1)):=by
 rw[ZV,YU,List.all_map];rfl
theorem yh:∀ds es:List D,((List.range (min ds.length es.length)).all (fun j=>decide (ds[j]? =es[j]?)) && ds.length == es.length)=decide (ds=es)
 | [],[]=>by simp
 | [],e :: es=>by simp
 | d :: ds,[]=>by simp
 | d :: ds,e :: es=>by
  have ih:=yh ds es
  have e1:min (d :: ds).length (e :: es).length=min ds.length es.length+1:=by simp only[Ys];lia
  rw[e1,wj]
  have e2:(fun j=>decide ((d :: ds)[j+1]? =(e :: es)[j+1]?))=fun j=>decide (ds[j]? =es[j]?):=by funext j;simp
  have e3:((d :: ds).length == (e :: es).length)=(ds.length == es.length):=by simp
  have e4:decide ((d :: ds)[0]? =(e :: es)[0]?)=decide (d=e):=by simp
  have e5:decide (d :: ds=e :: es)=(decide (d=e) && decide (ds=es)):=by
   by_cases a:d=e
   ·subst a;by_cases b:ds=es <;> simp[b]
   ·simp[a]
  rw[e2,e3,e4,Bool.and_assoc,ih,e5]
def Eb {α:Type}(l:List α) (j:Nat) (h:j < l.toArray.size):l[j]? =some l.toArray[j]:=by
 have z:j < l.length:=by simpa using h
 simp[z]
mutual
theorem Vc:∀(d:D){e:D}{n:Nat}{A:Around}{s:Shared}{u v:Value},uB s.heap u d->uB s.heap v e->gj n d=true->A.units+n < cLine->SeqAt.EqAt A s u v (decide (d=e))
  | .int i,e,n,A,s,u,v,r1,r2,_,hu=>by
    have di:∀i j:Int,decide (D.int i=D.int j)=(i == j):=fun i j=>by by_cases z:i=j <;> simp[z]
    cases r1 with
    | int _ t=>
      cases r2 with
      | int j t'=>rw[di];exact SeqAt.EqAt.int_int i t j t'
      | bool b=>rw[di];exact aag i t b
      | str x t'=>exact aap i t x t'
      | tup p r=>exact SeqAt.EqAt.int_tuple i t p (by lia)
    | bool a=>
      cases r2 with
      | int j t'=>rw[di];exact aah a j t'
      | bool b=>
        have:(bI a == bI b)=(a == b):=by cases a <;> cases b <;> rfl
        rw[di,this];exact Z5 a b
      | str x t'=>exact aai a x t'
      | tup p r=>exact SeqAt.EqAt.bool_tuple a p (by lia)
  | .str i,e,n,A,s,u,v,r1,r2,_,hu=>by
    cases r1 with
    | str _ t=>
    cases r2 with
    | int j t'=>exact aaq i t j t'
    | bool b=>exact aaj i t b
    | str x t' => have : decide (D.str i = D.str x) = (i == x) := by by_cases z : i = x <;> simp [z]
                  rw[this];exact SeqAt.EqAt.str_str i t x t'
    | tup p r=>exact SeqAt.EqAt.str_tuple i t p (by lia)
  | .cz,e,n,A,s,u,v,r1,r2,hk,hu=>by cases r1
  | .bl _,e,n,A,s,u,v,r1,r2,hk,hu=>by cases r1
  | .lst _,e,n,A,s,u,v,r1,r2,hk,hu=>by cases r1
  | .tup ds,e,n,A,s,u,v,r1,r2,hk,hu=>by
    cases n with
    | zero=>simp[gj] at hk
    | succ n=>
    cases r1 with
    | @tup ca dZ _ pa ra=>
    cases r2 with
    | int j t'=>exact SeqAt.EqAt.tuple_int j t' pa (by lia)
    | bool b=>exact SeqAt.EqAt.tuple_bool b pa (by lia)
    | str x t'=>exact SeqAt.EqAt.tuple_str x t' pa (by lia)
    | @tup cb bZ es pb rb=>
      have items:∀j (h1:j < dZ.toArray.size) (h2:j < bZ.toArray.size),SeqAt.EqAt A.in1 s dZ.toArray[j] bZ.toArray[j] (decide (ds[j]? =es[j]?)):=fun j h1 h2=>
        N3 ds (n:=n) (A:=A.in1) ra rb hk (by rw[aaC];lia) (Eb dZ j h1) (Eb bZ j h2)
      by_cases hc:ca=cb
      . subst hc
        have z:=uB.inj (.tup pa ra) (.tup pb rb)
        rw[z,YK rfl]
        exact Z6 _
      . have q:=SeqAt.RcAt.tuples (e:=fun j=>decide (ds[j]? =es[j]?)) pa pb (by lia) items
        rw[X0,X0,ra.length,rb.length,yh] at q
        have z:decide (D.tup ds=D.tup es)=decide (ds=es):=by by_cases a:ds=es <;> simp[a]
        rw[z]
        exact aar hc q
theorem N3:∀(ds:List D){es:List D}{n:Nat}{A:Around}{s:Shared}{us vs:AAI}{j:Nat}{u v:Value},jC s.heap us ds->jC s.heap vs es->ds.all (gj n)=true->A.units+n < cLine->us[j]? =some u->vs[j]? =some v->
  SeqAt.EqAt A s u v (decide (ds[j]? =es[j]?))
 | [],es,n,A,s,us,vs,j,u,v,r1,r2,hk,hu,h1,h2=>by cases r1;simp at h1
 | d :: ds,es,n,A,s,us,vs,j,u,v,r1,r2,hk,hu,h1,h2=>by
  rw[YU,Yr] at hk
  cases r1 with
  | cons a as=>
  cases r2 with
  | nil=>simp at h2
  | @cons v' e' vs' es' b bs=>
   cases j with
   | zero=>
    simp only[List.getElem?_cons_zero,Option.some.injEq] at h1 h2
    subst h1
    subst h2
    have z:decide ((d :: ds)[0]? =(e' :: es')[0]?)=decide (d=e'):=by simp
    rw[z]
    exact Vc d a b hk.1 hu
   | succ j=>
    have z:decide ((d :: ds)[j+1]? =(e' :: es')[j+1]?)=decide (ds[j]? =es'[j]?):=by simp
    rw[z]
    exact N3 ds as bs hk.2 hu (by simpa using h1) (by simpa using h2)
end
section
variable {prog:Program}{w:World}{A:Around}{E:AAB}{s:Shared}
mutual
theorem Ec:∀(d:D){n:Nat}{v:Value}{Q:Bool->Shared->Prop},uB s.heap v d->gj n d=true->Q true s->wpAny (model prog w) A (eqIsQuiet n v) Q E s
 | .int i,n,v,Q,x,_,h=>by cases x <;> (rw[eqIsQuiet_byValue n rfl];exact XZ h)
 | .str y,n,v,Q,x,_,h=>by cases x;rw[eqIsQuiet_byValue n rfl];exact XZ h
 | .cz,n,v,Q,x,_,h=>by cases x
 | .bl _,n,v,Q,x,_,h=>by cases x
 | .lst _,n,v,Q,x,_,h=>by cases x
 | .tup ds,n,v,Q,x,hk,h=>by
  cases n with
  | zero=>simp[gj] at hk
  | succ n=>
   cases x with
   | @tup a its _ p r=>
    obtain⟨o,hg,hc,m,hd⟩:=p
    have hT:s.TypeIs (.ref a) "tuple":=⟨o,hg,hc⟩
    unfold eqIsQuiet
    refine XY (wpAny_specialOf hT F.slot_tuple_eq.lookup ?_)
    show wpAny _ _ (isInstance (.ref a) (.type "tuple") >>= _) _ _ s
    refine XY (wpAny_isInstance hT isSubtype_tuple_tuple ?_)
    simp only[aaN,aas,aal]
    refine XY (wpAny_seqItems hg hd ?_)
    refine XY ?_
    show wpAny _ _ (forIn its.toArray _ _) _ _ s
    rw[<-Array.forIn_toList]
    exact u9 ds r hk (XZ h)
theorem u9:∀(ds:List D){n:Nat}{vs:AAI}{Q:Option Bool×Unit->Shared->Prop},jC s.heap vs ds->ds.all (gj n)=true->Q (none,()) s->
  wpAny (model prog w) A (forIn vs ((none,()):Option Bool×Unit) fun y __s=>do
   let __do_lift <-eqIsQuiet n y
   if(!__do_lift)=true then pure (ForInStep.done (some false,())) else pure (ForInStep.yield (none,()))) Q E s
 | [],n,_,Q,x,_,h=>by cases x;exact XZ h
 | d :: ds,n,_,Q,x,hk,h=>by
  cases x with
  | cons x1 x2=>
   rw[YU,Yr] at hk
   rw[List.forIn_cons]
   refine XY (XY (Ec d x1 hk.1 ?_))
   simp only[aaN,aas,aal]
   refine XZ ?_
   exact u9 ds x2 hk.2 h
end
end
def jX (prog:Program) (w:World):HeapKind prog w D where
 is:=fun h k a=>uB h (.ref a) k/\gj 8 k=true
 hash:=Ea w
 draws:=wg
 room:=fun A=>A.units+8 < cLine
 inj:=fun hx hy=>hx.1.inj hy.1
 keeps:=fun x ho hd hs=>⟨x.1.keeps ho hd hs,x.2⟩
 pyHash:=fun hu hk h=>yg _ hk.1 hk.2 hu h
 eqBool:=fun hu hx hy h=>Vc _ hx.1 hy.1 hx.2 hu _ _ _ _ h
 quiet:=fun hk h=>Ec _ hk.1 hk.2 h
def nq {prog:Program}{w:World}{A:Around}(hu:A.units+20 < cLine):(jX prog w).room A.in1:=by
 show A.in1.units+8 < cLine
 rw[aaC]
 lia
end L2
end
namespace L2
open PySem PySem.Spec PyProof.Rows
variable {H H':Hp}{a:Addr}{o:Obj}{u:Value}{P prog:Program}{w:World}{g':Array GenState}{t' i k:Nat}{ch fp:List Addr}{N ps:List Str}{x qual:Str}{M:Model}{A:Around}{E Q:AAB}{X:Cx}{pos pos':Pos}{pins:AAD}{σ:St}{op:CmpOp}{K:AAA}{es:List Expr}{tg:Expr}{te:TE}{body:List Stmt}{r:R2}{g:Int->Int->Int}{us:AAI}{y:V}{kw:List (Str×Value)}{mg:AAC}{base:Heap}{outer:List Env}{vs:List V}{scope:Scope}{kvs:List (D×V)}{xs:List (D×Addr×Value)}{Ia:List (TE×TE)}
abbrev Key:=Sum Int Str
def rW:Key->Value->Bool
 | .inl k,.bool b=>decide (k=bI b)
 | .inl k,v=>Value.isInt k v
 | .inr x,v=>Value.isStrOf x v
noncomputable def RI (w:World):Key->Int
 | .inl k=>hashInt k
 | .inr x=>hashStr w x
theorem cM:∀{k:Key}{v:Value},rW k v=true->(∃i t,k=Sum.inl i/\v=Value.int i t)\/(∃b,k=Sum.inl (bI b)/\v=Value.bool b)\/(∃x t,k=Sum.inr x/\v=Value.str x t)
 | .inl i,v,h=>by
  cases v with
  | bool b=>exact .inr (.inl ⟨b,by rw[Zs (show decide (i=bI b)=true from h)],rfl⟩)
  | int j t=>obtain⟨t,e⟩:=Value.isInt_shape (k:=i) (v:=Value.int j t) h;exact .inl ⟨i,t,rfl,e⟩
  | _=>exact absurd h (by simp[rW,Value.isInt])
 | .inr x,v,h=>by
  obtain⟨t,e⟩:=Value.isStrOf_shape (x:=x) (v:=v) h
  exact .inr (.inr ⟨x,t,rfl,e⟩)
def CC (i:Int) (t:Tok):rW (.inl i) (.int i t)=true:=by simp[rW,Value.isInt]
def CD (x:Str) (t:Tok):rW (.inr x) (.str x t)=true:=by simp[rW,Value.isStrOf]
def wk (a b:Int):decide ((Sum.inl a:Key)=Sum.inl b)=(a == b):=by
 by_cases e:a=b
 ·subst e;simp
 ·have h:¬(Sum.inl a:Key)=Sum.inl b:=fun q=>e (Sum.inl.inj q)
  rw[Yt h]
  exact(beq_eq_false_iff_ne.mpr e).symm
def K2 (a b:Str):decide ((Sum.inr a:Key)=Sum.inr b)=decide (a=b):=by
 by_cases e:a=b
 ·subst e;simp
 ·have h:¬(Sum.inr a:Key)=Sum.inr b:=fun q=>e (Sum.inr.inj q)
  rw[Yt h,Yt e]
def Ed (a:Int) (b:Str):decide ((Sum.inl a:Key)=Sum.inr b)=false:=Yt (fun q=>nomatch q)
def Ef (a:Str) (b:Int):decide ((Sum.inr a:Key)=Sum.inl b)=false:=Yt (fun q=>nomatch q)
def cX (prog:Program) (w:World):PySem.KeyKind prog w Key where
 is:=rW
 hash:=RI w
 inj:=fun v a b ha hb=>by
  rcases cM ha with⟨i,t,rfl,rfl⟩ | ⟨c,rfl,rfl⟩ | ⟨x,t,rfl,rfl⟩
  ·rcases cM hb with⟨j,u,rfl,e⟩ | ⟨c',rfl,e⟩ | ⟨y,u,rfl,e⟩
   ·injection e with e1 _;rw[e1]
   ·exact nomatch e
   ·exact nomatch e
  ·rcases cM hb with⟨j,u,rfl,e⟩ | ⟨c',rfl,e⟩ | ⟨y,u,rfl,e⟩
   ·exact nomatch e
   ·injection e with e1;rw[e1]
   ·exact nomatch e
  ·rcases cM hb with⟨j,u,rfl,e⟩ | ⟨c',rfl,e⟩ | ⟨y,u,rfl,e⟩
   ·exact nomatch e
   ·exact nomatch e
   ·injection e with e1 _;rw[e1]
 byValue:=fun k v h=>by
  rcases cM h with⟨i,t,rfl,rfl⟩ | ⟨c,rfl,rfl⟩ | ⟨x,t,rfl,rfl⟩ <;> rfl
 pyHash:=fun hv h=>by
  rcases cM hv with⟨i,t,rfl,rfl⟩ | ⟨c,rfl,rfl⟩ | ⟨x,t,rfl,rfl⟩
  ·exact wpAny_pyHash_int h
  ·exact qJ h
  ·exact wpAny_pyHash_str h
 eqBool:=fun hu hv h=>by
  rcases cM hu with⟨i,t,rfl,rfl⟩ | ⟨c,rfl,rfl⟩ | ⟨x,t,rfl,rfl⟩
  ·rcases cM hv with⟨j,u,rfl,rfl⟩ | ⟨c',rfl,rfl⟩ | ⟨y,u,rfl,rfl⟩
   ·rw[wk] at h;exact wpAny_eqBool_int h
   ·rw[wk] at h;exact aag i t c' _ _ _ _ h
   ·rw[Ed] at h;exact aap i t y u _ _ _ _ h
  ·rcases cM hv with⟨j,u,rfl,rfl⟩ | ⟨c',rfl,rfl⟩ | ⟨y,u,rfl,rfl⟩
   ·rw[wk] at h;exact aah c j u _ _ _ _ h
   ·have e:(bI c == bI c')=(c == c'):=by cases c <;> cases c' <;> rfl
    rw[wk,e] at h;exact Z5 c c' _ _ _ _ h
   ·rw[Ed] at h;exact aai c y u _ _ _ _ h
  ·rcases cM hv with⟨j,u,rfl,rfl⟩ | ⟨c',rfl,rfl⟩ | ⟨y,u,rfl,rfl⟩
   ·rw[Ef] at h;exact aaq x t j u _ _ _ _ h
   ·rw[Ef] at h;exact aaj x t c' _ _ _ _ h
   ·rw[K2] at h;exact wpAny_eqBool_str h
 «strs»:=fun k x t v h=>by
  rcases cM h with⟨i,u,rfl,e⟩ | ⟨c,rfl,e⟩ | ⟨y,u,rfl,e⟩
  ·exact nomatch e
  ·exact nomatch e
  ·injection e with e1 _
   subst e1
   cases v <;> rfl
def yi (prog:Program) (w:World) (i:Int) (t:Tok):(cX prog w).is (.inl i) (.int i t)=true:=CC i t
def lD (prog:Program) (w:World) (x:Str) (t:Tok):(cX prog w).is (.inr x) (.str x t)=true:=CD x t
inductive V where
 | cz | bl (b:Bool) | int (i:Int) | str (x:Str) | N4 (b:Array UInt8) | flt (b:UInt64) | ref (a:Addr) | ty (n:String)
 deriving DecidableEq
def RelV:V->Value->Prop
 | .cz,u=>u=Value.none
 | .bl b,u=>u=Value.bool b
 | .int i,u=>∃t,u=Value.int i t
 | .str x,u=>∃t,u=Value.str x t
 | .N4 b,u=>∃t,u=Value.bytes b t
 | .flt b,u=>∃t,u=Value.float b t
 | .ref a,u=>u=Value.ref a
 | .ty n,u=>u=Value.type n
abbrev Vals:List V->List Value->Prop:=Paired RelV
def Vals.length {xs:List V}{us:AAI}(r:Vals xs us):xs.length=us.length:=aav r
theorem Vals.get:∀{xs:List V}{us:AAI}{i:Nat}{x:V},Vals xs us->xs[i]? =some x->∃u,us[i]? =some u/\RelV x u
 | _,_,_,_,.nil,e=>by simp at e
 | _,_,0,_,.cons r _,e=>by simp at e;subst e;exact⟨_,rfl,r⟩
 | _,_,i+1,x,.cons _ t,e=>by
  obtain⟨u,h1,h2⟩:=Vals.get (i:=i) (x:=x) t (by simpa using e)
  exact⟨u,by simpa using h1,h2⟩
theorem Vals.set {x:V}{u:Value}(r:RelV x u):∀{xs:List V}{us:AAI}(i:Nat),Vals xs us->Vals (xs.set i x) (us.set i u)
 | _,_,_,.nil=>.nil
 | _,_,0,.cons _ t=>.cons r t
 | _,_,i+1,.cons q t=>.cons q (Vals.set r i t)
theorem Vals.append:∀{xs ys:List V}{us ws:AAI},Vals xs us->Vals ys ws->Vals (xs++ys) (us++ws)
 | _,_,_,_,.nil,s=>s
 | _,_,_,_,.cons r t,s=>.cons r (Vals.append t s)
theorem Vals.take:∀{xs:List V}{us:AAI}(n:Nat),Vals xs us->Vals (xs.take n) (us.take n)
 | _,_,0,_=>.nil
 | _,_,_+1,.nil=>.nil
 | _,_,n+1,.cons r t=>.cons r (Vals.take n t)
theorem Vals.drop:∀{xs:List V}{us:AAI}(n:Nat),Vals xs us->Vals (xs.drop n) (us.drop n)
 | _,_,0,r=>r
 | _,_,_+1,.nil=>.nil
 | _,_,n+1,.cons _ t=>Vals.drop n t
def pS:Option V->Option Value->Prop
 | some v,some u=>RelV v u
 | none,none=>True
 | _,_=>False
def KV {κ:Type}:List (κ×V)->List (κ×Value)->Prop:=Paired fun(p:κ×V) (q:κ×Value)=>p.1=q.1/\RelV p.2 q.2
noncomputable def kV:Key->V
 | .inl i=>.int i
 | .inr x=>.str x
inductive HO where
 | lst (xs:List V)
 | tup (xs:List V)
 | dK (kvs:List (Key×V)) | dT (kvs:List (D×V))
 | set (S:Int->Bool) (n:Nat)
 | ins (C dx:Addr) (fs:List (Str×V))
 | own (x:Addr)
 | nu (C dx:Addr) (fs:List (Str×V))
 | xd (fs:List (Str×V))
 | met (f x:Addr)
 | pT (lo hi:Int)
 | iN (o:Obj) (u:HO)
 | Kl (ps:AAH)
 | ext (φ:Heap->Prop)
abbrev Hp:=Addr->Option HO
mutual
inductive Rep (H:Hp):V->D->Prop
 | cz:Rep H .cz .cz
 | bl (b:Bool):Rep H (.bl b) (.bl b)
 | int (i:Int):Rep H (.int i) (.int i)
 | str (z:Str):Rep H (.str z) (.str z)
 | tup {a:Addr}{vs:List V}{ds:List D}(e:H a=some (.tup vs)) (r:bz H vs ds):Rep H (.ref a) (.tup ds)
 | lst {a:Addr}{vs:List V}{ds:List D}(e:H a=some (.lst vs)\/∃o,H a=some (.iN o (.lst vs))) (r:bz H vs ds):Rep H (.ref a) (.lst ds)
inductive bz (H:Hp):List V->List D->Prop
 | nil:bz H [] []
 | cons {v:V}{d:D}{vs:List V}{ds:List D}(r:Rep H v d) (rs:bz H vs ds):bz H (v :: vs) (d :: ds)
end
mutual
theorem Rep.tups {H H':Hp}(ht:∀b xs,H b=some (.tup xs)->H' b=some (.tup xs)):∀(d:D){n:Nat}{v:V},Rep H v d->gj n d=true->Rep H' v d
 | .cz,n,_,_,k=>by simp[gj] at k
 | .bl b,n,_,r,k=>by cases r;exact .bl b
 | .lst _,n,_,_,k=>by simp[gj] at k
 | .int i,n,_,r,k=>by cases r;exact .int i
 | .str i,n,_,r,k=>by cases r;exact .str i
 | .tup ds,n,_,r,k=>by
  cases n with
  | zero=>simp[gj] at k
  | succ n=>
   cases r with
   | @tup a vs _ e rs=>exact .tup (ht _ _ e) (bz.tups ht ds rs k)
theorem bz.tups {H H':Hp}(ht:∀b xs,H b=some (.tup xs)->H' b=some (.tup xs)):∀(ds:List D){n:Nat}{vs:List V},bz H vs ds->ds.all (gj n)=true->bz H' vs ds
 | [],n,_,r,k=>by cases r;exact .nil
 | d :: ds,n,_,r,k=>by
  rw[YU,Yr] at k
  cases r with
  | cons r1 r2=>exact .cons (Rep.tups ht d r1 k.1) (bz.tups ht ds r2 k.2)
end
def Kd (H:Hp) (b:Addr) (k:D):Prop:=∃d,Rep H (.ref b) d/\gj 8 d=true/\nf d=k
def Kd.tups {H H':Hp}{b:Addr}{k:D}(x:Kd H b k) (ht:∀b xs,H b=some (.tup xs)->H' b=some (.tup xs)):Kd H' b k:=by
 obtain⟨d,r,hk,e⟩:=x
 exact⟨d,Rep.tups ht d r hk,hk,e⟩
noncomputable def upd (H:Hp) (a:Addr) (o:HO):Hp:=fun b=>if b=a then some o else H b
def aH {o:HO}:upd H a o a=some o:=by unfold upd;rw[if_pos rfl]
def aE {b:Addr}{o:HO}(h:b≠a):upd H a o b=H b:=by unfold upd;rw[if_neg h]
def N5 {b:Addr}{o u:HO}(h:H a=some o) (h':H b=some u) (d:o≠u):a≠b:=by
 intro e;subst e;rw[h] at h';exact d (Yn h')
def bR {b:Addr}{o:HO}(h:H a=some o) (h':H b=none):a≠b:=by
 intro e;subst e;rw[h] at h';cases h'
section
variable (P:Program) (w:World)
def c7 (H:Hp) (h:Heap) (a:Addr):HO->Prop
 | .lst xs=>xs.length<=sizeLine/\∃(its:AAI) (n:Nat),Vals xs its/\h.get? a=some {cls:=.type "list",data:=.seq its.toArray n}
 | .tup xs=>xs.length<=sizeLine/\∃its:List Value,Vals xs its/\IsTup h a its.toArray
 | .dK kvs=>kvs.length<=sizeLine/\(a == sysModules)=false/\∃vs,KV kvs vs/\h.DictOf (cX P w) a vs
 | .dT kvs=>kvs.length<=sizeLine/\(a == sysModules)=false/\∃xs:List (D×Addr×Value),
   Paired (fun(p:D×V) (q:D×Addr×Value)=>p.1=q.1/\Kd H q.2.1 p.1/\RelV p.2 q.2.2) kvs xs/\
   ∃o es ep,h.get? a=some o/\o.ExactDict/\o.data= .dict es ep/\es.toList=xs.map (entryOfKey (jX P w))/\(xs.map (·.1)).Nodup
 | .set S n=>h.SetOf (intKind P w) a S n
 | .ins C dx fs=>H dx=some (.own a)/\fs.length<=1000/\dx≠a/\h.get? a=some (PySem.W.instObj C dx)/\
   ∃mA,h.Ns1 dx mA/\(∀f,pS (fs.lookup f) (mA f))/\PySem.Within mA (fs.map (·.1))
 | .nu C dx fs=>H dx=some (.own a)/\fs.length<=1000/\dx≠a/\(∃oe vs,h.get? a=some oe/\oe.cls= .ref C/\oe.dict=some dx/\oe.data= .fields vs)/\∃mA,h.Ns1 dx mA/\(∀f,pS (fs.lookup f) (mA f))/\PySem.Within mA (fs.map (·.1))
 | .own _=>∃o,h.get? a=some o
 | .xd fs=>∃mA,h.Ns1 a mA/\(∀f,pS (fs.lookup f) (mA f))/\PySem.Within mA (fs.map (·.1))
 | .pT lo hi=>∃t u v,h.get? a=some {cls:=.type "range",data:=.fields #[.int lo t,.int hi u,.int 1 v]}
 | .iN o u=>h.get? a=some o/\c7 H h a u
 | .Kl ps=>h.get? a=some {cls:=.none,data:=.fields ps}
 | .met f x=>h.get? a=some (PySem.W.methodObj (.ref f) (.ref x))
 | .ext φ=>φ h/\(∃o,h.get? a=some o)/\∀h1 h2:Heap,φ h1->(∀o,h1.get? a=some o->h2.get? a=some o)->φ h2
def kr (H:Hp) (h:Heap):Prop:=∀a o,H a=some o->c7 P w H h a o
end
section
variable {P:Program}{w:World}{H H':Hp}{h h':Heap}{a:Addr}{o:HO}
def c7.lt (x:c7 P w H h a o):a < h.objs.size:=by
 cases o with
 | lst xs=>obtain⟨_,_,_,_,e⟩:=x;exact X5 e
 | tup xs=>obtain⟨_,_,_,p⟩:=x;exact p.lt
 | dK kvs=>obtain⟨_,_,_,_,o,_,_,e,_⟩:=x;exact X5 e
 | dT kvs=>obtain⟨_,_,_,_,o,_,_,e,_⟩:=x;exact X5 e
 | set S n=>obtain⟨o,_,_,_,e,_⟩:=x;exact X5 e
 | ins C dx fs=>obtain⟨_,_,_,e,_⟩:=x;exact X5 e
 | nu C dx fs=>obtain⟨_,_,_,⟨_,_,e,_⟩,_⟩:=x;exact X5 e
 | own y=>obtain⟨_,e⟩:=x;exact X5 e
 | xd fs=>obtain⟨_,⟨_,_,_,e,_⟩,_⟩:=x;exact X5 e
 | pT lo hi=>obtain⟨_,_,_,e⟩:=x;exact X5 e
 | iN ob u=>obtain⟨e,_⟩:=x;exact X5 e
 | Kl ps=>exact X5 (show h.get? a=some _ from x)
 | met f y=>exact X5 (show h.get? a=some _ from x)
 | ext φ=>obtain⟨_,⟨_,e⟩,_⟩:=x;exact X5 e
theorem Paired.CF {α β:Type}{F G:α->β->Prop}:∀{l₁:List α}{l₂:List β},Paired F l₁ l₂->(∀a b,F a b->G a b)->Paired G l₁ l₂
 | _,_,.nil,_=>.nil
 | _,_,.cons r t,f=>.cons (f _ _ r) (Paired.CF t f)
def c7.stay (x:c7 P w H h a o) (k:∀b u,(b=a\/H b=some (.own a))->h.get? b=some u->h'.get? b=some u)
  (ho:∀b,H b=some (.own a)->H' b=some (.own a)) (ht:∀b xs,H b=some (.tup xs)->H' b=some (.tup xs)):c7 P w H' h' a o:=by
 induction o with
 | lst xs=>obtain⟨z,its,n,r,e⟩:=x;exact⟨z,its,n,r,k _ _ (.inl rfl) e⟩
 | tup xs=>obtain⟨z,its,r,ob,e,c⟩:=x;exact⟨z,its,r,ob,k _ _ (.inl rfl) e,c⟩
 | dK kvs=>obtain⟨z,y,vs,r,ob,es,ep,e,c⟩:=x;exact⟨z,y,vs,r,ob,es,ep,k _ _ (.inl rfl) e,c⟩
 | dT kvs=>
  obtain⟨z,y,xs,r,ob,es,ep,e,c⟩:=x
  exact⟨z,y,xs,Paired.CF r fun p q z=>⟨z.1,z.2.1.tups ht,z.2.2⟩,ob,es,ep,k _ _ (.inl rfl) e,c⟩
 | set S n=>obtain⟨ob,es,ep,t,e,c⟩:=x;exact⟨ob,es,ep,t,k _ _ (.inl rfl) e,c⟩
 | ins C dx fs=>
  obtain⟨d,z,ne,e,mA,⟨od,es,ep,e2,c⟩,r⟩:=x
  exact⟨ho _ d,z,ne,k _ _ (.inl rfl) e,mA,⟨od,es,ep,k _ _ (.inr d) e2,c⟩,r⟩
 | nu C dx fs=>
  obtain⟨d,z,ne,⟨oe,vs,e,r1⟩,mA,⟨od,es,ep,e2,c⟩,r⟩:=x
  exact⟨ho _ d,z,ne,⟨oe,vs,k _ _ (.inl rfl) e,r1⟩,mA,⟨od,es,ep,k _ _ (.inr d) e2,c⟩,r⟩
 | own y=>obtain⟨ob,e⟩:=x;exact⟨ob,k _ _ (.inl rfl) e⟩
 | xd fs=>obtain⟨mA,⟨od,es,ep,e,c⟩,r⟩:=x;exact⟨mA,⟨od,es,ep,k _ _ (.inl rfl) e,c⟩,r⟩
 | pT lo hi=>obtain⟨t,u,v,e⟩:=x;exact⟨t,u,v,k _ _ (.inl rfl) e⟩
 | iN ob u ih=>obtain⟨e,q⟩:=x;exact⟨k _ _ (.inl rfl) e,ih q⟩
 | Kl ps=>
  have e:h.get? a=some {cls:=.none,data:=.fields ps}:=x
  show h'.get? a=some {cls:=.none,data:=.fields ps}
  exact k a _ (.inl rfl) e
 | met f y=>
  have e:h.get? a=some (PySem.W.methodObj (.ref f) (.ref y)):=x
  show h'.get? a=some (PySem.W.methodObj (.ref f) (.ref y))
  exact k a _ (.inl rfl) e
 | ext φ=>obtain⟨p,⟨o,e⟩,st⟩:=x;exact⟨st _ _ p fun o q=>k _ _ (.inl rfl) q,⟨o,k _ _ (.inl rfl) e⟩,st⟩
def kr.lt (x:kr P w H h) (e:H a=some o):a < h.objs.size:=(x a o e).lt
def kr.fresh (x:kr P w H h) (e:h.objs.size<=a):H a=none:=by
 cases q:H a with
 | none=>rfl
 | some u=>exact absurd (X7 (x.lt q) e) (YE _)
def kr.kept (x:kr P w H h) (k:∀b u,h.get? b=some u->h'.get? b=some u):kr P w H h':=fun a o e=>
 (x a o e).stay (fun b u _ q=>k b u q) (fun _ q=>q) fun _ _ q=>q
def kr.laid (x:kr P w H h) (k:∀b u,h.get? b=some u->h'.get? b=some u) (hp:h.objs.size<=a) (new:c7 P w (upd H a o) h' a o):kr P w (upd H a o) h':=fun b u e=>by
 have hn:=x.fresh hp
 by_cases hb:b=a
 ·subst hb;rw[aH] at e;cases e;exact new
 ·rw[aE hb] at e
  exact(x b u e).stay (fun c v _ q=>k c v q) (fun c q=>by rw[aE (bR q hn)];exact q) fun c xs q=>by rw[aE (bR q hn)];exact q
end
def Rd (H:Hp) (a:Addr) (u:HO):Prop:=H a=some u\/∃o,H a=some (.iN o u)
def Rd.of {u:HO}(h:H a=some u):Rd H a u:=.inl h
def Rd.ok {h:Heap}{u:HO}(r:Rd H a u) (x:kr P w H h):c7 P w H h a u:=by
 rcases r with r | ⟨o,r⟩
 ·exact x a u r
 ·obtain⟨_,q⟩:=x a _ r
  exact q
def N6:Option HO->Prop
 | some (.lst _)=>True
 | some (.dK _)=>True
 | some (.dT _)=>True
 | some (.set _ _)=>True
 | some (.ins _ _ _)=>True
 | some (.nu _ _ _)=>True
 | some (.xd _)=>True
 | some (.ext _)=>True
 | _=>False
section
variable {P:Program}{w:World}{H:Hp}{h h':Heap}{x e:Addr}{o':HO}
def kr.write (ok:kr P w H h) (mu:N6 (H x)) (he:e=x\/H e=some (.own x)) (k:∀b u,b≠e->h.get? b=some u->h'.get? b=some u) (Nr:∃u,h'.get? e=some u)
  (new:c7 P w (upd H x o') h' x o'):kr P w (upd H x o') h':=fun b u q=>by
 have N7:∀c y,H c=some (.own y)->c≠x:=fun c y r z=>by subst z;rw[r] at mu;exact mu
 have RJ:∀c xs,H c=some (.tup xs)->c≠x:=fun c xs r z=>by subst z;rw[r] at mu;exact mu
 by_cases hb:b=x
 ·subst hb;rw[aH] at q;cases q;exact new
 ·rw[aE hb] at q
  by_cases By:b=e
  ·have q':H b=some (.own x):=by
    rcases he with z | z
    ·exact absurd (By.trans z) hb
    ·rw[By];exact z
   rw[q] at q';cases q'
   obtain⟨v,hv⟩:=Nr
   exact⟨v,by rw[By];exact hv⟩
  ·refine(ok b u q).stay (fun c v hc r=>k c v ?_ r) (fun c r=>by rw[aE (N7 c b r)];exact r) fun c xs r=>by rw[aE (RJ c xs r)];exact r
   rcases hc with rfl | hc
   ·exact By
   ·rintro rfl
    rcases he with z | z
    ·exact N7 c b hc z
    ·rw[hc] at z;cases z;exact hb rfl
end
structure Un (fs ex:List Addr) (H H':Hp) (h h':Heap):Prop where
 keep:∀b o,h.get? b=some o->H b=none->b∉fs->b∉ex->h'.get? b=some o
 slot:∀b o,h.get? b=some o->H b=none->b∈fs->b∉ex->∃sl,h'.get? b=some {o with slots:=sl}
 free:∀b o,h.get? b=some o->H b=none->b∉ex->H' b=none
 there:∀b o,h.get? b=some o->b∉ex->∃o',h'.get? b=some o'
 tups:∀b xs,H b=some (.tup xs)->H' b=some (.tup xs)
 qZ:∀b o u,H b=some (.iN o u)->H' b=some (.iN o u)
 rX:∀b ps,H b=some (.Kl ps)->∃more,H' b=some (.Kl (ps++more))
section
variable {fs fs' ex ex':List Addr}{H H1 H2:Hp}{h h1 h2 h':Heap}{a x e:Addr}{o:HO}
def Un.any (u:Un fs ex H H1 h h1){b:Addr}{ob:Obj}(q:h.get? b=some ob) (n:H b=none) (hx:b∉ex):∃sl,h1.get? b=some {ob with slots:=sl}:=by
 by_cases hb:b∈fs
 ·exact u.slot b ob q n hb hx
 ·exact⟨ob.slots,u.keep b ob q n hb hx⟩
def Un.kept (k:∀b u,h.get? b=some u->h'.get? b=some u):Un fs ex H H h h':=
 ⟨fun b ob q _ _ _=>k b ob q,fun b ob q _ _ _=>⟨ob.slots,k b ob q⟩,fun _ _ _ n _=>n,fun b ob q _=>⟨ob,k b ob q⟩,fun _ _ q=>q,fun _ _ _ q=>q,fun _ ps q=>⟨#[],by rw[q];simp⟩⟩
def Un.refl:Un fs ex H H h h:=Un.kept fun _ _ q=>q
def Un.laid (k:∀b u,h.get? b=some u->h'.get? b=some u) (hp:h.objs.size<=a) (hn:H a=none):Un fs ex H (upd H a o) h h' where
 keep:=fun b u q _ _ _=>k b u q
 slot:=fun b u q _ _ _=>⟨u.slots,k b u q⟩
 free:=fun b u q n _=>by rw[aE (Ym (X7 (X5 q) hp))];exact n
 there:=fun b u q _=>⟨u,k b u q⟩
 tups:=fun b xs q=>by rw[aE (bR q hn)];exact q
 qZ:=fun b u xs q=>by rw[aE (bR q hn)];exact q
 rX:=fun b ps q=>⟨#[],by rw[aE (bR q hn),q];simp⟩
def Un.write (mu:N6 (H x)) (he:e=x\/H e=some (.own x)) (k:∀b u,b≠e->h.get? b=some u->h'.get? b=some u) (Nr:∃u,h'.get? e=some u):Un fs ex H (upd H x o) h h':=by
 have hx:∀b,H b=none->b≠x:=fun b n z=>by subst z;rw[n] at mu;exact mu
 have hb:∀b,H b=none->b≠e:=fun b n z=>by
  subst z
  rcases he with r | r
  ·exact hx b n r
  ·rw[n] at r;cases r
 have hm:∀b u,H b=some u->¬N6 (some u)->b≠x:=fun b u q nm z=>by subst z;rw[q] at mu;exact nm mu
 refine⟨fun b u q n _ _=>k b u (hb b n) q,fun b u q n _ _=>⟨u.slots,k b u (hb b n) q⟩,fun b u q n _=>by rw[aE (hx b n)];exact n,fun b u q _=>?_,
  fun b xs q=>by rw[aE (hm b _ q fun z=>z)];exact q,fun b u xs q=>by rw[aE (hm b _ q fun z=>z)];exact q,fun b ps q=>⟨#[],by rw[aE (hm b _ q fun z=>z),q];simp⟩⟩
 by_cases By:b=e
 ·subst By;exact Nr
 ·exact⟨u,k b u By q⟩
end
noncomputable def Qz (h:Heap) (H:Hp):List Addr:=(List.range h.objs.size).filter fun a=>(H a).isSome
def wm (h:Heap) (H:Hp):Heap:=PySem.W.hideAll h (Qz h H)
def CG (h:Heap) (H:Hp):(wm h H).objs.size=h.objs.size:=PySem.W.hideAll_size _ _
def Eg {h:Heap}{b:Addr}(e:h.get? b=some o) (n:H b=none):(wm h H).get? b=some o:=
 PySem.W.hideAll_get _ e fun hm=>by
  have q:(H b).isSome=true:=(List.mem_filter.mp hm).2
  rw[n] at q;simp at q
def HM {h:Heap}{b:Addr}(e:(wm h H).get? b=some o):h.get? b=some o/\H b=none:=by
 have e':h.get? b=some o:=PySem.W.of_hideAll (Qz h H) e
 refine⟨e',?_⟩
 cases q:H b with
 | none=>rfl
 | some x=>
  have hm:b∈Qz h H:=List.mem_filter.mpr ⟨YV.mpr (X5 e'),by simp[q]⟩
  have z:(wm h H).get? b=none:=PySem.W.hideAll_none (Qz h H) hm
  rw[z] at e;cases e
noncomputable def HN (g h:Heap) (L:Addr):List (Addr×Obj):=(List.range h.objs.size).filterMap fun a=>if a=L\/(g.get? a).isSome=true then none else(h.get? a).map fun o=>(a,o)
def rest (g h:Heap) (L d:Addr):List (Addr×Obj):=(HN g h L).filter fun p=>decide (p.1≠d)
structure Mod (K:AAA) (mg:AAC) (base:Heap):Prop where
 Nt:K.In base
 glob:base.Ns mainGlobals mg
 blt:∃mb,base.Ns builtinsNs mb/\∀x:Str,x≠"__name__"->mb x=bootBuiltins x
 nolimit:base.NoLimit
structure Cx where
 prog:Program
 w:World
 K:PySem.W.Frag
 mg:Str->Option Value
 base:Heap
 A:Around
 N:List Str
 s₀:Shared
 H₀:Hp
 env:Env
 outer:List Env
 stack:List Env
 ex:List Addr
 fn:Str->Bool
 calm:Bool
 pn:List (Addr×Obj)
 xe:Value->Shared->Prop
noncomputable def frs (l:List Env):List Addr:=l.filterMap (·.frame)
abbrev Cx.fs (X:Cx):List Addr:=frs X.outer
def wu (sc:Scope) (x:Str):Prop:=sc.names.lookup x=some .local\/sc.names.lookup x=some .cell\/sc.names.lookup x=some .free
def Loc (sc:Scope) (x:Str):Prop:=sc.names.lookup x=some .local\/sc.names.lookup x=some .cell
def Look (env:Env) (h:Heap) (m:AAC) (x:Str) (u:Value):Prop:=
 (env.kindOf x=some .local/\m x=some u)\/((env.kindOf x=some .cell\/env.kindOf x=some .free)/\∃c,env.cells.lookup x=some c/\h.IsCell c (some u))
structure Cx.Ok (X:Cx):Prop where
 mod:Mod X.K X.mg X.base
 kind:X.env.scope.kind= .function
 glob:X.env.globals=mainGlobals
 blt:X.env.builtins=builtinsNs
 above:X.s₀.heap.objs.size<=X.env.locals
 inj:∀x y c,X.env.cells.lookup x=some c->X.env.cells.lookup y=some c->x=y
 has:∀x,(X.env.kindOf x=some .cell\/X.env.kindOf x=some .free)->∃c,X.env.cells.lookup x=some c
 Km:∀x c,X.fn x=true->X.env.cells.lookup x=some c->X.s₀.heap.objs.size<=c
 hd:X.calm=true->X.A.handled=none
 frames:X.A.frames=some X.stack
 stk:X.stack=X.outer\/(X.stack=X.env :: X.outer/\X.env.frame=some X.env.locals)
 Nu:∀b∈X.ex,b≠X.env.locals/\∀x c,X.env.cells.lookup x=some c->c≠b
 bs:∀b o,X.base.get? b=some o->X.s₀.heap.get? b=some o/\X.H₀ b=none
 BA:X.base.objs.size<=X.s₀.heap.objs.size
 wA:∀b o,X.base.get? b=some o->b∉X.ex
 yj:∀b∈X.ex,b∉X.fs
 nM:X.s₀.heap.FunFrames X.base X.outer
 Hz:∀b∈X.fs,X.H₀ b=none
structure Inv (X:Cx) (pins:AAD) (σ:List (Option V)) (H:Hp) (s:Shared):Prop where
 ok:X.Ok
 os:s.os=X.s₀.os
 bare:AllBare s.gens
 base:Un X.fs X.ex X.H₀ H X.s₀.heap s.heap
 loc:∃m,s.heap.Ns X.env.locals m/\∀(i:Nat) (x:Str) (v:V),X.N[i]? =some x->σ[i]? =some (some v)->wu X.env.scope x->∃u,RelV v u/\Look X.env s.heap m x u
 cell:∀x c,X.env.cells.lookup x=some c->∃v,s.heap.IsCell c v
 free:H X.env.locals=none
 iO:∀x c,X.env.cells.lookup x=some c->H c=none
 pin:∀p∈X.pn++pins,s.heap.get? p.1=some p.2/\H p.1=none/\p.1≠X.env.locals/\p.1∉X.fs/\∀v,p.2.data≠.cell v
 hok:kr X.prog X.w H s.heap
 len:σ.length=X.N.length
section
variable {X:Cx}{pins:AAD}{σ:List (Option V)}{H H':Hp}{s:Shared}{h':Heap}
def Cx.Ok.i9 (ok:X.Ok){b:Addr}(e:X.base.get? b=some o):b∉X.fs:=fun hb=>by
 have:=(ok.nM.mem hb).1
 rw[e] at this;cases this
def Inv.bs (I:Inv X pins σ H s):∀b o,X.base.get? b=some o->s.heap.get? b=some o/\H b=none:=fun b o e=>
 ⟨I.base.keep b o (I.ok.bs b o e).1 (I.ok.bs b o e).2 (I.ok.i9 e) (I.ok.wA b o e),I.base.free b o (I.ok.bs b o e).1 (I.ok.bs b o e).2 (I.ok.wA b o e)⟩
def Inv.bk (I:Inv X pins σ H s):∀b o,X.base.get? b=some o->s.heap.get? b=some o:=fun b o e=>(I.bs b o e).1
def Inv.mod (I:Inv X pins σ H s):Mod X.K X.mg X.base:=I.ok.mod
def Inv.qK (I:Inv X pins σ H s):X.K.In s.heap:=I.ok.mod.Nt.keeps I.bk
def Inv.lt (I:Inv X pins σ H s):X.env.locals < s.heap.objs.size:=let⟨_,hn,_⟩:=I.loc;hn.lt
def Inv.sz (I:Inv X pins σ H s):X.s₀.heap.objs.size<=s.heap.objs.size:=Yc I.ok.above (Z7 I.lt)
def Inv.N8 (I:Inv X pins σ H s)(h:s.heap.objs.size<=a):a∉X.fs:=fun hb=>by
 obtain⟨_,o,ho,_⟩:=I.ok.nM.mem hb
 exact absurd (X7 (X5 ho) (Yc I.sz h)) (YE _)
def Inv.HP (I:Inv X pins σ H s):∀x c,X.env.cells.lookup x=some c->c≠X.env.locals:=fun x c e z=>by
 obtain⟨v,o,ho,hd⟩:=I.cell x c e
 obtain⟨m,⟨o',es,ep,ho',hd',_⟩,_⟩:=I.loc
 rw[z,ho'] at ho;cases ho;rw[hd'] at hd;cases hd
def Inv.nM (I:Inv X pins σ H s):s.heap.FunFrames X.base X.outer:=by
 have all:∀(l:List Env),(∀b∈frs l,b∈X.fs)->X.s₀.heap.FunFrames X.base l->s.heap.FunFrames X.base l:=by
  intro l
  induction l with
  | nil=>intro _ _;trivial
  | cons env r ih=>
   intro hs hl
   obtain⟨hk,⟨L,o,hf,hn,ho,hd⟩,hr⟩:=hl
   have hL:L∈X.fs:=hs L (by unfold frs;rw[Zo,hf];exact Yg)
   obtain⟨sl,e⟩:=I.base.slot L o ho (I.ok.Hz L hL) hL fun z=>I.ok.yj L z hL
   exact⟨hk,⟨L,_,hf,hn,e,hd⟩,ih (fun b hb=>hs b (by unfold frs;rw[Zo,hf];exact Yb _ hb)) hr⟩
 exact all X.outer (fun _ hb=>hb) I.ok.nM
def Inv.stack (I:Inv X pins σ H s):s.heap.FunFrames X.base X.stack:=by
 rcases I.ok.stk with e | ⟨e,hf⟩
 ·rw[e];exact I.nM
 ·rw[e]
  obtain⟨m,hn,_⟩:=I.loc
  refine .cons (by rw[I.ok.kind];decide) hf hn ?_ I.nM
  exact Z8 (Yc I.ok.BA I.ok.above)
def Inv.rY (I:Inv X pins σ H s):∀b∈frs X.stack,b∈X.env.locals :: X.fs:=fun b hb=>by
 rcases I.ok.stk with e | ⟨e,hf⟩
 ·rw[e] at hb;exact Yb _ hb
 ·rw[e] at hb
  unfold frs at hb
  rw[Zo,hf] at hb
  exact hb
def Inv.kC (I:Inv X pins σ H s):∀b∈frs X.stack,H b=none:=fun b hb=>by
 rcases Yi.mp (I.rY b hb) with e | hb
 ·rw[e];exact I.free
 ·obtain⟨_,o,ho,_⟩:=I.ok.nM.mem hb
  exact I.base.free b o ho (I.ok.Hz b hb) fun z=>I.ok.yj b z hb
def Inv.step {d':Drawn}(I:Inv X pins σ H s)
  (hch:∀b∈ch,(b∈X.ex\/X.s₀.heap.objs.size<=b)/\b≠X.env.locals/\(∀x c,X.env.cells.lookup x=some c->c≠b)/\∀p∈X.pn++pins,p.1≠b)
  (keep:∀b o,b≠X.env.locals->b∉X.fs->b∉ch->s.heap.get? b=some o->H b=none->h'.get? b=some o)
  (slot:∀b o,b≠X.env.locals->b∈X.fs->b∉ch->s.heap.get? b=some o->H b=none->∃sl,h'.get? b=some {o with slots:=sl}) (free:∀b o,b∉ch->s.heap.get? b=some o->H b=none->H' b=none)
  (there:∀b o,b∉ch->s.heap.get? b=some o->∃o',h'.get? b=some o')
  (tups:∀b xs,H b=some (.tup xs)->H' b=some (.tup xs)) (qZ:∀b o u,H b=some (.iN o u)->H' b=some (.iN o u)) (rX:∀b ps,H b=some (.Kl ps)->∃more,H' b=some (.Kl (ps++more)))
  (ns:∀m,s.heap.Ns X.env.locals m->h'.Ns X.env.locals m) (hok:kr X.prog X.w H' h') (hg:AllBare g'):
  Inv X pins σ H' {s with heap:=h',gens:=g',drawn:=d',toks:=t'}:=by
 have Nv:∀b o,X.s₀.heap.get? b=some o->b≠X.env.locals:=fun b o e=>Ym (X7 (X5 e) I.ok.above)
 have QA:∀b o,X.s₀.heap.get? b=some o->b∉X.ex->b∉ch:=fun b o e hx hb=>by
  rcases(hch b hb).1 with z | z
  ·exact hx z
  ·exact absurd (X7 (X5 e) z) (YE _)
 have cellK:∀x c,X.env.cells.lookup x=some c->∀v,s.heap.IsCell c v->h'.IsCell c v:=fun x c e v ⟨o,ho,hd⟩=>by
  have N9:c∉ch:=fun z=>(hch c z).2.2.1 x c e rfl
  by_cases hc:c∈X.fs
  ·obtain⟨sl,q⟩:=slot c o (I.HP x c e) hc N9 ho (I.iO x c e)
   exact⟨_,q,hd⟩
  ·exact⟨o,keep c o (I.HP x c e) hc N9 ho (I.iO x c e),hd⟩
 refine⟨I.ok,I.os,hg,⟨fun b o e n hb hx=>?_,fun b o e n hb hx=>?_,fun b o e n hx=>?_,fun b o e hx=>?_,fun b xs e=>tups b xs (I.base.tups b xs e),fun b o xs e=>qZ b o xs (I.base.qZ b o xs e),fun b ps e=>?_⟩,?_,fun x c e=>?_,?_,fun x c e=>?_,fun p hp=>?_,hok,I.len⟩
 ·exact keep b o (Nv b o e) hb (QA b o e hx) (I.base.keep b o e n hb hx) (I.base.free b o e n hx)
 ·obtain⟨sl,e1⟩:=I.base.slot b o e n hb hx
  obtain⟨RK,e2⟩:=slot b _ (Nv b o e) hb (QA b o e hx) e1 (I.base.free b o e n hx)
  exact⟨RK,e2⟩
 ·obtain⟨o',e1⟩:=I.base.there b o e hx
  exact free b o' (QA b o e hx) e1 (I.base.free b o e n hx)
 ·obtain⟨o',e1⟩:=I.base.there b o e hx
  exact there b o' (QA b o e hx) e1
 ·obtain⟨m1,e1⟩:=I.base.rX b ps e
  obtain⟨m2,e2⟩:=rX b _ e1
  exact⟨m1++m2,by rw[e2,Array.append_assoc]⟩
 ·obtain⟨m,hn,hl⟩:=I.loc
  refine⟨m,ns m hn,fun i x v e1 e2 e3=>?_⟩
  obtain⟨u,r,l⟩:=hl i x v e1 e2 e3
  refine⟨u,r,?_⟩
  rcases l with l | ⟨k,c,e,z⟩
  ·exact .inl l
  ·exact .inr ⟨k,c,e,cellK x c e _ z⟩
 ·obtain⟨v,z⟩:=I.cell x c e
  exact⟨v,cellK x c e v z⟩
 ·obtain⟨m,⟨o,_,_,ho,_⟩,_⟩:=I.loc
  exact free _ o (fun z=>(hch _ z).2.1 rfl) ho I.free
 ·obtain⟨v,o,ho,hd⟩:=I.cell x c e
  exact free c o (fun z=>(hch c z).2.2.1 x c e rfl) ho (I.iO x c e)
 ·obtain⟨e,n,ne,nf,d⟩:=I.pin p hp
  have N9:p.1∉ch:=fun z=>(hch p.1 z).2.2.2 p hp rfl
  exact⟨keep p.1 p.2 ne nf N9 e n,free p.1 p.2 N9 e n,ne,nf,d⟩
def Inv.un (I:Inv X pins σ H s) (u:Un X.fs [] H H' s.heap h') (hok:kr X.prog X.w H' h'):Inv X pins σ H' {s with heap:=h',toks:=t'}:=by
 obtain⟨m,⟨o,es,ep,ho,r⟩,_⟩:=id I.loc
 obtain⟨sl,hL⟩:=u.any ho I.free (by simp)
 exact I.step (g':=s.gens) (d':=s.drawn) (ch:=[]) (fun _ z=>nomatch z) (fun b o _ hb _ e n=>u.keep b o e n hb (by simp)) (fun b o _ hb _ e n=>u.slot b o e n hb (by simp)) (fun b o _ e n=>u.free b o e n (by simp)) (fun b o _ e=>u.there b o e (by simp)) u.tups u.qZ u.rX (fun m' hm=>by
  obtain⟨o',es',RL,ho',r'⟩:=hm
  rw[ho] at ho';cases ho'
  exact⟨_,es',RL,hL,r'⟩) hok I.bare
def Inv.call {d':Drawn}(I:Inv X pins σ H s) (u:Un (frs X.stack) ch H H' s.heap h') (hok:kr X.prog X.w H' h') (hg:AllBare g')
  (hch:∀b∈ch,(b∈X.ex\/X.s₀.heap.objs.size<=b)/\b≠X.env.locals/\(∀x c,X.env.cells.lookup x=some c->c≠b)/\∀p∈X.pn++pins,p.1≠b):
  Inv X pins σ H' {s with heap:=h',gens:=g',drawn:=d',toks:=t'}:=by
 obtain⟨m,⟨o,es,ep,ho,r⟩,_⟩:=id I.loc
 obtain⟨sl,hL⟩:=u.any ho I.free fun z=>(hch _ z).2.1 rfl
 exact I.step (ch:=ch) hch (fun b o hL hb hc e n=>u.keep b o e n (fun z=>(Yi.mp (I.rY b z)).elim hL hb) hc) (fun b o _ _ hc e n=>u.any e n hc) (fun b o hc e n=>u.free b o e n hc) (fun b o hc e=>u.there b o e hc) u.tups u.qZ u.rX (fun m' hm=>by
  obtain⟨o',es',RL,ho',r'⟩:=hm
  rw[ho] at ho';cases ho'
  exact⟨_,es',RL,hL,r'⟩) hok hg
def Inv.turned {it:Addr}(I:Inv X pins σ H s) (k:∀b o,b≠it->s.heap.get? b=some o->h'.get? b=some o) (hn:H it=none) (hL:it≠X.env.locals)
  (h1:it∈X.ex\/X.s₀.heap.objs.size<=it) (h2:∀x c,X.env.cells.lookup x=some c->c≠it) (h3:∀p∈X.pn++pins,p.1≠it):Inv X pins σ H {s with heap:=h',toks:=t'}:=by
 have Oa:∀b u,H b=some u->b≠it:=fun b u e z=>by rw[z,hn] at e;cases e
 refine I.step (g':=s.gens) (d':=s.drawn) (ch:=[it]) (fun b hb=>?_) (fun b o _ _ hc e _=>k b o (fun z=>hc (by simp[z])) e) (fun b o _ _ hc e _=>⟨o.slots,k b o (fun z=>hc (by simp[z])) e⟩) (fun _ _ _ _ n=>n)
  (fun b o hc e=>⟨o,k b o (fun z=>hc (by simp[z])) e⟩) (fun _ _ e=>e) (fun _ _ _ e=>e) (fun b ps e=>⟨#[],by rw[e];simp⟩) (fun m hm=>?_) (fun b u e=>?_) I.bare
 ·have e:b=it:=by simpa using hb
  subst e
  exact⟨h1,hL,h2,h3⟩
 ·obtain⟨o,es,ep,ho,r⟩:=hm
  exact⟨o,es,ep,k _ o (Y8 hL) ho,r⟩
 ·refine(I.hok b u e).stay (fun c v hc q=>k c v ?_ q) (fun _ q=>q) fun _ _ q=>q
  rcases hc with z | z
  ·rw[z];exact Oa b u e
  ·exact Oa c _ z
def Inv.tok (I:Inv X pins σ H s) (t:Nat):Inv X pins σ H {s with toks:=t}:=I.un (h':=s.heap) (t':=t) Un.refl I.hok
def Inv.kept {t':Nat}(I:Inv X pins σ H s) (k:∀b u,s.heap.get? b=some u->h'.get? b=some u):Inv X pins σ H {s with heap:=h',toks:=t'}:=I.un (Un.kept k) (I.hok.kept k)
def Inv.laid {a:Addr}{o:HO}{t':Nat}(I:Inv X pins σ H s) (k:∀b u,s.heap.get? b=some u->h'.get? b=some u) (hp:s.heap.objs.size<=a) (new:c7 X.prog X.w (upd H a o) h' a o):
  Inv X pins σ (upd H a o) {s with heap:=h',toks:=t'}:=I.un (Un.laid k hp (I.hok.fresh hp)) (I.hok.laid k hp new)
def Inv.write {x e:Addr}{o:HO}{t':Nat}(I:Inv X pins σ H s) (mu:N6 (H x)) (he:e=x\/H e=some (.own x)) (k:∀b u,b≠e->s.heap.get? b=some u->h'.get? b=some u) (Nr:∃u,h'.get? e=some u)
  (new:c7 X.prog X.w (upd H x o) h' x o):Inv X pins σ (upd H x o) {s with heap:=h',toks:=t'}:=I.un (Un.write mu he k Nr) (I.hok.write mu he k Nr new)
def Inv.BB {Kn:AAD}(I:Inv X pins σ H s) (h:∀p∈Kn,s.heap.get? p.1=some p.2/\H p.1=none/\p.1≠X.env.locals/\p.1∉X.fs/\∀v,p.2.data≠.cell v):Inv X Kn σ H s:=
 ⟨I.ok,I.os,I.bare,I.base,I.loc,I.cell,I.free,I.iO,fun p hp=>(YN.mp hp).elim (fun z=>I.pin p (YW _ z)) (h p),I.hok,I.len⟩
def rZ (hN:N.Nodup){j:Nat}(a:N[i]? =some x) (b:N[j]? =some x):i=j:=by
 obtain⟨h1,e1⟩:=Ye.mp a
 obtain⟨h2,e2⟩:=Ye.mp b
 exact(List.getElem_inj hN).mp (e1.trans e2.symm)
def CH {v:V}{Q:Unit->Shared->Prop}(I:Inv X pins σ H s) (hN:X.N.Nodup) (hi:X.N[i]? =some x) (hx:Loc X.env.scope x) (r:RelV v u)
  (h:∀s',Inv X pins (σ.set i (some v)) H s'->(∃a,Heap.SameBut a s.heap s'.heap/\(a=X.env.locals\/X.env.cells.lookup x=some a))->Q () s') (hf:X.fn x=true\/X.env.scope.names.lookup x=some .local:=by first | exact .inl rfl | exact .inr rfl | assumption):wpAny M A (storeName X.env x u) Q E s:=by
 obtain⟨m,hn,hl⟩:=id I.loc
 have hcls:(X.env.scope.kind == .class || (X.env.scope.kind == .module && X.env.locals != X.env.globals))=false:=by rw[I.ok.kind];rfl
 have CI:i < σ.length:=by rw[I.len];exact(Ye.mp hi).1
 have HP:=I.HP
 have tracked:∀{a:Addr}{h':Heap},(∃o,s.heap.get? a=some o/\H a=none)->Heap.SameBut a s.heap h'->kr X.prog X.w H h':=fun {a h'} ha hs b ob e=>by
  obtain⟨_,_,hfree⟩:=ha
  refine(I.hok b ob e).stay (fun c w' hc q=>(hs.2 c ?_).trans q) (fun _ q=>q) fun _ _ q=>q
  rintro rfl
  rcases hc with rfl | hc
  ·rw[hfree] at e;cases e
  ·rw[hfree] at hc;cases hc
 rcases hx with hk | hk
 ·refine wpAny_storeName_local hk hn (fun h' hn' hs=>?_) hcls
  obtain⟨oL,_,_,VY,_⟩:=id hn
  refine h _ ⟨I.ok,I.os,I.bare,⟨fun b o e n hb hx=>?_,fun b o e n hb hx=>?_,I.base.free,fun b o e hx=>?_,I.base.tups,I.base.qZ,I.base.rX⟩,⟨_,hn',fun j y v' e1 e2 e3=>?_⟩,fun y c e=>?_,I.free,I.iO,fun p hp=>?_,tracked ⟨oL,VY,I.free⟩ hs,by simpa using I.len⟩ ⟨_,hs,.inl rfl⟩
  ·exact(hs.2 b (Ym (X7 (X5 e) I.ok.above))).trans (I.base.keep b o e n hb hx)
  ·obtain⟨sl,e1⟩:=I.base.slot b o e n hb hx
   exact⟨sl,(hs.2 b (Ym (X7 (X5 e) I.ok.above))).trans e1⟩
  ·obtain⟨o',e1⟩:=I.base.there b o e hx
   exact⟨o',(hs.2 b (Ym (X7 (X5 e) I.ok.above))).trans e1⟩
  ·by_cases hj:j=i
   ·subst hj
    rw[hi] at e1;cases e1
    rw[Yw CI] at e2
    cases e2
    exact⟨u,r,.inl ⟨hk,by simp⟩⟩
   ·rw[Yl (Y8 hj)] at e2
    obtain⟨u',r',q⟩:=hl j y v' e1 e2 e3
    refine⟨u',r',?_⟩
    rcases q with⟨k,e⟩ | ⟨k,c,e,z⟩
    ·refine .inl ⟨k,?_⟩
     have:y≠x:=fun e=>hj (rZ hN e1 (e▸hi))
     simp[this,e]
    ·exact .inr ⟨k,c,e,z.sameBut hs (HP y c e)⟩
  ·obtain⟨w',z⟩:=I.cell y c e
   exact⟨w',z.sameBut hs (HP y c e)⟩
  ·obtain⟨e,n,ne,nf,d⟩:=I.pin p hp
   exact⟨(hs.2 p.1 ne).trans e,n,ne,nf,d⟩
 ·have hfn:X.fn x=true:=by
   rcases hf with z | z
   ·exact z
   ·rw[z] at hk;cases hk
  obtain⟨c,hc⟩:=I.ok.has x (.inl hk)
  obtain⟨w',z⟩:=I.cell x c hc
  refine wpAny_storeName_cell I.ok.kind hk hc z (fun h' hc' hs=>?_)
  obtain⟨oc,hoc,RM⟩:=id z
  refine h {s with heap:=h'} ⟨I.ok,I.os,I.bare,⟨fun b o e n hb hx=>?_,fun b o e n hb hx=>?_,I.base.free,fun b o e hx=>?_,I.base.tups,I.base.qZ,I.base.rX⟩,⟨m,hn.sameBut hs (Y8 (HP x c hc)),fun j y v' e1 e2 e3=>?_⟩,fun y c' e=>?_,I.free,I.iO,fun p hp=>?_,tracked ⟨oc,hoc,I.iO x c hc⟩ hs,by simpa using I.len⟩ ⟨c,hs,.inr hc⟩
  ·exact(hs.2 b (Ym (X7 (X5 e) (I.ok.Km x c hfn hc)))).trans (I.base.keep b o e n hb hx)
  ·obtain⟨sl,e1⟩:=I.base.slot b o e n hb hx
   exact⟨sl,(hs.2 b (Ym (X7 (X5 e) (I.ok.Km x c hfn hc)))).trans e1⟩
  ·obtain⟨o',e1⟩:=I.base.there b o e hx
   exact⟨o',(hs.2 b (Ym (X7 (X5 e) (I.ok.Km x c hfn hc)))).trans e1⟩
  ·by_cases hj:j=i
   ·subst hj
    rw[hi] at e1;cases e1
    rw[Yw CI] at e2
    cases e2
    exact⟨u,r,.inr ⟨.inl hk,c,hc,hc'⟩⟩
   ·rw[Yl (Y8 hj)] at e2
    obtain⟨u',r',q⟩:=hl j y v' e1 e2 e3
    refine⟨u',r',?_⟩
    rcases q with q | ⟨k,c',e,z'⟩
    ·exact .inl q
    ·refine .inr ⟨k,c',e,z'.sameBut hs ?_⟩
     rintro rfl
     exact hj (rZ hN e1 (I.ok.inj _ _ _ e hc▸hi))
  ·by_cases hcc:c'=c
   ·subst hcc;exact⟨_,hc'⟩
   ·obtain⟨w2,z2⟩:=I.cell y c' e
    exact⟨w2,z2.sameBut hs hcc⟩
  ·obtain⟨e,n,ne,nf,d⟩:=I.pin p hp
   refine⟨(hs.2 p.1 ?_).trans e,n,ne,nf,d⟩
   intro q
   rw[q,hoc] at e
   have q':oc=p.2:=Yn e
   exact d w' (by rw[<-q'];exact RM)
def lE {v:V}{Q:Unit->Shared->Prop}(I:Inv X pins σ H s) (hN:X.N.Nodup) (hi:X.N[i]? =some x) (hx:Loc X.env.scope x) (r:RelV v u)
  (h:∀s',Inv X pins (σ.set i (some v)) H s'->Q () s') (hf:X.fn x=true\/X.env.scope.names.lookup x=some .local:=by first | exact .inl rfl | exact .inr rfl | assumption):wpAny M A (storeName X.env x u) Q E s:=
 CH I hN hi hx r (fun s' I' _=>h s' I') hf
def Inv.Ko {s':Shared}(I:Inv X pins σ H s) (ho:s'.os=s.os) (u:Un (frs X.stack) ch H H' s.heap s'.heap) (hok:kr X.prog X.w H' s'.heap) (hg:AllBare s'.gens)
  (hch:∀b∈ch,(b∈X.ex\/X.s₀.heap.objs.size<=b)/\b≠X.env.locals/\(∀x c,X.env.cells.lookup x=some c->c≠b)/\∀p∈X.pn++pins,p.1≠b):Inv X pins σ H' s':=by
 obtain⟨h',g',d',t',o'⟩:=s'
 have e:o'=s.os:=ho
 subst e
 exact I.call (g':=g') (t':=t') (d':=d') u hok hg hch
end
abbrev XK:=Value->Option Addr->Hp->Prop
abbrev St:=List (Option V)
abbrev VK:=V->Hp->Prop
abbrev TE:=St->Hp->VK->Prop
abbrev TT:=St->Hp->(Bool->Hp->Prop)->Prop
abbrev TA:=St->Hp->(List V->Hp->Prop)->Prop
structure Ends where
 nx:St->Hp->Prop
 rt:VK
 bk:St->Hp->Prop:=fun _ _=>False
 ct:St->Hp->Prop:=fun _ _=>False
abbrev TS:=Ends->St->Hp->Prop
inductive EP (X:Cx) (pins:AAD) (σ:St) (Q:VK) (u:Value) (s':Shared):Prop
 | mk (v:V) (H':Hp) (I:Inv X pins σ H' s') (r:RelV v u) (q:Q v H')
def TP (X:Cx) (pins:AAD) (σ:St) (Q:Bool->Hp->Prop) (b:Bool) (s':Shared):Prop:=∃H',Inv X pins σ H' s'/\Q b H'
inductive AP (X:Cx) (pins:AAD) (σ:St) (Q:List V->Hp->Prop) (us:AAI) (s':Shared):Prop
 | mk (vs:List V) (H':Hp) (I:Inv X pins σ H' s') (r:Vals vs us) (q:Q vs H')
def SP (X:Cx) (pins:AAD) (D:Ends) (f:Flow) (s':Shared):Prop:=
 match f with
 | .next=>∃σ' H',Inv X pins σ' H' s'/\D.nx σ' H'
 | .brk=>∃σ' H',Inv X pins σ' H' s'/\D.bk σ' H'
 | .cont=>∃σ' H',Inv X pins σ' H' s'/\D.ct σ' H'
 | .ret u=>∃v σ' H',Inv X pins σ' H' s'/\RelV v u/\D.rt v H'
def PE (X:Cx) (e:Expr) (t:TE):Prop:=
 ∀(pins:AAD) (s:Shared) (σ:St) (H:Hp) (Q:VK),Inv X pins σ H s->t σ H Q->wpAny (model X.prog X.w) X.A (eval e X.env) (EP X pins σ Q) X.xe s
def PT (X:Cx) (e:Expr) (t:TT):Prop:=
 ∀(pins:AAD) (s:Shared) (σ:St) (H:Hp) (Q:Bool->Hp->Prop),Inv X pins σ H s->t σ H Q->wpAny (model X.prog X.w) X.A (isTrue e X.env (eval e X.env)) (TP X pins σ Q) X.xe s
def PW (X:Cx) (e:Expr) (t:TT):Prop:=
 ∀(whole:Sem Value) (pins:AAD) (s:Shared) (σ:St) (H:Hp) (Q:Bool->Hp->Prop),Inv X pins σ H s->t σ H Q->wpAny (model X.prog X.w) X.A (isTrue e X.env whole) (TP X pins σ Q) X.xe s
def PW.pt {e:Expr}{t:TT}(h:PW X e t):PT X e t:=h _
def PA (X:Cx) (es:List Expr) (t:TA):Prop:=
 ∀(pos:Pos) (pins:AAD) (s:Shared) (σ:St) (H:Hp) (Q:List V->Hp->Prop),Inv X pins σ H s->t σ H Q->wpAny (model X.prog X.w) X.A (spliced (backTo pos (starEach es X.env))) (AP X pins σ Q) X.xe s
def PS (X:Cx) (st:Stmt) (t:TS):Prop:=
 ∀(pins:AAD) (s:Shared) (σ:St) (H:Hp) (D:Ends),Inv X pins σ H s->t D σ H->wpAny (model X.prog X.w) X.A (exec st X.env) (SP X pins D) X.xe s
def wC (X:Cx) (st:List Stmt) (t:TS):Prop:=
 ∀(pins:AAD) (s:Shared) (σ:St) (H:Hp) (D:Ends),Inv X pins σ H s->t D σ H->wpAny (model X.prog X.w) X.A (execs st X.env) (SP X pins D) X.xe s
def dj {α:Type}{t:Sem α}{Q Q':α->Shared->Prop}{s:Shared}(h:wpAny M A t Q E s) (hQ:∀a s,Q a s->Q' a s):wpAny M A t Q' E s:=Yd h hQ fun _ _ x=>x
section
variable {X:Cx}
def ym (i:Nat):TE:=fun σ H Q=>∃v,σ[i]? =some (some v)/\Q v H
def tC (v:V):TE:=fun _ H Q=>Q v H
def fG (hN:X.N[i]? =some x) (hv:wu X.env.scope x) (hd:(x == ("__debug__":Str))=false:=by decide) (hcd:(x == ("__classdict__":Str))=false:=by decide):PE X (.Name x pos) (ym i):=by
 intro pins s σ H Q I h
 obtain⟨v,e,h⟩:=h
 obtain⟨m,hn,hl⟩:=I.loc
 obtain⟨u,r,l⟩:=hl i x v hN e hv
 have fin:EP X pins σ Q u s:=⟨v,H,I,r,h⟩
 rcases l with⟨hk,hm⟩ | ⟨hk,c,hc,hcell⟩
 ·exact wpAny_Name (wpAny_loadName_local I.ok.kind hk hn hm fin) hd
 ·rcases hk with hk | hk
  ·exact wpAny_Name (wpAny_loadName_cell I.ok.kind hk hc hcell fin) hd
  ·exact wpAny_Name (wpAny_loadName_free I.ok.kind hk hc hcell fin hcd) hd
def K3 {i j pos}:PE X (.Constant (.int i) j pos) (tC (.int i)):=fun _ _ _ H _ I h=>wpAny_Constant_int ⟨.int i,H,I.tok _,⟨_,rfl⟩,h⟩
def Ob {b j pos}:PE X (.Constant (.bool b) j pos) (tC (.bl b)):=fun _ _ _ H _ I h=>Constant_bool ⟨.bl b,H,I,rfl,h⟩
def K4 {j pos}:PE X (.Constant .none j pos) (tC .cz):=fun _ _ _ H _ I h=>Constant_none ⟨.cz,H,I,rfl,h⟩
def Eh {x j pos}:PE X (.Constant (.str x) j pos) (tC (.str x)):=fun _ _ _ H _ I h=>Calls.Constant_str ⟨.str x,H,I.tok _,⟨_,rfl⟩,h⟩
def Gl (X:Cx) (x:Str):Prop:=X.env.kindOf x=some .globalImplicit
def kD {s:Shared}(I:Inv X pins σ H s) (hg:Gl X x) (hm:X.mg x=some u) (h:Q u s)
  (hd:(x == ("__debug__":Str))=false:=by decide):wpAny (model X.prog X.w) X.A (eval (.Name x pos) X.env) Q E s:=
 Calls.Name_function_global I.ok.kind hg (Calls.loadGlobal_global (by rw[I.ok.glob];exact I.mod.glob.keeps I.bk) hm h) hd
def r9 {s:Shared}(I:Inv X pins σ H s) (hg:Gl X x) (hm:X.mg x=none) (hv:bootBuiltins x=some u) (h:Q u s)
  (hn:x≠"__name__":=by decide) (hd:(x == ("__debug__":Str))=false:=by decide):wpAny (model X.prog X.w) X.A (eval (.Name x pos) X.env) Q E s:=by
 obtain⟨mb,h1,h2⟩:=I.mod.blt
 exact Calls.Name_function_global I.ok.kind hg (Calls.loadGlobal_builtin (by rw[I.ok.glob];exact I.mod.glob.keeps I.bk) hm (by rw[I.ok.blt];exact h1.keeps I.bk) ((h2 x hn).trans hv) h) hd
def mR {v:V}(hg:Gl X x) (hm:X.mg x=some u) (r:RelV v u) (hd:(x == ("__debug__":Str))=false:=by decide):PE X (.Name x pos) (tC v):=
 fun _ _ _ H _ I h=>kD I hg hm ⟨v,H,I,r,h⟩ hd
def BC {v:V}(hg:Gl X x) (hm:X.mg x=none) (hv:bootBuiltins x=some u) (r:RelV v u) (hn:x≠"__name__":=by decide) (hd:(x == ("__debug__":Str))=false:=by decide):PE X (.Name x pos) (tC v):=
 fun _ _ _ H _ I h=>r9 I hg hm hv ⟨v,H,I,r,h⟩ hn hd
variable {a b:Expr}{ta tb:TE}{pos:Pos}
def PC (X:Cx) (op:CmpOp) (a b:Expr) (t:TE):Prop:=
 ∀(pins:AAD) (s:Shared) (σ:St) (H:Hp) (Q:VK),Inv X pins σ H s->t σ H Q->
  wpAny (model X.prog X.w) X.A (eval a X.env) (fun v s₁=>wpAny (model X.prog X.w) X.A (eval b X.env) (fun u s₂=>wpAny (model X.prog X.w) X.A (compareOp op v u) (EP X pins σ Q) X.xe s₂) X.xe s₁) X.xe s
def Ei (b:Expr)(h:op≠.In) (h2:op≠.NotIn):behindInMarks op b=false:=by
 have e1:(op == CmpOp.In)=false:=by cases op <;> first | rfl | exact absurd rfl h
 have e2:(op == CmpOp.NotIn)=false:=by cases op <;> first | rfl | exact absurd rfl h2
 cases b <;> simp[behindInMarks,e1,e2]
def RN (ta:TE):TE:=fun σ H Q=>ta σ H fun x H1=>Q (.bl (decide (x= .cz))) H1
def RelV.Ej {x:V}{v:Value}(r:RelV x v):(v == Value.none)=decide (x= .cz):=by
 cases x with
 | cz=>cases r;rfl
 | bl _=>cases r;rfl
 | int _=>obtain⟨t,rfl⟩:=r;rfl
 | str _=>obtain⟨t,rfl⟩:=r;rfl
 | N4 _=>obtain⟨t,rfl⟩:=r;rfl
 | flt _=>obtain⟨t,rfl⟩:=r;rfl
 | ref _=>cases r;rfl
 | ty _=>cases r;rfl
def K5 {j pos'}(ha:PE X a ta):PC X .Is a (.Constant .none j pos') (RN ta):=by
 intro pins s σ H Q I h
 refine dj (ha pins s σ H _ I h) fun v s1 hh=>?_
 obtain⟨x,H1,I1,r1,q1⟩:=hh
 exact Constant_none (is_none_gen ⟨.bl _,H1,I1,by rw[r1.Ej];rfl,q1⟩)
def tB (t:TE):TT:=fun σ H Q=>t σ H fun x H1=>∃c,x= .bl c/\Q c H1
def Ek {t:TE}(h:PC X op a b t) (h1:behindInMarks op b=false:=by first | exact Ei _ (by decide) (by decide) | rfl):PT X (.Compare a [op] [b] pos) (tB t):=by
 intro pins s σ H Q I hw
 refine wpAny_isTrue_Compare1 (dj (h pins s σ H _ I hw) fun v s1 h1=>dj h1 fun u s2 h2=>dj h2 fun c s3 hh=>?_) h1
 obtain⟨x,H1,I1,r1,q1⟩:=hh
 obtain⟨d,rfl,q⟩:=q1
 cases r1
 exact YX ⟨H1,I1,q⟩
def K6 {e:Expr}{t:TE}(h:PE X e t) (he:∀whole,isTrue e X.env whole=(do let v <-whole;standAt e.pos;holding [v] (truthy v)):=by intro _;rfl):PT X e (tB t):=by
 intro pins s σ H Q I hw
 refine isTrue_plain (dj (h pins s σ H _ I hw) fun v s1 hh=>?_) (he _)
 obtain⟨x,H1,I1,r1,q1⟩:=hh
 obtain⟨d,rfl,q⟩:=q1
 cases r1
 exact YX ⟨H1,I1,q⟩
variable {tA QB:TT}{rest:List Expr}
def RO (t u:TT):TT:=fun σ H Q=>t σ H fun c H1=>if c=true then u σ H1 Q else Q false H1
def VZ (t u:TT):TT:=fun σ H Q=>t σ H fun c H1=>if c=true then Q true H1 else u σ H1 Q
def RP (t:TT):TT:=fun σ H Q=>t σ H fun c H1=>Q (!c) H1
def pw_and1 (ha:PT X a tA):PW X (.BoolOp .And [a] pos) tA:=by
 intro wh pins s σ H Q I h
 refine isTrue_and (dj (ha pins s σ H Q I h) fun c s1 e=>?_)
 cases c with
 | true=>exact isTrue_and_nil e
 | false=>exact e
def pw_or1 (ha:PT X a tA):PW X (.BoolOp .Or [a] pos) tA:=by
 intro wh pins s σ H Q I h
 refine isTrue_or (dj (ha pins s σ H Q I h) fun c s1 e=>?_)
 cases c with
 | false=>exact isTrue_or_nil e
 | true=>exact e
def pw_and (ha:PT X a tA) (hb:PW X (.BoolOp .And (b :: rest) pos) QB):PW X (.BoolOp .And (a :: b :: rest) pos) (RO tA QB):=by
 intro wh pins s σ H Q I h
 refine isTrue_and (dj (ha pins s σ H _ I h) fun c s1 hh=>?_)
 obtain⟨H1,I1,q1⟩:=hh
 cases c with
 | true=>exact hb wh pins s1 σ H1 Q I1 q1
 | false=>exact⟨H1,I1,q1⟩
def pw_or (ha:PT X a tA) (hb:PW X (.BoolOp .Or (b :: rest) pos) QB):PW X (.BoolOp .Or (a :: b :: rest) pos) (VZ tA QB):=by
 intro wh pins s σ H Q I h
 refine isTrue_or (dj (ha pins s σ H _ I h) fun c s1 hh=>?_)
 obtain⟨H1,I1,q1⟩:=hh
 cases c with
 | true=>exact⟨H1,I1,q1⟩
 | false=>exact hb wh pins s1 σ H1 Q I1 q1
def K7 (ha:PT X a tA):PT X (.UnaryOp .Not a pos) (RP tA):=by
 intro pins s σ H Q I h
 exact isTrue_not (ha pins s σ H (fun c H1=>Q (!c) H1) I h)
def Oc (ta tb:TE):TE:=fun σ H Q=>ta σ H fun x H1=>∃c,x= .bl c/\if c=true then tb σ H1 Q else Q (.bl false) H1
def K8 {op}{t:TE}(h:PE X a t):PE X (.BoolOp op [a] pos) t:=fun pins s σ H Q I hw=>BoolOp_one (h pins s σ H Q I hw)
def K9 (ha:PE X a ta) (hb:PE X (.BoolOp .And (b :: rest) pos) tb):PE X (.BoolOp .And (a :: b :: rest) pos) (Oc ta tb):=by
 intro pins s σ H Q I h
 refine BoolOp_and (dj (ha pins s σ H _ I h) fun v s1 hh=>?_)
 obtain⟨x,H1,I1,r1,q1⟩:=hh
 obtain⟨c,rfl,q1⟩:=q1
 cases r1
 refine YX ?_
 cases c with
 | true=>exact hb pins s1 σ H1 Q I1 q1
 | false=>exact⟨.bl false,H1,I1,rfl,q1⟩
def V0 (t:TT) (ta tb:TE):TE:=fun σ H Q=>t σ H fun c H1=>if c=true then ta σ H1 Q else tb σ H1 Q
def El {c:Expr}(hc:PT X c tA) (ha:PE X a ta) (hb:PE X b tb):PE X (.IfExp c a b pos) (V0 tA ta tb):=by
 intro pins s σ H Q I h
 refine wpAny_IfExp (dj (hc pins s σ H _ I h) fun d s1 hh=>?_)
 obtain⟨H1,I1,q1⟩:=hh
 cases d with
 | true=>exact ha pins s1 σ H1 Q I1 q1
 | false=>exact hb pins s1 σ H1 Q I1 q1
end
def k7 (K:AAA) (H:Hp) (a:Addr) (xs:List V):Prop:=
 Rd H a (.lst xs)\/
  ∃(o:Obj) (its:AAH) (n:Nat),K.lookup a=some o/\o.cls= .type "list"/\o.dict=none/\o.data= .seq its n/\its.size<=sizeLine/\Vals xs its.toList
def q8 (K:AAA) (H:Hp) (a:Addr) (xs:List V):Prop:=
 Rd H a (.tup xs)\/
  ∃(o:Obj) (its:AAH) (n:Nat),K.lookup a=some o/\o.cls= .type "tuple"/\o.data= .seq its n/\its.size<=sizeLine/\Vals xs its.toList
noncomputable def RQ:Value->Option V
 | .none=>some .cz
 | .bool b=>some (.bl b)
 | .int i _=>some (.int i)
 | .str x _=>some (.str x)
 | .bytes b _=>some (.N4 b)
 | .float b _=>some (.flt b)
 | .ref a=>some (.ref a)
 | .type n=>some (.ty n)
 | _=>none
def RelV.abs {x:V}(r:RelV x u):RQ u=some x:=by
 cases x with
 | cz=>cases r;rfl
 | bl _=>cases r;rfl
 | int _=>obtain⟨t,rfl⟩:=r;rfl
 | str _=>obtain⟨t,rfl⟩:=r;rfl
 | N4 _=>obtain⟨t,rfl⟩:=r;rfl
 | flt _=>obtain⟨t,rfl⟩:=r;rfl
 | ref _=>cases r;rfl
 | ty _=>cases r;rfl
def RelV.inj {x y:V}{u:Value}(r:RelV x u) (q:RelV y u):x=y:=Yn (r.abs.symm.trans q.abs)
theorem Vals.inj:∀{xs ys:List V}{us:AAI},Vals xs us->Vals ys us->xs=ys
 | _,_,_,.nil,.nil=>rfl
 | _,_,_,.cons r t,.cons r' t'=>by rw[r.inj r',Vals.inj t t']
section
variable {X:Cx}{pins:AAD}{σ:St}{H:Hp}{s:Shared}{a:Addr}{xs ys:List V}
def k7.of (h:H a=some (.lst xs)):k7 K H a xs:=.inl (.inl h)
def q8.of (h:H a=some (.tup xs)):q8 K H a xs:=.inl (.inl h)
def Inv.list (I:Inv X pins σ H s) (h:k7 X.K H a xs):∃its:List Value,Vals xs its/\PlainL s.heap a its.toArray/\xs.length<=sizeLine:=by
 rcases h with h | ⟨o,its,n,hk,hc,hd,hs,hz,r⟩
 ·obtain⟨z,its,n,r,e⟩:=h.ok I.hok
  exact⟨its,r,⟨_,n,e,rfl,rfl,rfl⟩,z⟩
 ·refine⟨its.toList,r,⟨o,n,I.qK a o hk,hc,hd,by simpa using hs⟩,?_⟩
  have e:=r.length
  simp only[aak] at e
  lia
def Inv.tuple (I:Inv X pins σ H s) (h:q8 X.K H a xs):∃its:List Value,Vals xs its/\IsTup s.heap a its.toArray/\xs.length<=sizeLine:=by
 rcases h with h | ⟨o,its,n,hk,hc,hs,hz,r⟩
 ·obtain⟨z,its,r,p⟩:=h.ok I.hok
  exact⟨its,r,p,z⟩
 ·refine⟨its.toList,r,⟨o,I.qK a o hk,hc,n,by simpa using hs⟩,?_⟩
  have e:=r.length
  simp only[aak] at e
  lia
def Inv.yp (I:Inv X pins σ H s) (h:k7 X.K H a xs) (h':k7 X.K H a ys):xs=ys:=by
 obtain⟨its,r,⟨o,n,e,_,_,d⟩,_⟩:=I.list h
 obtain⟨its',r',⟨o',n',e',_,_,d'⟩,_⟩:=I.list h'
 rw[e] at e';cases e'
 rw[d] at d'
 injection d' with d1 _
 have:its=its':=by simpa using congrArg Array.toList d1
 subst this
 exact r.inj r'
def Inv.vc (I:Inv X pins σ H s) (h:q8 X.K H a xs) (h':q8 X.K H a ys):xs=ys:=by
 obtain⟨its,r,⟨o,e,_,n,d⟩,_⟩:=I.tuple h
 obtain⟨its',r',⟨o',e',_,n',d'⟩,_⟩:=I.tuple h'
 rw[e] at e';cases e'
 rw[d] at d'
 injection d' with d1 _
 have:its=its':=by simpa using congrArg Array.toList d1
 subst this
 exact r.inj r'
end
noncomputable abbrev Cx.uE (X:Cx) (E:AAB):Cx:={X with xe:=E}
noncomputable abbrev Cx.HA (X:Cx):Cx:=X.uE fun _ _=>False
def Cx.Ok.uE {X:Cx}(ok:X.Ok) (E:AAB):(X.uE E).Ok:=
 ⟨ok.mod,ok.kind,ok.glob,ok.blt,ok.above,ok.inj,ok.has,ok.Km,ok.hd,ok.frames,ok.stk,ok.Nu,ok.bs,ok.BA,ok.wA,ok.yj,ok.nM,ok.Hz⟩
def Cx.Ok.lF (ok:(X.uE E).Ok):X.Ok:=
 ⟨ok.mod,ok.kind,ok.glob,ok.blt,ok.above,ok.inj,ok.has,ok.Km,ok.hd,ok.frames,ok.stk,ok.Nu,ok.bs,ok.BA,ok.wA,ok.yj,ok.nM,ok.Hz⟩
section
variable {X:Cx}{pins:AAD}{σ:St}{H:Hp}{s:Shared}{E:AAB}
def Inv.uE (I:Inv X pins σ H s) (E:AAB):Inv (X.uE E) pins σ H s:=⟨I.ok.uE E,I.os,I.bare,I.base,I.loc,I.cell,I.free,I.iO,I.pin,I.hok,I.len⟩
def Inv.lF (I:Inv (X.uE E) pins σ H s):Inv X pins σ H s:=⟨I.ok.lF,I.os,I.bare,I.base,I.loc,I.cell,I.free,I.iO,I.pin,I.hok,I.len⟩
def SP.lF {D:Ends}{f:Flow}{s':Shared}(h:SP (X.uE E) pins D f s'):SP X pins D f s':=by
 cases f with
 | next=>obtain⟨σ',H',I,q⟩:=h;exact⟨σ',H',I.lF,q⟩
 | brk=>obtain⟨σ',H',I,q⟩:=h;exact⟨σ',H',I.lF,q⟩
 | cont=>obtain⟨σ',H',I,q⟩:=h;exact⟨σ',H',I.lF,q⟩
 | ret u=>obtain⟨v,σ',H',I,r,q⟩:=h;exact⟨v,σ',H',I.lF,r,q⟩
def wC.HA {st:List Stmt}{t:TS}(h:wC X.HA st t):wC X st t:=fun pins s σ H D I hw=>
 Yd (h pins s σ H D (I.uE _) hw) (fun _ _ q=>q.lF) fun _ _ z=>False.elim z
end
section
variable {X:Cx}{st:Stmt}{rest:List Stmt}{t u:TS}{e:Expr}{te:TE}{pos:Pos}
def Od:TS:=fun D σ H=>D.nx σ H
def RS (t u:TS):TS:=fun D σ H=>t {D with nx:=u D} σ H
def HQ:wC X [] Od:=fun _ _ σ H _ I h=>Z9 ⟨σ,H,I,h⟩
def Em (h1:PS X st t) (h2:wC X rest u):wC X (st :: rest) (RS t u):=by
 intro pins s σ H D I h
 refine ZY (dj (h1 pins s σ H {D with nx:=u D} I h) fun f s1 q=>?_)
 cases f with
 | next=>
  obtain⟨σ',H',I',q⟩:=q
  exact h2 pins s1 σ' H' D I' q
 | ret v=>exact q
 | brk=>exact q
 | cont=>exact q
def BD (h1:PS X st t):wC X [st] t:=by
 intro pins s σ H D I h
 refine ZY (dj (h1 pins s σ H D I h) fun f s1 q=>?_)
 cases f with
 | next=>exact Z9 q
 | ret v=>exact q
 | brk=>exact q
 | cont=>exact q
def Inv.quiet {s:Shared}(I:Inv X pins σ H s):interactive X.env=false:=by simp[interactive,I.ok.kind]
def Oe (te:TE):TS:=fun D σ H=>te σ H fun _ H1=>D.nx σ H1
def HR (he:PE X e te) (hs:swapsWith e none pos.line X.env=pure false:=by rfl):PS X (.Expr e pos) (Oe te):=by
 intro pins s σ H D I h
 exact wpAny_Expr_any (dj (he pins s σ H _ I h) fun v s1 ⟨x,H1,I1,r1,q1⟩=>⟨σ,H1,I1,q1⟩) I.quiet hs
def RU (te:TE):TS:=fun D σ H=>te σ H D.rt
def La (he:PE X e te):PS X (.Return (some e) pos) (RU te):=by
 intro pins s σ H D I h
 exact wpAny_Return_some (dj (he pins s σ H _ I h) fun v s1 ⟨x,H1,I1,r1,q1⟩=>⟨x,σ,H1,I1,r1,q1⟩)
def RV (c:TT) (t u:TS):TS:=fun D σ H=>c σ H fun b H1=>if b=true then t D σ H1 else u D σ H1
def Of {c:Expr}{a b:List Stmt}{tc:TT}(hc:PT X c tc) (ha:wC X a t) (hb:wC X b u):PS X (.If c a b pos) (RV tc t u):=by
 intro pins s σ H D I h
 refine wpAny_If (dj (hc pins s σ H _ I h) fun d s1 hh=>?_)
 obtain⟨H1,I1,q1⟩:=hh
 cases d with
 | true=>exact ha pins s1 σ H1 D I1 q1
 | false=>exact hb pins s1 σ H1 D I1 q1
end
abbrev TG:=V->St->Hp->(St->Hp->Prop)->Prop
abbrev Kp:=List V->St->Hp->(St->Hp->Prop)->Prop
def PG (X:Cx) (target:Expr) (t:TG):Prop:=
 ∀(pins:AAD) (s:Shared) (σ:St) (H:Hp) (v:V) (u:Value) (Q:St->Hp->Prop),Inv X pins σ H s->RelV v u->t v σ H Q->
  wpAny (model X.prog X.w) X.A (assign target X.env u) (fun _ s'=>∃σ' H',Inv X pins σ' H' s'/\Q σ' H') X.xe s
def Kq (X:Cx) (ts:List Expr) (t:Kp):Prop:=
 ∀(pins:AAD) (s:Shared) (σ:St) (H:Hp) (vs:List V) (us:AAI) (Q:St->Hp->Prop),Inv X pins σ H s->Vals vs us->t vs σ H Q->
  wpAny (model X.prog X.w) X.A (assignInOrder ((assignEach ts X.env).map (·.2)) us) (fun _ s'=>∃σ' H',Inv X pins σ' H' s'/\Q σ' H') X.xe s
abbrev Lb:=V->V->V->Hp->(Hp->Prop)->Prop
def Og (X:Cx) (t:Lb):Prop:=
 ∀(pins:AAD) (s:Shared) (σ:St) (H:Hp) (o i v:V) (ov iv u:Value) (Q:Hp->Prop),Inv X pins σ H s->RelV o ov->RelV i iv->RelV v u->t o i v H Q->
  wpAny (model X.prog X.w) X.A (setItem ov iv u) (fun _ s'=>∃H',Inv X pins σ H' s'/\Q H') X.xe s
abbrev QC:=V->V->Hp->VK->Prop
def QD (X:Cx) (op:Operator) (t:QC):Prop:=
 ∀(pins:AAD) (s:Shared) (σ:St) (H:Hp) (x y:V) (v u:Value) (Q:VK),Inv X pins σ H s->RelV x v->RelV y u->t x y H Q->
  wpAny (model X.prog X.w) X.A (inplaceOp op v u) (EP X pins σ Q) X.xe s
section
variable {X:Cx}{pos:Pos}
def BE (i:Nat):TG:=fun v σ H Q=>Q (σ.set i (some v)) H
def rG (hN:X.N.Nodup) (hi:X.N[i]? =some x) (hx:Loc X.env.scope x) (hf:X.fn x=true\/X.env.scope.names.lookup x=some .local:=by first | exact .inl rfl | exact .inr rfl | assumption):PG X (.Name x pos) (BE i):=by
 intro pins s σ H v u Q I r h
 exact wpAny_assign_Name (lE I hN hi hx r (fun s' I'=>⟨_,H,I',h⟩) hf)
noncomputable def RW:Kp:=fun vs σ H Q=>vs=[]/\Q σ H
noncomputable def Oh (t:TG) (u:Kp):Kp:=fun vs σ H Q=>∃v r,vs=v :: r/\t v σ H fun σ' H'=>u r σ' H' Q
def BF:Kq X [] RW:=by
 intro pins s σ H vs us Q I r h
 obtain⟨e,h⟩:=h
 subst e
 cases r
 exact assignInOrder_nil ⟨σ,H,I,h⟩
def se {e:Expr}{t:TG}{u:Kp}(h1:PG X e t) (h2:Kq X es u)
  (hs:(assignEach (e :: es) X.env).map (·.2)=assign e X.env :: (assignEach es X.env).map (·.2):=by rfl):Kq X (e :: es) (Oh t u):=by
 intro pins s σ H vs us Q I r h
 obtain⟨v,vr,e1,h⟩:=h
 subst e1
 cases r with
 | cons r rr=>
  rw[hs]
  refine assignInOrder_cons (dj (h1 pins s σ H _ _ _ I r h) fun _ s1 hh=>?_)
  obtain⟨σ1,H1,I1,q1⟩:=hh
  exact h2 pins s1 σ1 H1 _ _ Q I1 rr q1
def RX (K:AAA) (n:Nat) (t:Kp):TG:=fun v σ H Q=>∃a xs,v= .ref a/\q8 K H a xs/\xs.length=n/\t xs σ H Q
def En {t:Kp}{n:Nat}(hc:X.calm=true) (h:Kq X es t)
  (hn:(assignEach es X.env).length=n:=by rfl) (hst:(assignEach es X.env).findIdx? (·.1)=none:=by rfl):PG X (.Tuple es k pos) (RX X.K n t):=by
 intro pins s σ H v u Q I r hw
 obtain⟨a,xs,e1,hq,hl,hw⟩:=hw
 subst e1
 cases r
 obtain⟨its,rv,ht,hz⟩:=I.tuple hq
 refine assign_Tuple_tuple (I.ok.hd hc) ht (by simp[hn,<-hl,rv.length]) hst fun h' hx=>?_
 have I1:Inv X pins σ H {s with heap:=h'}:=I.kept (t':=s.toks) fun b o e=>hx b o (Ym (X5 e)) e
 exact h pins _ σ H xs _ Q I1 (by simpa using rv) hw
def RY (to ti:TE) (t:Lb):TG:=fun v σ H Q=>to σ H fun o H1=>ti σ H1 fun i H2=>t o i v H2 fun H3=>Q σ H3
def Lc {o i:Expr}{to ti:TE}{t:Lb}(ho:PE X o to) (hi:PE X i ti) (hs:Og X t)
  (ha:∀v,assign (.Subscript o i pos) X.env v=(do
   let ov <-holding [v] (eval o X.env)
   let iv <-holding [v,ov] (eval i X.env)
   standAt pos
   holding [v,ov,iv] (setItem ov iv v)
   release [v,ov,iv] []):=by intro _;rfl):PG X (.Subscript o i pos) (RY to ti t):=by
 intro pins s σ H v u Q I r h
 rw[ha]
 refine XY (YI (dj (ho pins s σ H _ I h) fun ov s1 hh=>?_))
 obtain⟨x,H1,I1,r1,q1⟩:=hh
 refine XY (YI (dj (hi pins s1 σ H1 _ I1 q1) fun iv s2 hh=>?_))
 obtain⟨y,H2,I2,r2,q2⟩:=hh
 refine XY (aaw (XY (YI (dj (hs pins s2 σ H2 x y v ov iv u _ I2 r1 r2 r q2) fun _ s3 hh=>?_))))
 obtain⟨H3,I3,q3⟩:=hh
 exact wpAny_release ⟨σ,H3,I3,q3⟩
def Ld (te:TE) (g:TG):TS:=fun D σ H=>te σ H fun x H1=>g x σ H1 D.nx
def Eo {e:Expr}{g:TG}(he:PE X e te) (hg:PG X tg g) (hs:swapsWithSole [tg] e pos.line X.env=pure false:=by rfl) (hw:swappedStores [tg] e X.env=pure none:=by rfl)
  (h1:(assignEach [tg] X.env).map (·.2)=[assign tg X.env]:=by rfl):PS X (.Assign [tg] e pos) (Ld te g):=by
 intro pins s σ H D I h
 refine wpAny_Assign_stores (dj (he pins s σ H _ I h) fun v s1 hh=>?_) hs hw
 obtain⟨x,H1,I1,r1,q1⟩:=hh
 rw[h1]
 exact dj (hg pins s1 σ H1 x v _ I1 r1 q1) fun _ s2 q=>q
def Ep {e:Expr}(hN:X.N.Nodup) (hi:X.N[i]? =some x) (hx:Loc X.env.scope x) (he:PE X e te) (hs:swapsWith e (some (.Name x pos')) pos.line X.env=pure false:=by rfl) (hf:X.fn x=true\/X.env.scope.names.lookup x=some .local:=by first | exact .inl rfl | exact .inr rfl | assumption):
  PS X (.Assign [.Name x pos'] e pos) (Ld te (BE i)):=by
 intro pins s σ H D I h
 refine wpAny_Assign_Name (dj (he pins s σ H _ I h) fun v s1 hh=>?_) hs
 obtain⟨y,H1,I1,r1,q1⟩:=hh
 exact lE I1 hN hi hx r1 (fun s2 I2=>⟨_,H1,I2,q1⟩) hf
def RZ (i:Nat) (te:TE) (ti:QC):TS:=fun D σ H=>∃x,σ[i]? =some (some x)/\te σ H fun y H1=>ti x y H1 fun z H2=>D.nx (σ.set i (some z)) H2
def Le {e:Expr}{op:Operator}{ti:QC}(hN:X.N.Nodup) (hi:X.N[i]? =some x) (hx:Loc X.env.scope x) (he:PE X e te) (ho:QD X op ti) (hf:X.fn x=true\/X.env.scope.names.lookup x=some .local:=by first | exact .inl rfl | exact .inr rfl | assumption):
  PS X (.AugAssign (.Name x pos') op e pos) (RZ i te ti):=by
 intro pins s σ H D I h
 obtain⟨v,e1,h⟩:=h
 obtain⟨m,hn,hl⟩:=I.loc
 have vis:wu X.env.scope x:=by rcases hx with k | k;exact .inl k;exact .inr (.inl k)
 obtain⟨u,r,l⟩:=hl i x v hi e1 vis
 refine wpAny_AugAssign_Name ?_
 have go:wpAny (model X.prog X.w) X.A (eval e X.env) (fun w s₂=>wpAny (model X.prog X.w) X.A (inplaceOp op u w) (fun r s₃=>wpAny (model X.prog X.w) X.A (storeName X.env x r) (fun _=>SP X pins D .next) X.xe s₃) X.xe s₂) X.xe s:=by
  refine dj (he pins s σ H _ I h) fun w s1 hh=>?_
  obtain⟨y,H1,I1,r1,q1⟩:=hh
  refine dj (ho pins s1 σ H1 v y u w _ I1 r r1 q1) fun z s2 hh=>?_
  obtain⟨zv,H2,I2,r2,q2⟩:=hh
  exact lE I2 hN hi hx r2 (fun s3 I3=>⟨_,H2,I3,q2⟩) hf
 rcases l with⟨hk,hm⟩ | ⟨hk,c,hc,hcell⟩
 ·exact wpAny_loadName_local I.ok.kind hk hn hm go
 ·rcases hk with hk | hk
  ·exact wpAny_loadName_cell I.ok.kind hk hc hcell go
  ·rcases hx with k | k
   ·have:X.env.scope.names.lookup x=some .free:=hk
    rw[k] at this;cases this
   ·have:X.env.scope.names.lookup x=some .free:=hk
    rw[k] at this;cases this
noncomputable def R5 (f:Int->Int->Int):QC:=fun x y H Q=>∃i j,x= .int i/\y= .int j/\Q (.int (f i j)) H
def Ad:QD X .Sub (R5 fun i j=>i - j):=by
 intro pins s σ H x y v u Q I r1 r2 h
 obtain⟨i,j,e1,e2,q⟩:=h
 subst e1;subst e2
 obtain⟨t,rfl⟩:=r1
 obtain⟨t',rfl⟩:=r2
 exact isub_int ⟨.int _,H,I.tok _,⟨_,rfl⟩,q⟩
end
section
variable {X:Cx}{pos:Pos}
end
structure It where
 go:Nat->Hp->Prop
 HS:Nat->Hp->V->Hp->Prop
 stop:Nat->Hp->Prop
def lg (X:Cx) (pins:AAD) (H:Hp) (b:Addr):Prop:=
 H b=none/\b≠X.env.locals/\b∉X.fs/\(b∈X.ex\/X.s₀.heap.objs.size<=b)/\(∀x c,X.env.cells.lookup x=some c->c≠b)/\∀p∈X.pn++pins,p.1≠b
def Inv.CJ {s:Shared}{b:Addr}(I:Inv X pins σ H s) (hb:s.heap.objs.size<=b) (hn:H' b=none):lg X pins H' b:=by
 refine⟨hn,aaa (X7 I.lt hb),I.N8 hb,.inr (Yc I.sz hb),fun x c e z=>?_,fun p hp z=>?_⟩
 ·obtain⟨v,q⟩:=I.cell x c e
  exact absurd (X7 q.lt (by rw[z];exact hb)) (YE _)
 ·exact absurd (X7 (X5 (I.pin p hp).1) (by rw[z];exact hb)) (YE _)
structure Turn (P:Program) (w:World) (K:AAA) (tg:Expr) (J:It) (fp:List Addr) (it:Addr) (tn:Nat->Heap->Prop):Prop where
 mem:it∈fp
 obj:∀i h,tn i h->∀b∈fp,∃o,h.get? b=some o/\∀v,o.data≠.cell v
 keep:∀i h h',tn i h->(∀b∈fp,∀o,h.get? b=some o->h'.get? b=some o)->tn i h'
 item:∀(X:Cx),X.prog=P->X.w=w->X.K=K->X.calm=true->∀(i:Nat) (pins:AAD) (s:Shared) (σ:St) (H:Hp) (E:AAB),Inv X pins σ H s->(∀b∈fp,lg X pins H b)->tn i s.heap->J.go i H->
  wpAny (model P w) X.A (pyNext (.ref it)) (fun r s1=>∃u,r=some u/\
   wpAny (model P w) X.A (letOwnedTupleGo tg (.ref it) u) (fun _ s2=>∃x H',Inv X pins σ H' s2/\RelV x u/\J.HS i H x H'/\tn (i+1) s2.heap/\∀b∈fp,H' b=none) E s1) E s
 done:∀(X:Cx),X.prog=P->X.w=w->X.K=K->X.calm=true->∀(i:Nat) (pins:AAD) (s:Shared) (σ:St) (H:Hp) (E:AAB),Inv X pins σ H s->(∀b∈fp,lg X pins H b)->tn i s.heap->J.stop i H->
  wpAny (model P w) X.A (pyNext (.ref it)) (fun r s1=>r=none/\Inv X pins σ H s1) E s
 self:∀(A:Around) (i:Nat) (s:Shared) (Q:AAB) (E:AAB),tn i s.heap->Q (.ref it) s->wpAny (model P w) A (pyIter (.ref it)) Q E s
abbrev TI:=St->Hp->(It->Hp->Prop)->Prop
def R6 (X:Cx) (pins:AAD) (σ:St) (tg:Expr) (R:It->Hp->Prop) (itv:Value) (s2:Shared):Prop:=
 ∃(it:Addr) (fp:List Addr) (tn:Nat->Heap->Prop) (J:It) (H':Hp),itv= .ref it/\Inv X pins σ H' s2/\Turn X.prog X.w X.K tg J fp it tn/\tn 0 s2.heap/\(∀b∈fp,lg X pins H' b)/\R J H'
def PI (X:Cx) (tg iter:Expr) (wi:TI):Prop:=
 ∀(pins:AAD) (s:Shared) (σ:St) (H:Hp) (R:It->Hp->Prop),Inv X pins σ H s->wi σ H R->
  wpAny (model X.prog X.w) X.A (eval iter X.env) (fun v s1=>wpAny (model X.prog X.w) X.A (pyIter v) (R6 X pins σ tg R) X.xe s1) X.xe s
def Er {s:Shared}{it:Addr}{n:String}{vs:AAH}{Q:Unit->Shared->Prop}(ho:s.heap.get? it=some o) (hc:o.cls= .type n) (hd:o.data= .fields vs)
    (hn:["enumerate","zip","dict_itemiterator","dict_reverseitemiterator","odict_iterator","itertools.zip_longest","itertools.pairwise"].contains n=false) (hQ:Q () s):wpAny M A (letOwnedTupleGo tg (.ref it) u) Q E s:=by
  unfold letOwnedTupleGo
  cases tg <;> first
    | exact XZ hQ
    | (cases u <;> first
        | exact XZ hQ
        | (refine XY (wpAny_load ho ?_)
           rw[hc,hd]
           show wpAny M A (if(["enumerate","zip","dict_itemiterator","dict_reverseitemiterator","odict_iterator","itertools.zip_longest","itertools.pairwise"].contains n && vs[0]? == some (rawInt _))=true then _ else _) Q E s
           rw[if_neg (by intro h;rw[hn,aam] at h;cases h)]
           exact XZ hQ))
noncomputable def R7 (K:AAA) (a:Addr):It:=
 ⟨fun i H=>∃xs x,k7 K H a xs/\xs[i]? =some x,fun i H x H'=>H'=H/\∀xs,k7 K H a xs->xs[i]? =some x,fun i H=>∃xs,k7 K H a xs/\xs.length<=i⟩
noncomputable def R8 (K:AAA) (a:Addr):It:=
 ⟨fun i H=>∃xs x,q8 K H a xs/\xs[i]? =some x,fun i H x H'=>H'=H/\∀xs,q8 K H a xs->xs[i]? =some x,fun i H=>∃xs,q8 K H a xs/\xs.length<=i⟩
noncomputable def QE (lo:Int) (n:Nat):It:=⟨fun i _=>i < n,fun i H x H'=>H'=H/\x= .int (lo+i),fun i _=>n<=i⟩
def CK (a it:Addr):Turn P w K tg (R7 K a) [it] it (fun i h=>h.IsListIter it a i) where
 mem:=by simp
 obj:=fun i h st b hb=>by
  have e:b=it:=by simpa using hb
  subst e
  obtain⟨o,e,c,d⟩:=st
  exact⟨o,e,fun v z=>by rw[d] at z;cases z⟩
 keep:=fun i h h' st k=>st.at fun o e=>k it (by simp) o e
 item:=by
  intro X hP hw hK hc i pins s σ H E I hf st hg
  subst hP hw hK
  obtain⟨xs,x,hq,hx⟩:=hg
  obtain⟨its,rv,p,hz⟩:=I.list hq
  obtain⟨u,hu,ru⟩:=rv.get hx
  obtain⟨f0,f1,f2,f3,f4,f5⟩:=hf it (by simp)
  refine wpAny_pyNext_list_item st p.isList (x:=u) (by simpa using hu) fun h' st' sb=>?_
  have I1:Inv X pins σ H {s with heap:=h'}:=I.turned (t':=s.toks) (fun b o hb e=>(sb.2 b hb).trans e) f0 f1 f3 f4 f5
  obtain⟨o,e,c,d⟩:=id st'
  exact⟨u,rfl,Er (s:={s with heap:=h'}) e c d (by decide) ⟨x,H,I1,ru,⟨rfl,fun ys hy=>by rw[I.yp hy hq];exact hx⟩,st',fun b hb=>(hf b hb).1⟩⟩
 done:=by
  intro X hP hw hK hc i pins s σ H E I hf st hg
  subst hP hw hK
  obtain⟨xs,hq,hx⟩:=hg
  obtain⟨its,rv,p,hz⟩:=I.list hq
  obtain⟨f0,f1,f2,f3,f4,f5⟩:=hf it (by simp)
  have hl:=rv.length
  exact wpAny_pyNext_list_end (I.ok.hd hc) st p.isList (by simp;lia) fun h' eb=>⟨rfl,I.turned (t':=s.toks) (fun b o hb e=>eb b o hb e) f0 f1 f3 f4 f5⟩
 self:=fun _ _ _ _ _ st h=>wpAny_pyIter_listiter st h
def Ae (a it:Addr):Turn P w K tg (R8 K a) [it] it (fun i h=>h.IsTupleIter it a i) where
 mem:=by simp
 obj:=fun i h st b hb=>by
  have e:b=it:=by simpa using hb
  subst e
  obtain⟨o,e,c,d⟩:=st
  exact⟨o,e,fun v z=>by rw[d] at z;cases z⟩
 keep:=fun i h h' st k=>st.at fun o e=>k it (by simp) o e
 item:=by
  intro X hP hw hK hc i pins s σ H E I hf st hg
  subst hP hw hK
  obtain⟨xs,x,hq,hx⟩:=hg
  obtain⟨its,rv,p,hz⟩:=I.tuple hq
  obtain⟨u,hu,ru⟩:=rv.get hx
  obtain⟨f0,f1,f2,f3,f4,f5⟩:=hf it (by simp)
  refine wpAny_pyNext_tuple_item st (show s.heap.IsTuple a its.toArray from p) (x:=u) (by simpa using hu) fun h' st' sb=>?_
  have I1:Inv X pins σ H {s with heap:=h'}:=I.turned (t':=s.toks) (fun b o hb e=>(sb.2 b hb).trans e) f0 f1 f3 f4 f5
  obtain⟨o,e,c,d⟩:=id st'
  exact⟨u,rfl,Er (s:={s with heap:=h'}) e c d (by decide) ⟨x,H,I1,ru,⟨rfl,fun ys hy=>by rw[I.vc hy hq];exact hx⟩,st',fun b hb=>(hf b hb).1⟩⟩
 done:=by
  intro X hP hw hK hc i pins s σ H E I hf st hg
  subst hP hw hK
  obtain⟨xs,hq,hx⟩:=hg
  obtain⟨its,rv,p,hz⟩:=I.tuple hq
  obtain⟨f0,f1,f2,f3,f4,f5⟩:=hf it (by simp)
  have hl:=rv.length
  exact wpAny_pyNext_tuple_end (I.ok.hd hc) st (show s.heap.IsTuple a its.toArray from p) (by simp;lia) fun h' eb=>⟨rfl,I.turned (t':=s.toks) (fun b o hb e=>eb b o hb e) f0 f1 f3 f4 f5⟩
 self:=fun _ _ _ _ _ st h=>wpAny_pyIter_tupleiter st h
def Af (it:Addr) (lo:Int) (n:Nat):Turn P w K tg (QE lo n) [it] it (fun i h=>IsRangeIter h it (lo+(i:Nat) * 1) ((n:Int) - (i:Nat)) 1) where
 mem:=by simp
 obj:=fun i h st b hb=>by
  have e:b=it:=by simpa using hb
  subst e
  exact⟨_,st,fun v z=>by
   have z':Data.fields _=Data.cell v:=z
   cases z'⟩
 keep:=fun i h h' st k=>k it (by simp) _ st
 item:=by
  intro X hP hw hK hc i pins s σ H E I hf st hg
  subst hP hw hK
  obtain⟨f0,f1,f2,f3,f4,f5⟩:=hf it (by simp)
  have W:=Walks.range (prog:=X.prog) (w:=X.w) (I.ok.hd hc) it lo 1 n
  refine W.item i s _ _ hg st fun v h' tk hv st' kk=>?_
  obtain⟨t,rfl⟩:=hv
  have I1:Inv X pins σ H {s with heap:=h',toks:=tk}:=I.turned (fun b o hb e=>kk b o (by simpa using hb) e) f0 f1 f3 f4 f5
  refine⟨_,rfl,Er (s:={s with heap:=h',toks:=tk}) (n:="range_iterator") st' rfl rfl (by decide) ⟨.int (lo+i),H,I1,⟨t,?_⟩,⟨rfl,rfl⟩,st',fun b hb=>(hf b hb).1⟩⟩
  rw[Int.mul_one]
 done:=by
  intro X hP hw hK hc i pins s σ H E I hf st hg
  subst hP hw hK
  obtain⟨f0,f1,f2,f3,f4,f5⟩:=hf it (by simp)
  exact wpAny_pyNext_range_end (I.ok.hd hc) st (by have:n<=i:=hg;lia) fun h' eb=>⟨rfl,I.turned (t':=s.toks) (fun b o hb e=>eb b o hb e) f0 f1 f3 f4 f5⟩
 self:=fun _ _ _ _ _ st h=>wpAny_pyIter_rangeiter st h
section
variable {X:Cx}{tg:Expr}
def Es (K:AAA) (tl:TE):TI:=fun σ H R=>tl σ H fun x H1=>∃a,x= .ref a/\(∃xs,k7 K H1 a xs)/\R (R7 K a) H1
def R9 (K:AAA) (tl:TE):TI:=fun σ H R=>tl σ H fun x H1=>∃a,x= .ref a/\(∃xs,q8 K H1 a xs)/\R (R8 K a) H1
def wD {l:Expr}{tl:TE}(hl:PE X l tl):PI X tg l (Es X.K tl):=by
 intro pins s σ H R I h
 refine dj (hl pins s σ H _ I h) fun v s1 hh=>?_
 obtain⟨x,H1,I1,r1,q1⟩:=hh
 obtain⟨a,e,⟨xs,hq⟩,q⟩:=q1
 subst e
 cases r1
 obtain⟨its,rv,p,hz⟩:=I1.list hq
 refine aaz p.isList ?_
 refine⟨s1.heap.objs.size,[s1.heap.objs.size],_,_,H1,rfl,I1.kept (t':=s1.toks) fun b o e=>X3 _ e,CK a _,⟨_,Yk _ rfl,rfl,rfl⟩,fun b hb=>?_,q⟩
 have e:b=s1.heap.objs.size:=by simpa using hb
 subst e
 exact I1.CJ (X6 _) (I1.hok.fresh (X6 _))
def Et {l:Expr}{tl:TE}(hl:PE X l tl):PI X tg l (R9 X.K tl):=by
 intro pins s σ H R I h
 refine dj (hl pins s σ H _ I h) fun v s1 hh=>?_
 obtain⟨x,H1,I1,r1,q1⟩:=hh
 obtain⟨a,e,⟨xs,hq⟩,q⟩:=q1
 subst e
 cases r1
 obtain⟨its,rv,p,hz⟩:=I1.tuple hq
 refine ZI (show s1.heap.IsTuple a its.toArray from p) ?_
 refine⟨s1.heap.objs.size,[s1.heap.objs.size],_,_,H1,rfl,I1.kept (t':=s1.toks) fun b o e=>X3 _ e,Ae a _,⟨_,Yk _ rfl,rfl,rfl⟩,fun b hb=>?_,q⟩
 have e:b=s1.heap.objs.size:=by simpa using hb
 subst e
 exact I1.CJ (X6 _) (I1.hok.fresh (X6 _))
def Eu {s:Shared}{R:It->Hp->Prop}{lo hi:Int}{t u v:Tok}{tk:Nat}(I:Inv X pins σ H s) (h1:-(2 ^ 62)<=lo) (h2:lo < 2 ^ 62) (h3:-(2 ^ 62)<=hi) (h4:hi < 2 ^ 62)
  (q:R (QE lo (hi - lo).toNat) H):wpAny (model X.prog X.w) X.A (pyIter (.ref s.heap.objs.size)) (R6 X pins σ tg R) E {s with heap:=s.heap.push {cls:=.type "range",data:=.fields #[.int lo t,.int hi u,.int 1 v]},toks:=tk}:=by
 refine wpAny_pyIter_range (IsRange.new ..) (small_one h1 h2 h3 h4) ?_
 have I1:Inv X pins σ H {s with heap:=s.heap.push {cls:=.type "range",data:=.fields #[.int lo t,.int hi u,.int 1 v]},toks:=tk}:=I.kept fun b o e=>X3 _ e
 refine⟨(s.heap.push {cls:=.type "range",data:=.fields #[.int lo t,.int hi u,.int 1 v]}).objs.size,[(s.heap.push {cls:=.type "range",data:=.fields #[.int lo t,.int hi u,.int 1 v]}).objs.size],_,_,H,rfl,
  I1.kept (t':=tk) fun b o e=>X3 _ e,Af _ lo (hi - lo).toNat,?_,fun b hb=>?_,q⟩
 ·have e1:lo+((0:Nat):Int) * 1=lo:=by simp
  have e2:(((hi - lo).toNat:Nat):Int) - ((0:Nat):Int)=Builtin.Range.rangeSize lo hi 1:=by rw[rangeSize_one];split <;> lia
  show IsRangeIter _ _ (lo+((0:Nat):Int) * 1) ((((hi - lo).toNat:Nat):Int) - ((0:Nat):Int)) 1
  rw[e1,e2]
  exact Yk _ rfl
 ·have e:b=(s.heap.push {cls:=.type "range",data:=.fields #[.int lo t,.int hi u,.int 1 v]}).objs.size:=by simpa using hb
  subst e
  exact I1.CJ (X6 _) (I1.hok.fresh (X6 _))
def Oi (ta:TA):TI:=fun σ H R=>ta σ H fun vs H1=>∃j:Int,vs=[.int j]/\-(2 ^ 62)<=j/\j < 2 ^ 62/\R (QE 0 j.toNat) H1
def CL {a:Expr}{ta:TA}{p:Pos}(hg:Gl X "range") (hm:X.mg "range" =none) (ha:PA X [a] ta) (hs:starEach [a] X.env=[(false,eval a X.env)]:=by rfl):PI X tg (.Call (.Name "range" p) [a] [] pos) (Oi ta):=by
 intro pins s σ H R I h
 refine Call_ (r9 I hg hm boot_range (ZA (dj (ha pos pins s σ H _ I h) fun us s1 hh=>?_) hs rfl))
 obtain⟨vs,H1,I1,r1,q1⟩:=hh
 obtain⟨j,e,q1,q2,q⟩:=q1
 subst e
 cases r1 with
 | cons r rr=>
  cases rr
  obtain⟨t,rfl⟩:=r
  exact call_range_1 (Eu I1 (by lia) (by lia) q1 q2 (by simpa using q))
def Se (wi:TI) (g:TG) (tb:TS):TS:=fun D σ H=>wi σ H fun J H1=>∃W:Nat->Nat->St->Hp->Prop,(∃m,W 0 m σ H1)/\∀i m σ H,W i m σ H->
 (J.stop i H/\D.nx σ H)\/(J.go i H/\∃N:St->Hp->Prop,(∀σ' H',N σ' H'->∃m',m' < m/\W (i+1) m' σ' H')/\∀x H',J.HS i H x H'->g x σ H' fun σ2 H2=>tb {D with nx:=N,ct:=N,bk:=D.nx} σ2 H2)
noncomputable def lG (fp:List Addr) (h:Heap):List (Addr×Obj):=fp.filterMap fun b=>(h.get? b).map fun o=>(b,o)
def dM {h:Heap}{b:Addr}(hb:b∈fp) (e:h.get? b=some o):(b,o)∈lG fp h:=List.mem_filterMap.mpr ⟨b,hb,by rw[e];rfl⟩
def vd {h:Heap}{p:Addr×Obj}(hp:p∈lG fp h):p.1∈fp/\h.get? p.1=some p.2:=by
 obtain⟨b,hb,e⟩:=List.mem_filterMap.mp hp
 cases q:h.get? b with
 | none=>rw[q] at e;cases e
 | some o=>
  rw[q] at e
  have e':(b,o)=p:=Yn e
  subst e'
  exact⟨hb,q⟩
def Inv.pinned {s:Shared}(I:Inv X pins σ H s) (hf:∀b∈fp,lg X pins H b) (ho:∀b∈fp,∃o,s.heap.get? b=some o/\∀v,o.data≠.cell v):Inv X (pins++lG fp s.heap) σ H s:=
 I.BB fun p hp=>(YN.mp hp).elim (fun z=>I.pin p (X8 _ z)) fun z=>by
  obtain⟨hb,e⟩:=vd z
  obtain⟨f0,f1,f2,_⟩:=hf p.1 hb
  obtain⟨o,e',d⟩:=ho p.1 hb
  rw[e] at e';cases e'
  exact⟨e,f0,f1,f2,d⟩
def Inv.jd {pl:AAD}{s:Shared}(I:Inv X (pins++pl) σ H s):Inv X pins σ H s:=I.BB fun p hp=>I.pin p (X8 _ (YW _ hp))
def Ew {iter:Expr}{wi:TI}{g:TG}{tb:TS}(hp:PassesOwn (model X.prog X.w) X.A X.env X.xe) (hc:X.calm=true) (hi:PI X tg iter wi) (hg:PG X tg g) (hb:wC X body tb)
  (hs:∀x,foldedSetIterable iter X.env x=pure x:=by intro _;rfl):PS X (.For tg iter body [] pos) (Se wi g tb):=by
 intro pins s σ H D I h
 refine wpAny_For (dj (hi pins s σ H _ I h) fun v s1 h1=>dj h1 fun itv s2 h2=>?_) hs
 obtain⟨it,fp,tn,J,H2,e,I2,T,st2,f2,W,⟨m0,w0⟩,turn⟩:=h2
 subst e
 have CM:∀{H':Hp},(∀b∈fp,H' b=none)->∀b∈fp,lg X pins H' b:=fun hn b hb=>⟨hn b hb,(f2 b hb).2⟩
 refine codeAny_forLoop_any (fun n s'=>∃i σ' H',Inv X pins σ' H' s'/\tn i s'.heap/\(∀b∈fp,H' b=none)/\W i n σ' H') ?_ m0 ⟨0,σ,H2,I2,st2,fun b hb=>(f2 b hb).1,w0⟩
 rintro n s3 ⟨i,σ3,H3,I3,st3,QF,w3⟩
 rcases turn i n σ3 H3 w3 with⟨stop,qn⟩ | ⟨go,N,hN,step⟩
 ·refine YF hp (dj (T.done X rfl rfl rfl hc i pins s3 σ3 H3 X.xe I3 (CM QF) st3 stop) fun r s4 hh=>?_)
  obtain⟨hr,I4⟩:=hh
  subst hr
  exact Z9 ⟨σ3,H3,I4,qn⟩
 ·refine YF hp (dj (T.item X rfl rfl rfl hc i pins s3 σ3 H3 X.xe I3 (CM QF) st3 go) fun r s4 hh=>?_)
  obtain⟨u,hr,h4⟩:=hh
  subst hr
  refine YF hp (dj h4 fun _ s5 hh=>?_)
  obtain⟨x,H5,I5,r5,y5,Lf,Sg⟩:=hh
  have QG:=I5.pinned (CM Sg) (T.obj _ _ Lf)
  refine YF hp (dj (hg _ s5 σ3 H5 x u _ QG r5 (step x H5 y5)) fun _ s6 hh=>?_)
  obtain⟨Oj,H6,I6,q6⟩:=hh
  refine YF hp (dj (hb _ s6 Oj H6 _ I6 q6) fun f s7 q7=>?_)
  have again:∀{uF:St}{H7:Hp},Inv X (pins++lG fp s5.heap) uF H7 s7->N uF H7->∃m,m < n/\∃i σ' H',Inv X pins σ' H' s7/\tn i s7.heap/\(∀b∈fp,H' b=none)/\W i m σ' H':=fun {uF H7} I7 n7=>by
   obtain⟨m',hm,w7⟩:=hN uF H7 n7
   refine⟨m',hm,i+1,uF,H7,I7.jd,T.keep _ _ _ Lf fun b hb o e=>(I7.pin (b,o) (X8 _ (X8 _ (dM hb e)))).1,fun b hb=>?_,w7⟩
   obtain⟨o,e,d⟩:=T.obj _ _ Lf b hb
   exact(I7.pin (b,o) (X8 _ (X8 _ (dM hb e)))).2.1
  cases f with
  | next=>obtain⟨uF,H7,I7,n7⟩:=q7;exact again I7 n7
  | cont=>obtain⟨uF,H7,I7,n7⟩:=q7;exact again I7 n7
  | brk=>obtain⟨uF,H7,I7,q7⟩:=q7;exact⟨uF,H7,I7.jd,q7⟩
  | ret v=>obtain⟨x7,uF,H7,I7,r7,q7⟩:=q7;exact⟨x7,uF,H7,I7.jd,r7,q7⟩
end
abbrev R2:=V->V->Hp->VK->Prop
def qL (X:Cx) (f:Value->Value->Sem Value) (r:R2):Prop:=
 ∀(pins:AAD) (s:Shared) (σ:St) (H:Hp) (x y:V) (v u:Value) (Q:VK),Inv X pins σ H s->RelV x v->RelV y u->r x y H Q->
  wpAny (model X.prog X.w) X.A (f v u) (EP X pins σ Q) X.xe s
def Ol (X:Cx) (f:Value->Sem Value) (r:V->Hp->VK->Prop):Prop:=
 ∀(pins:AAD) (s:Shared) (σ:St) (H:Hp) (x:V) (v:Value) (Q:VK),Inv X pins σ H s->RelV x v->r x H Q->
  wpAny (model X.prog X.w) X.A (f v) (EP X pins σ Q) X.xe s
def dU (X:Cx) (f:Value) (r:List V->Hp->VK->Prop):Prop:=
 ∀(pins:AAD) (s:Shared) (σ:St) (H:Hp) (xs:List V) (us:AAI) (Q:VK),Inv X pins σ H s->Vals xs us->r xs H Q->
  wpAny (model X.prog X.w) X.A (call f us) (EP X pins σ Q) X.xe s
def Kr (r:R2) (ta tb:TE):TE:=fun σ H Q=>ta σ H fun x H1=>tb σ H1 fun y H2=>r x y H2 Q
def V1 (r:V->Hp->VK->Prop) (ta:TE):TE:=fun σ H Q=>ta σ H fun x H1=>r x H1 Q
def rI (C:Int->Int->Prop) (g:Int->Int->V):R2:=fun x y H Q=>∃i j,x= .int i/\y= .int j/\C i j/\Q (g i j) H
def Ks (g:Int->Int->V):R2:=fun x y H Q=>∃i j,x= .int i/\y= .int j/\Q (g i j) H
def rU (g:Int->V):V->Hp->VK->Prop:=fun x H Q=>∃i,x= .int i/\Q (g i) H
section
variable {X:Cx}{a b c:Expr}{ta tb tc:TE}{pos:Pos}
def Lg (ha:PE X a ta) (hb:PE X b tb){s:Shared}{R:V->V->Hp->Prop}(I:Inv X pins σ H s)
  (h:ta σ H fun x H1=>tb σ H1 fun y H2=>R x y H2){f:Value->Value->Sem Value}
  (hf:∀v u s2 x y H2,Inv X pins σ H2 s2->RelV x v->RelV y u->R x y H2->wpAny (model X.prog X.w) X.A (f v u) Q X.xe s2):
  wpAny (model X.prog X.w) X.A (eval a X.env) (fun v s₁=>wpAny (model X.prog X.w) X.A (eval b X.env) (fun u s₂=>wpAny (model X.prog X.w) X.A (f v u) Q X.xe s₂) X.xe s₁) X.xe s:=by
 refine dj (ha pins s σ H _ I h) fun v s1 hh=>?_
 obtain⟨x,H1,I1,r1,q1⟩:=hh
 refine dj (hb pins s1 σ H1 _ I1 q1) fun u s2 hh=>?_
 obtain⟨y,H2,I2,r2,q2⟩:=hh
 exact hf v u s2 x y H2 I2 r1 r2 q2
def Om {op:Operator}(ho:qL X (binaryOp op) r) (ha:PE X a ta) (hb:PE X b tb):PE X (.BinOp a op b pos) (Kr r ta tb):=by
 intro pins s σ H Q I h
 exact wpAny_BinOp (Lg ha hb I h fun v u s2 x y H2 I2 rx ry q=>ho pins s2 σ H2 x y v u Q I2 rx ry q)
def Oo {op:UnaryOp}{r:V->Hp->VK->Prop}(ho:Ol X (unaryOp op) r) (ha:PE X a ta):PE X (.UnaryOp op a pos) (V1 r ta):=by
 intro pins s σ H Q I h
 exact UnaryOp_ (dj (ha pins s σ H _ I h) fun v s1 ⟨x,H1,I1,r1,q1⟩=>ho pins s1 σ H1 x v Q I1 r1 q1)
def QH {f:Value->Value->Sem Value}{C:Int->Int->Prop}
  (rule:∀(i j:Int) (t u:Tok) (s:Shared) (Q:AAB) (E:AAB),C i j->Q (.int (g i j) s.toks) {s with toks:=s.toks+1}->wpAny (model X.prog X.w) X.A (f (.int i t) (.int j u)) Q E s):
  qL X f (rI C fun i j=>.int (g i j)):=by
 intro pins s σ H x y v u Q I rx ry h
 obtain⟨i,j,rfl,rfl,hc,q⟩:=h
 obtain⟨t,rfl⟩:=rx
 obtain⟨t',rfl⟩:=ry
 exact rule i j t t' s _ _ hc ⟨.int (g i j),H,I.tok _,⟨_,rfl⟩,q⟩
def Oq {f:Value->Value->Sem Value}
  (rule:∀(i j:Int) (t u:Tok) (s:Shared) (Q:AAB) (E:AAB),Q (.int (g i j) s.toks) {s with toks:=s.toks+1}->wpAny (model X.prog X.w) X.A (f (.int i t) (.int j u)) Q E s):
  qL X f (Ks fun i j=>.int (g i j)):=by
 intro pins s σ H x y v u Q I rx ry h
 obtain⟨i,j,rfl,rfl,q⟩:=h
 obtain⟨t,rfl⟩:=rx
 obtain⟨t',rfl⟩:=ry
 exact rule i j t t' s _ _ ⟨.int (g i j),H,I.tok _,⟨_,rfl⟩,q⟩
def HU {f:Value->Value->Sem Value}{g:Int->Int->Bool}
  (rule:∀(i j:Int) (t u:Tok) (s:Shared) (Q:AAB) (E:AAB),Q (.bool (g i j)) s->wpAny (model X.prog X.w) X.A (f (.int i t) (.int j u)) Q E s):
  qL X f (Ks fun i j=>.bl (g i j)):=by
 intro pins s σ H x y v u Q I rx ry h
 obtain⟨i,j,rfl,rfl,q⟩:=h
 obtain⟨t,rfl⟩:=rx
 obtain⟨t',rfl⟩:=ry
 exact rule i j t t' s _ _ ⟨.bl (g i j),H,I,rfl,q⟩
def Ot (i j:Int):Prop:=0 < j/\j < 1073741824
def Sh (i j:Int):Prop:=0<=j/\j<=1000000/\i.natAbs < 2 ^ 64
def Lh (i j:Int):Prop:=(-(2 ^ 64) < i/\i < 2 ^ 64)\/(-(2 ^ 64) < j/\j < 2 ^ 64)
def Lh.ok {i j:Int}(h:Lh i j):IntMulOk i j:=by
 rcases h with⟨h1,h2⟩ | ⟨h1,h2⟩
 ·exact .of_left (intBits_le_64 h1 h2)
 ·exact .of_right (intBits_le_64 h1 h2)
def Li:qL X (binaryOp .Add) (Ks fun i j=>.int (i+j)):=Oq fun _ _ _ _ _ _ _ q=>add_int q
def Lj:qL X (binaryOp .Sub) (Ks fun i j=>.int (i - j)):=Oq fun _ _ _ _ _ _ _ q=>sub_int q
def Lk:qL X (binaryOp .Mult) (rI Lh fun i j=>.int (i * j)):=QH fun _ _ _ _ _ _ _ hc q=>mul_int q hc.ok
def HV:qL X (binaryOp .FloorDiv) (rI Ot fun i j=>.int (i / j)):=QH fun i j _ _ _ _ _ hc q=>by
 have h1:(0:Int) < j:=hc.1
 have h2:j < 1073741824:=hc.2
 exact floordiv_int (by lia) (by rw[Int.fdiv_eq_ediv_of_nonneg i (by lia)];exact q) (.inl (PyProof.noPylong_small (by lia)))
def Ll:qL X (binaryOp .Mod) (rI (fun _ j=>0 < j) fun i j=>.int (i % j)):=QH fun i j _ _ _ _ _ hc q=>by
 have h1:(0:Int) < j:=hc
 exact mod_int' (by lia) (by rw[Int.fmod_eq_emod_of_nonneg i (by lia)];exact q)
def Lm:qL X (binaryOp .Pow) (rI Sh fun i j=>.int (i ^ j.toNat)):=QH fun _ _ _ _ _ _ _ hc q=>pow_int_small hc.1 hc.2.1 hc.2.2 q
def V2 {f:Value->Sem Value}{g:Int->Int}
  (rule:∀(i:Int) (t:Tok) (s:Shared) (Q:AAB) (E:AAB),Q (.int (g i) s.toks) {s with toks:=s.toks+1}->wpAny (model X.prog X.w) X.A (f (.int i t)) Q E s):
  Ol X f (rU fun i=>.int (g i)):=by
 intro pins s σ H x v Q I rx h
 obtain⟨i,rfl,q⟩:=h
 obtain⟨t,rfl⟩:=rx
 exact rule i t s _ _ ⟨.int (g i),H,I.tok _,⟨_,rfl⟩,q⟩
def Ln:Ol X (unaryOp .USub) (rU fun i=>.int (-i)):=V2 fun _ _ _ _ _ q=>neg_int q
end
section
variable {X:Cx}{a b c:Expr}{ta tb tc:TE}{pos:Pos}
def Ag {s:Shared}{Q:VK}{k k':Bool}(I:Inv X pins σ H s) (q:Q (.bl k) H) (e:k=k'):EP X pins σ Q (.bool k') s:=by
 subst e
 exact⟨.bl k,H,I,rfl,q⟩
def Ou:qL X (compareOp .Lt) (Ks fun i j=>.bl (decide (i < j))):=HU fun _ _ _ _ _ _ _ q=>lt_int q
def Ov:qL X (compareOp .LtE) (Ks fun i j=>.bl (decide (i<=j))):=HU fun _ _ _ _ _ _ _ q=>le_int q
def Ow:qL X (compareOp .Gt) (Ks fun i j=>.bl (decide (j < i))):=HU fun _ _ _ _ _ _ _ q=>gt_int q
def Ox:qL X (compareOp .GtE) (Ks fun i j=>.bl (decide (j<=i))):=HU fun _ _ _ _ _ _ _ q=>ge_int q
def CN:qL X (compareOp .In) (fun x y H Q=>∃i j,x= .str i/\y= .str j/\Q (.bl (!(Builtin.Str.occurrences j i 0 j.length 1).isEmpty)) H):=by
 intro pins s σ H x y v u Q I rx ry h
 obtain⟨i,j,rfl,rfl,q⟩:=h
 obtain⟨t,rfl⟩:=rx
 obtain⟨t',rfl⟩:=ry
 exact in_str (Ag I q rfl)
def Lo:qL X (compareOp .Is) (fun x y H Q=>y= .cz/\Q (.bl (decide (x= .cz))) H):=by
 intro pins s σ H x y v u Q I rx ry h
 obtain⟨rfl,q⟩:=h
 cases ry
 refine is_none_gen (Ag I q ?_)
 cases x <;> first
  | (cases rx;rfl)
  | (obtain⟨t,rfl⟩:=rx;rfl)
def wI:qL X (compareOp .NotIn) (fun x y H Q=>∃i j,x= .str i/\y= .str j/\Q (.bl (!(!(Builtin.Str.occurrences j i 0 j.length 1).isEmpty))) H):=by
 intro pins s σ H x y v u Q I rx ry h
 obtain⟨i,j,rfl,rfl,q⟩:=h
 obtain⟨t,rfl⟩:=rx
 obtain⟨t',rfl⟩:=ry
 exact notIn_str (Ag I q rfl)
def Ah (b:Expr)(h:op≠.In:=by decide) (h2:op≠.NotIn:=by decide):behindInMarks op b=false:=by
 have e1:(op == CmpOp.In)=false:=by cases op <;> first | rfl | exact absurd rfl h
 have e2:(op == CmpOp.NotIn)=false:=by cases op <;> first | rfl | exact absurd rfl h2
 cases b <;> simp[behindInMarks,e1,e2]
def HW (ho:qL X (compareOp op) r) (ha:PE X a ta) (hb:PE X b tb) (hm:behindInMarks op b=false):PE X (.Compare a [op] [b] pos) (Kr r ta tb):=by
 intro pins s σ H Q I h
 exact wpAny_Compare1 (Lg ha hb I h fun v u s2 x y H2 I2 rx ry q=>ho pins s2 σ H2 x y v u Q I2 rx ry q) hm
def Ku (t:TE):TT:=fun σ H Q=>t σ H fun x H'=>∃k,x= .bl k/\Q k H'
def wJ (ho:qL X (compareOp op) r) (ha:PE X a ta) (hb:PE X b tb) (hm:behindInMarks op b=false):PT X (.Compare a [op] [b] pos) (Ku (Kr r ta tb)):=by
 intro pins s σ H Q I h
 refine wpAny_isTrue_Compare1 (dj (ha pins s σ H _ I h) fun v s1 ⟨x,H1,I1,r1,q1⟩=>dj (hb pins s1 σ H1 _ I1 q1) fun u s2 ⟨y,H2,I2,r2,q2⟩=>
  dj (ho pins s2 σ H2 x y v u _ I2 r1 r2 q2) fun c s3 ⟨z,H3,I3,r3,k,e,q3⟩=>?_) hm
 subst e
 cases r3
 exact YX ⟨H3,I3,q3⟩
def Ex (r r':R2) (ta tb tc:TE):TE:=fun σ H Q=>ta σ H fun x H1=>tb σ H1 fun y H2=>r x y H2 fun z H3=>∃k,z= .bl k/\
 (if k=true then tc σ H3 fun w' H4=>r' y w' H4 Q else Q (.bl false) H3)
def Ey {op':CmpOp}{r':R2}(ho:qL X (compareOp op) r) (ho':qL X (compareOp op') r') (ha:PE X a ta) (hb:PE X b tb) (hc:PE X c tc)
  (hm:lastMarks [op,op'] [b,c]=false:=by with_unfolding_all rfl):PT X (.Compare a [op,op'] [b,c] pos) (Ku (Ex r r' ta tb tc)):=by
 intro pins s σ H Q I h
 refine isTrue_chain (dj (ha pins s σ H _ I h) fun v s1 ⟨x,H1,I1,r1,q1⟩=>test_link (dj (hb pins s1 σ H1 _ I1 q1) fun u s2 ⟨y,H2,I2,r2,q2⟩=>
  dj (ho pins s2 σ H2 x y v u _ I2 r1 r2 q2) fun d s3 ⟨z,H3,I3,r3,k,e,q3⟩=>?_)) hm
 subst e
 cases r3
 refine YX ?_
 cases k with
 | false=>
  obtain⟨k',e',q'⟩:=q3
  cases e'
  exact ite_ff ⟨H3,I3,q'⟩
 | true=>
  refine ite_tt (test_last (dj (hc pins s3 σ H3 _ I3 q3) fun w' s4 ⟨z',H4,I4,r4,q4⟩=>dj (ho' pins s4 σ H4 y z' u w' _ I4 r2 r4 q4) fun d' s5 hh=>?_))
  obtain⟨z2,H5,I5,r5,k2,e2,q5⟩:=hh
  subst e2
  cases r5
  exact YX ⟨H5,I5,q5⟩
def pU:(sizeLine:Nat) < 2 ^ 63:=by rw[aan];decide
def Ai:qL X (binaryOp .Add) (fun x y H Q=>∃i j,x= .str i/\y= .str j/\i.length+j.length<=sizeLine/\Q (.str (i++j)) H):=by
 intro pins s σ H x y v u Q I rx ry h
 obtain⟨i,j,rfl,rfl,hz,q⟩:=h
 obtain⟨t,rfl⟩:=rx
 obtain⟨t',rfl⟩:=ry
 exact add_str (fun t' tk=>⟨.str (i++j),H,I.tok _,⟨_,rfl⟩,q⟩) hz
def vals1 {x:V}(r:Vals [x] us):∃u,us=[u]/\RelV x u:=by
 cases r with
 | cons r1 r2=>cases r2;exact⟨_,rfl,r1⟩
def vals2 {x:V}(r:Vals [x,y] us):∃u w',us=[u,w']/\RelV x u/\RelV y w':=by
 cases r with
 | cons r1 r2=>
  cases r2 with
  | cons r3 r4=>cases r4;exact⟨_,_,rfl,r1,r3⟩
def CO (hc:X.calm=true):dU X (.builtin "max") (fun xs H Q=>∃i j,xs=[.int i,.int j]/\Q (.int (if j > i then j else i)) H):=by
 intro pins s σ H xs us Q I r h
 obtain⟨i,j,rfl,q⟩:=h
 obtain⟨u,w',rfl,⟨t,rfl⟩,⟨t',rfl⟩⟩:=vals2 r
 refine max_two_ints (I.ok.hd hc) fun h' tk k=>⟨_,H,I.kept k,?_,q⟩
 by_cases hj:j > i
 ·rw[if_pos hj,if_pos hj];exact⟨_,rfl⟩
 ·rw[if_neg hj,if_neg hj];exact⟨_,rfl⟩
end
def CP {h:Heap}{dx:Addr}{mA:AAC}(n:h.Ns1 dx mA):∃od,h.get? dx=some od/\∀name,PySem.W.lookIn name od=some (mA name):=by
 obtain⟨o,es,ep,ho,hd,hk,_,hm⟩:=n
 refine⟨o,ho,fun name=>?_⟩
 have e:=hm name
 unfold nsFind findBy at e
 rw[<-Array.find?_toList] at e
 unfold PySem.W.lookIn
 rw[hd]
 dsimp only
 split
 ·rename_i y q
  rw[q] at e
  exact congrArg some e
 ·rename_i q
  rw[q] at e
  have a:es.toList.any (·.refKey)=false:=by
   rw[List.any_eq_false]
   intro y hy
   obtain⟨z,t,hkey⟩:=hk y (Array.mem_toList_iff.mp hy)
   simp[DictEntry.refKey,hkey]
  have a':¬es.toList.any (·.refKey)=true:=by rw[a];exact ZJ
  rw[if_neg a']
  exact congrArg some e
section
variable {prog:Program}{w:World}{A:Around}{E:AAB}{s:Shared}{K:AAA}{x dx C f:Addr}{mA:AAC}{name:Str}{v:Value}
end
def pS.some_of {v:V}{o:Option Value}(r:pS (some v) o):∃u,o=some u/\RelV v u:=by
 cases o with
 | none=>exact(show False from r).elim
 | some u=>exact⟨u,rfl,r⟩
def CQ {v:V}(r:RelV v u):PySem.W.handedIn u=true:=by
 cases v with
 | cz=>cases(show u=Value.none from r);rfl
 | bl b=>cases(show u=Value.bool b from r);rfl
 | int i=>obtain⟨t,e⟩:=(show ∃t,u=Value.int i t from r);cases e;rfl
 | str x=>obtain⟨t,e⟩:=(show ∃t,u=Value.str x t from r);cases e;rfl
 | N4 b=>obtain⟨t,e⟩:=(show ∃t,u=Value.bytes b t from r);cases e;rfl
 | flt b=>obtain⟨t,e⟩:=(show ∃t,u=Value.float b t from r);cases e;rfl
 | ref a=>cases(show u=Value.ref a from r);rfl
 | ty n=>cases(show u=Value.type n from r);rfl
section
variable {P:Program}{w:World}{H H':Hp}{h h':Heap}{a C dx:Addr}{fs fs':List (Str×V)}
end
def iH (K:AAA) (C:Addr) (f:Str):Prop:=PySem.W.findIn K (.ref C) f=some none
section
variable {X:Cx}{pins:AAD}{σ:St}{H:Hp}{s:Shared}{a C dx:Addr}{fs:List (Str×V)}{f:Str}{v:V}{A:Around}{E:AAB}
def HX {env:Env}{e:Expr}(hb:attributeBase e f env (eval e env)=eval e env)
  (h:wpAny (model prog w) A (eval e env) (fun o s₁=>wpAny (model prog w) A (getAttr o f true) Q E s₁) E s):wpAny (model prog w) A (eval (.Attribute e f pos) env) Q E s:=
 Attribute_any_ h (by rw[arm_eval_Attribute,hb])
end
section
variable {X:Cx}{o e value:Expr}{f:Str}{pos pos' tpos:Pos}{ta tv:TE}
end
section
variable {X:Cx}{pins:AAD}{σ:St}{H:Hp}{s:Shared}{A:Around}{E:AAB}{Q:AAB}{c:Value}{b:Bool}
end
structure dN (k:Nat) (A:Around):Prop where
 hd:A.handled=none
 dp:A.depth+3 * k+5 < recursionLimit
 un:A.units+16 * k+200 < cLine
 gd:A.guards=some []
def dN.mono {j:Nat}(r:dN k A) (h:j<=k):dN j A:=⟨r.hd,by have:=r.dp;lia,by have:=r.un;lia,r.gd⟩
def dN.deeper {k:Nat}{A:Around}(r:dN (k+1) A) (env:Env):dN k (A.deeper env):=
 ⟨r.hd,by have:=r.dp;show A.depth+1+3 * k+5 < _;lia,by have:=r.un;show A.units+3+16 * k+200 < _;lia,r.gd⟩
def Aj {C:Addr}:(A.under (.builtin "type.__call__" ⟨.ref C :: us,kw⟩)).depth=A.depth+1:=by
 first | rfl | simp[Around.under,Code.weight,Code.isCreation,Code.isGuard,Code.isCaller,Code.frames,Code.isFrame,guardIds]
def Ak {C:Addr}:(A.under (.builtin "type.__call__" ⟨.ref C :: us,kw⟩)).units=A.units+1:=by
 first | rfl | simp[Around.under,Code.cUnits,Code.frames,Code.isFrame]
def dN.make (r:dN (k+1) A) (C:Addr) (us:AAI) (kw:List (Str×Value)):dN k (A.under (.builtin "type.__call__" ⟨.ref C :: us,kw⟩)):=
 ⟨r.hd,by have:=r.dp;rw[Aj];lia,by have:=r.un;rw[Ak];lia,r.gd⟩
def dN.depth {k:Nat}{A:Around}(r:dN k A):A.depth < recursionLimit:=by have:=r.dp;lia
def dN.units {k:Nat}{A:Around}(r:dN k A):A.units+64 < cLine:=by have:=r.un;lia
def Lp:TA:=fun _ H Q=>Q [] H
def Kv (ta:TE) (tr:TA):TA:=fun σ H Q=>ta σ H fun x H1=>tr σ H1 fun xs H2=>Q (x :: xs) H2
section
variable {X:Cx}{e:Expr}{es:List Expr}{te:TE}{t:TA}{pos:Pos}
def nN:PA X [] Lp:=fun _ _ _ _ H Q I h=>Calls.spliced_nil ⟨[],H,I,.nil,h⟩
def gm (ha:PE X e te) (hr:PA X es t) (hs:starEach (e :: es) X.env=(false,eval e X.env) :: starEach es X.env:=by rfl):PA X (e :: es) (Kv te t):=by
 intro pos pins s σ H Q I h
 rw[hs]
 show wpAny _ _ (spliced ((false,eval e X.env) :: backTo pos (starEach es X.env))) _ _ s
 refine aat (dj (ha pins s σ H _ I h) fun u s1 hh=>?_)
 obtain⟨x,H1,I1,r1,q1⟩:=hh
 exact dj (hr pos pins s1 σ H1 _ I1 q1) fun us s2 ⟨xs,H2,I2,r2,q2⟩=>⟨x :: xs,H2,I2,.cons r1 r2,q2⟩
def Si (t:TA):TE:=fun σ H Q=>t σ H fun xs H1=>xs.length<=sizeLine/\∀p,H1 p=none->Q (.ref p) (upd H1 p (.tup xs))
def Sj (t:TA):TE:=fun σ H Q=>t σ H fun xs H1=>xs.length<=sizeLine/\∀p,H1 p=none->Q (.ref p) (upd H1 p (.lst xs))
def Ez {x1}(h:PA X es t):PE X (.Tuple es x1 pos) (Si t):=by
 intro pins s σ H Q I hq
 refine wpAny_Tuple_spliced (dj (h pos pins s σ H _ I hq) fun us s1 ⟨xs,H1,I1,r,z,q⟩=>⟨by rw[<-r.length];exact z,?_⟩)
 have hf:H1 s1.heap.objs.size=none:=I1.hok.fresh (X6 _)
 refine⟨.ref s1.heap.objs.size,upd H1 s1.heap.objs.size (.tup xs),I1.laid (t':=s1.toks) (fun b u e=>X3 _ e) (X6 _) ?_,rfl,q _ hf⟩
 exact⟨z,us,r,⟨_,Yk _ rfl,rfl,_,rfl⟩⟩
def Lq (h:PA X es t):PE X (.List es pos) (Sj t):=by
 intro pins s σ H Q I hq
 refine wpAny_List_spliced (dj (h pos pins s σ H _ I hq) fun us s1 ⟨xs,H1,I1,r,z,q⟩=>⟨by rw[<-r.length];exact z,?_⟩)
 have hf:H1 s1.heap.objs.size=none:=I1.hok.fresh (X6 _)
 refine⟨.ref s1.heap.objs.size,upd H1 s1.heap.objs.size (.lst xs),I1.laid (t':=s1.toks) (fun b u e=>X3 _ e) (X6 _) ?_,rfl,q _ hf⟩
 exact⟨z,us,0,r,Yk _ rfl⟩
end
abbrev Sp:=List V->Hp->VK->XK->Prop
abbrev CS:=List Env->Hp->Shared->XK->Value->Shared->Prop
structure Al (P:Program) (w:World) (K:AAA) (mg:AAC) (base:Heap) (A:Around) (outer:List Env) (s:Shared) (H:Hp):Prop where
 frames:A.frames=some outer
 mod:Mod K mg base
 bs:∀b o,base.get? b=some o->s.heap.get? b=some o/\H b=none
 BA:base.objs.size<=s.heap.objs.size
 nM:s.heap.FunFrames base outer
 Hz:∀b∈frs outer,H b=none
 hok:kr P w H s.heap
 bare:AllBare s.gens
def CE (outer:List Env) (P:Program) (w:World) (H:Hp) (s:Shared) (Q:VK) (u:Value) (s':Shared):Prop:=
 ∃v H',s'.os=s.os/\AllBare s'.gens/\Un (frs outer) [] H H' s.heap s'.heap/\kr P w H' s'.heap/\RelV v u/\Q v H'
def CR (CX:CS) (outer:List Env) (P:Program) (w:World) (H:Hp) (s:Shared) (Q:VK) (E:XK) (r:Result) (s':Shared):Prop:=
 match r with
 | .ok (.ret u)=>CE outer P w H s Q u s'
 | .ok _=>False
 | .error e=>CX outer H s E e s'
structure gU (P:Program) (w:World) (K:AAA) (mg:AAC) (base:Heap) (CX:CS) (k:Nat) (f:Addr) (fd:FuncData) (ps:List Str) (sp:Sp):Prop where
 len:∀vs H Q E,sp vs H Q E->vs.length=ps.length
 run:∀(A:Around) (outer:List Env) (s:Shared) (H:Hp) (args:Args) (us:AAI) (vs:List V) (Q:VK) (E:XK),dN k A->Al P w K mg base A outer s H->BindsTo s fd args (ps.zip us)->Vals vs us->sp vs H Q E->
  codeAny (model P w) A (.call (.ref f) args) (CR CX outer P w H s Q E) s
def gU.mono {P:Program}{w:World}{K:AAA}{mg:AAC}{base:Heap}{CX:CS}{j k:Nat}{f:Addr}{fd:FuncData}{ps:List Str}{sp:Sp}(F:gU P w K mg base CX j f fd ps sp) (h:j<=k):
  gU P w K mg base CX k f fd ps sp:=⟨F.len,fun A outer s H args us vs Q E hr=>F.run A outer s H args us vs Q E (hr.mono h)⟩
def Al.make {s:Shared}(e:Al P w K mg base A outer s H) (C:Addr) (us:AAI) (kw:List (Str×Value)):
  Al P w K mg base (A.under (.builtin "type.__call__" ⟨.ref C :: us,kw⟩)) outer s H:=⟨by first | exact e.frames | (simpa[Around.under,Code.envs,Code.isFrame,pushEnvs] using e.frames),e.mod,e.bs,e.BA,e.nM,e.Hz,e.hok,e.bare⟩
section
variable {X:Cx}{pins:AAD}{σ:St}{H:Hp}{s s':Shared}
def Inv.Lr (I:Inv X pins σ H s):Al X.prog X.w X.K X.mg X.base X.A X.stack s H:=
 ⟨I.ok.frames,I.ok.mod,I.bs,Yc I.ok.BA I.sz,I.stack,I.kC,I.hok,I.bare⟩
def Inv.after {Q:VK}(I:Inv X pins σ H s) (h:CE X.stack X.prog X.w H s Q u s'):EP X pins σ Q u s':=by
 obtain⟨v,H',os,bare,un,hok,r,q⟩:=h
 obtain⟨hh,g,d,t,os'⟩:=s'
 obtain rfl:os'=s.os:=os
 exact⟨v,H',I.call (h':=hh) (g':=g) (d':=d) (t':=t) (ch:=[]) un hok bare (fun b z=>absurd z (by simp)),r,q⟩
end
def Kw (sp:Sp) (yq:List V) (E:XK) (t:TA):TE:=fun σ H Q=>t σ H fun vs H1=>sp (vs++yq) H1 Q E
def Binds (K:AAA) (fd:FuncData) (ps:List Str) (ds:AAI):Prop:=
 ∀(s:Shared) (us:AAI),K.In s.heap->(us++ds).length=ps.length->BindsTo s fd ⟨us,[]⟩ (ps.zip (us++ds))
def Binds.all {fd:FuncData}(h:∀us:List Value,us.length=ps.length->bindArgs fd ⟨us,[]⟩=pure (ps.zip us)):Binds K fd ps []:=fun s us _ hl=>by
 rw[Zr] at hl ⊢
 exact .of_eq (h us hl)
def Passes (CX:CS) (X:Cx) (E:XK):Prop:=∀(pins:AAD) (σ:St) (H:Hp) (s:Shared) (e:Value) (s':Shared),Inv X pins σ H s->CX X.stack H s E e s'->X.xe e s'
section
variable {X:Cx}{CX:CS}{k:Nat}{f C:Addr}{fd:FuncData}{ps:List Str}{sp:Sp}{yq:List V}{ds:AAI}{E:XK}{x m:Str}{p pos apos:Pos}{e o:Expr}{es:List Expr}{ta:TE}{t:TA}
def EA {s:Shared}{Q:VK}(F:gU X.prog X.w X.K X.mg X.base CX k f fd ps sp) (hr:dN k X.A) (hb:Binds X.K fd ps ds) (hd:Vals yq ds) (hx:Passes CX X E)
  (I:Inv X pins σ H s) (r:Vals vs us) (h:sp (vs++yq) H Q E):wpAny (model X.prog X.w) X.A (call (.ref f) us) (EP X pins σ Q) X.xe s:=by
 have r2:Vals (vs++yq) (us++ds):=r.append hd
 have hl:(us++ds).length=ps.length:=by rw[<-r2.length];exact F.len _ _ _ _ h
 refine ZO (aab (F.run X.A X.stack s H ⟨us,[]⟩ (us++ds) (vs++yq) Q E hr I.Lr (hb s us I.qK hl) r2 h) fun r s' hq=>?_)
 cases r with
 | error e=>exact hx pins σ H s e s' I hq
 | ok fl=>
  cases fl with
  | ret u=>exact I.after hq
  | next=>exact False.elim hq
  | brk=>exact False.elim hq
  | cont=>exact False.elim hq
def HY (F:gU X.prog X.w X.K X.mg X.base CX k f fd ps sp) (hr:dN k X.A) (hg:Gl X x) (hm:X.mg x=some (.ref f)) (hk:PySem.W.keepIn X.K (.ref f)=true) (hb:Binds X.K fd ps ds) (hd:Vals yq ds) (hx:Passes CX X E)
  (ha:PA X (e :: es) t) (hdb:(x == ("__debug__":Str))=false:=by decide) (he:starEach (e :: es) X.env=(false,eval e X.env) :: starEach es X.env:=by rfl) (hpl:(backTo pos (starEach es X.env)).any (·.1)=false:=by rfl):
  PE X (.Call (.Name x p) (e :: es) [] pos) (Kw sp yq E t):=by
 intro pins s σ H Q I h
 refine Y5 (kD I hg hm ?_ hdb)
 refine ZK (h₀:=X.base) I.ok.mod.Nt hk (dj (ha pos pins s σ H _ I h) fun us s1 ⟨vs,H1,I1,r,q⟩=>⟨I1.qK,?_⟩) he hpl
 exact EA F hr hb hd hx I1 r q
def EB (F:gU X.prog X.w X.K X.mg X.base CX k f fd ps sp) (hr:dN k X.A) (hg:Gl X x) (hm:X.mg x=some (.ref f)) (hk:PySem.W.keepIn X.K (.ref f)=true) (hb:Binds X.K fd ps ds) (hd:Vals yq ds) (hx:Passes CX X E)
  (hdb:(x == ("__debug__":Str))=false:=by decide):PE X (.Call (.Name x p) [] [] pos) (Kw sp yq E Lp):=by
 intro pins s σ H Q I h
 refine Y5 (kD I hg hm ?_ hdb)
 exact PySem.W.callWith_K0 I.qK hk (EA (us:=[]) F hr hb hd hx I .nil h)
end
section
variable {X:Cx}{CX:CS}{k:Nat}{f C:Addr}{fd:FuncData}{ps ks:List Str}{sp:Sp}{E:XK}{x m:Str}{p pos apos kpos:Pos}{e o:Expr}{es:List Expr}{kws:List Keyword}{te ta:TE}{t tk:TA}{nm:Option Str}
variable {g:List Value->List Value->List Value}{gV:List V->List V->List V}
end
structure bF (N P:List Str) (sc:Scope):Prop where
 kind:sc.kind= .function
 co:sc.isCoroutine=false
 gen:sc.isGenerator=false
 nd:N.Nodup
 pre:N.take P.length=P
 par:∀x∈P,sc.names.lookup x=some .local\/sc.names.lookup x=some .cell
 Ls:∀y∈sc.names,y.2≠.free
theorem ve {kindOf:Str->Option NameKind}{x:Str}:∀{binds:List (Str×Value)}{m:AAC},(∀v,(x,v)∉binds)->bindL kindOf binds m x=m x
 | [],_,_=>rfl
 | (n,v) :: r,m,h=>by
  unfold bindL
  rw[ve fun w hw=>h w (Yb _ hw)]
  split
  ·have:x≠n:=by rintro rfl;exact h v Yg
   simp[this]
  ·rfl
theorem vf {kindOf:Str->Option NameKind}{x:Str}:∀{binds:List (Str×Value)}{m:AAC},(∀v,(x,v)∉binds)->bindC kindOf binds m x=m x
 | [],_,_=>rfl
 | (n,v) :: r,m,h=>by
  unfold bindC
  rw[vf fun w hw=>h w (Yb _ hw)]
  split
  ·rfl
  ·have:x≠n:=by rintro rfl;exact h v Yg
   simp[this]
theorem vg {kindOf:Str->Option NameKind}{x:Str}{v:Value}:∀{P:List Str}{vs:AAI}{i:Nat}{m:AAC},P.Nodup->P[i]? =some x->vs[i]? =some v->kindOf x=some .local->
  bindL kindOf (P.zip vs) m x=some v
 | [],_,_,_,_,h,_,_=>by simp at h
 | _ :: _,[],_,_,_,_,h,_=>by simp at h
 | p :: P,w :: vs,0,m,nd,h1,h2,hk=>by
  simp at h1 h2;subst h1;subst h2
  show bindL kindOf ((p,w) :: P.zip vs) m p=_
  unfold bindL
  rw[ve fun v hv=>(YZ.mp nd).1 (aaK hv).1,if_pos hk]
  simp
 | p :: P,w :: vs,i+1,m,nd,h1,h2,hk=>by
  show bindL kindOf ((p,w) :: P.zip vs) m x=_
  unfold bindL
  exact vg (i:=i) (YZ.mp nd).2 (by simpa using h1) (by simpa using h2) hk
theorem vh {kindOf:Str->Option NameKind}{x:Str}{v:Value}:∀{P:List Str}{vs:AAI}{i:Nat}{m:AAC},P.Nodup->P[i]? =some x->vs[i]? =some v->kindOf x≠some .local->
  bindC kindOf (P.zip vs) m x=some v
 | [],_,_,_,_,h,_,_=>by simp at h
 | _ :: _,[],_,_,_,_,h,_=>by simp at h
 | p :: P,w :: vs,0,m,nd,h1,h2,hk=>by
  simp at h1 h2;subst h1;subst h2
  show bindC kindOf ((p,w) :: P.zip vs) m p=_
  unfold bindC
  rw[vf fun v hv=>(YZ.mp nd).1 (aaK hv).1,if_neg hk]
  simp
 | p :: P,w :: vs,i+1,m,nd,h1,h2,hk=>by
  show bindC kindOf ((p,w) :: P.zip vs) m x=_
  unfold bindC
  exact vh (i:=i) (YZ.mp nd).2 (by simpa using h1) (by simpa using h2) hk
noncomputable def start (N:List Str) (vs:List V):St:=vs.map some++List.replicate (N.length - vs.length) none
noncomputable def pW (CX:CS) (P:Program) (w:World) (K:AAA) (mg:AAC) (base:Heap) (N:List Str) (qual:Str) (scope:Scope) (f:Addr) (cd:Value) (A:Around) (outer:List Env) (s:Shared) (H:Hp) (E:XK):Cx where
 prog:=P
 w:=w
 K:=K
 mg:=mg
 base:=base
 A:=A.deeper (envOfC qual scope s.heap.objs.size f cd)
 N:=N
 s₀:=s
 H₀:=H
 env:=envOfC qual scope s.heap.objs.size f cd
 outer:=outer
 stack:=envOfC qual scope s.heap.objs.size f cd :: outer
 ex:=[]
 calm:=true
 fn:=fun _=>true
 pn:=[]
 xe:=fun e s'=>wpAny (model P w) (A.deeper (envOfC qual scope s.heap.objs.size f cd)) (leaving (envOfC qual scope s.heap.objs.size f cd) e) (fun _ s''=>CX outer H s E e s'') (fun e' s''=>CX outer H s E e' s'') s'
def yr {sc:Scope}{n:Nat}(h:sc.names.lookup x=some .cell):∃c,(cellsFrom n sc.names []).lookup x=some c:=by
 have q:=PySem.W.cellsFrom_some sc.names n [] (.inl h)
 exact Option.isSome_iff_exists.mp q
def CT {CX:CS}{f:Addr}{cd:Value}{s s1:Shared}{E:XK}
  (S:bF N ps scope) (hd:A.handled=none) (e0:Al P w K mg base A outer s H) (hl:vs.length=ps.length) (r:Vals vs us)
  (x:InCallC s s.heap.objs.size (bindL (envOfC qual scope s.heap.objs.size f cd).kindOf (ps.zip us) fun _=>none) (cellsFrom (s.heap.objs.size+1) scope.names []) (bindC (envOfC qual scope s.heap.objs.size f cd).kindOf (ps.zip us) fun _=>none) s1):
  Inv (pW CX P w K mg base N qual scope f cd A outer s H E) [] (start N vs) H s1:=by
 have hpl:ps.length<=N.length:=by have:=congrArg List.length S.pre;rw[ZZ] at this;lia
 obtain⟨h1,tk,rfl,hk⟩:=x.done
 have Oz:∀b:Addr,b∉(pW CX P w K mg base N qual scope f cd A outer s H E).ex:=fun b z=>absurd (show b∈([]:List Addr) from z) (by simp)
 refine⟨⟨e0.mod,S.kind,rfl,rfl,X6 _,fun y z c h1 h2=>?_,fun y hy=>?_,fun y c _ h=>?_,fun _=>hd,Around.frames_deeper e0.frames,.inr ⟨rfl,rfl⟩,fun b z=>absurd z (Oz b),e0.bs,e0.BA,fun b _ _=>Oz b,fun b z=>absurd z (Oz b),e0.nM,e0.Hz⟩,
  rfl,e0.bare,Un.kept hk,⟨_,x.toInCall.ns,fun i y v h1 h2 h3=>?_⟩,fun y c h=>⟨_,x.cell y c h⟩,e0.hok.fresh (X6 _),fun y c h=>?_,fun p hp=>absurd (show p∈([]:AAD) from hp) (by simp),e0.hok.kept hk,?_⟩
 ·exact name_of_addr x.apart (YD h1) (YD h2)
 ·have hy:scope.names.lookup y=some .cell\/scope.names.lookup y=some .free:=hy
  rcases hy with hy | hy
  ·exact yr hy
  ·exact absurd rfl (S.Ls _ (YD hy))
 ·exact Z7 (x.above y c (YD h))
 ·have hi:i < vs.length:=by
   unfold start at h2
   by_cases hi:i < vs.length
   ·exact hi
   ·rw[List.getElem?_append_right (by simpa using hi)] at h2
    rw[aaI] at h2
    split at h2 <;> cases h2
  have ha:vs[i]? =some v:=by
   unfold start at h2
   rw[Zk (by simpa using hi),Yu] at h2
   cases e:vs[i]? with
   | none=>rw[e] at h2;cases h2
   | some a=>rw[e] at h2;cases h2;rfl
  obtain⟨u,hu,rv⟩:=r.get ha
  have hp:ps[i]? =some y:=by
   rw[<-S.pre,List.getElem?_take_of_lt (by lia)];exact h1
  have Vd:ps.Nodup:=by rw[<-S.pre];exact S.nd.sublist (List.take_sublist _ _)
  refine⟨u,rv,?_⟩
  rcases S.par y (YH hp) with k | k
  ·exact .inl ⟨k,vg Vd hp hu k⟩
  ·obtain⟨c,e⟩:=yr (n:=s.heap.objs.size+1) k
   refine .inr ⟨.inl k,c,e,?_⟩
   have q:=x.cell y c e
   rw[vh Vd hp hu (by show scope.names.lookup y≠_;rw[k];decide)] at q
   exact q
 ·exact e0.hok.fresh (Z7 (x.above y c (YD h)))
 ·unfold start
  show _=N.length
  rw[Yy,Yh,List.length_replicate]
  lia
def Ky {CX:CS}{f:Addr}{name:Str}{params:Arguments}{dV kV doc pm cdv ct oc:Value}{an od:Option Addr}
  {osl:Array (Option Value)}{sp:Sp}(lk:K.lookup f=some ⟨oc,od,.func (PySem.W.fnOf name qual params body scope dV kV doc pm an cdv ct),osl⟩) (hcd:PySem.W.codeIn K cdv qual=true) (S:bF N ps scope)
  (len:∀vs H Q E,sp vs H Q E->vs.length=ps.length)
  (hbody:∀(A:Around) (outer:List Env) (s:Shared) (H:Hp) (vs:List V) (Q:VK) (E:XK),dN k (A.deeper (envOfC qual scope s.heap.objs.size f cdv))->sp vs H Q E->
   ∃t,wC (pW CX P w K mg base N qual scope f cdv A outer s H E) body t/\t {nx:=fun _ H'=>Q .cz H',rt:=Q} (start N vs) H):
  gU P w K mg base CX (k+1) f (PySem.W.fnOf name qual params body scope dV kV doc pm an cdv ct) ps sp:=by
 refine⟨len,fun A outer s H args us vs Q E hr e0 hb r HB=>?_⟩
 have hl:=len _ _ _ _ HB
 have KX:K.In s.heap:=e0.mod.Nt.keeps fun b o e=>(e0.bs b o e).1
 have lim:s.heap.NoLimit:=e0.mod.nolimit.keeps fun b o e=>(e0.bs b o e).1
 have hkind:∀y∈ps.zip us,scope.names.lookup y.1=some .local\/(scope.names.lookup y.1=some .cell/\((cellsFrom (s.heap.objs.size+1) scope.names []).lookup y.1).isSome=true):=fun⟨n,v⟩ hy=>by
  rcases S.par n (aaK hy).1 with q | q
  ·exact .inl q
  ·exact .inr ⟨q,PySem.W.cellsFrom_some _ _ _ (.inl q)⟩
 refine codeAny_call_function hr.depth (KX _ _ lk) rfl S.co S.gen rfl (PySem.W.codeRec_of KX hcd) (hb _ _ _ _ ?_)
 refine wpAny_newFunctionEnv_cells S.kind hkind fun env he s1 x=>?_
 subst he
 refine⟨lim.keeps x.toInCall.keep,codeAny_func ?_⟩
 obtain⟨t,ht,hq⟩:=hbody A outer s H vs Q E (hr.deeper _) HB
 have I:Inv (pW CX P w K mg base N qual scope f cdv A outer s H E) [] (start N vs) H s1:=CT S hr.hd e0 hl r x
 refine Yd (ht [] s1 (start N vs) H _ I hq) (fun fl s' hs=>?_) fun e s' hs=>hs
 have fin:∀{σ':St}{H':Hp}{v:V}{u:Value},Inv (pW CX P w K mg base N qual scope f cdv A outer s H E) [] σ' H' s'->RelV v u->Q v H'->CE outer P w H s Q u s':=
  fun {σ' H' v u} J rv q=>⟨v,H',J.os,J.bare,J.base,J.hok,rv,q⟩
 cases fl with
 | ret u=>
  obtain⟨v,σ',H',J,rv,q⟩:=hs
  exact fin J rv q
 | next=>
  obtain⟨σ',H',J,q⟩:=hs
  exact fin (v:=V.cz) (u:=Value.none) J rfl q
 | brk=>
  obtain⟨_,_,_,q⟩:=hs
  exact False.elim q
 | cont=>
  obtain⟨_,_,_,q⟩:=hs
  exact False.elim q
section
variable {X:Cx}{x:Str}{p pos:Pos}{e:Expr}{es:List Expr}{t:TA}{id T:String}{r:List V->Hp->VK->Prop}
def Ve (r:List V->Hp->VK->Prop) (t:TA):TE:=fun σ H Q=>t σ H fun vs H1=>r vs H1 Q
def iw (hc:dU X (.builtin id) r) (hg:Gl X x) (hm:X.mg x=none) (hv:bootBuiltins x=some (.builtin id)) (ha:PA X (e :: es) t) (hn:x≠"__name__":=by decide) (hdb:(x == ("__debug__":Str))=false:=by decide)
  (he:starEach (e :: es) X.env=(false,eval e X.env) :: starEach es X.env:=by rfl) (hpl:(backTo pos (starEach es X.env)).any (·.1)=false:=by rfl):PE X (.Call (.Name x p) (e :: es) [] pos) (Ve r t):=by
 intro pins s σ H Q I h
 refine Y5 (r9 I hg hm hv ?_ hn hdb)
 exact PyProof.Rows.callWith_builtin1 (dj (ha pos pins s σ H _ I h) fun us s1 ⟨vs,H1,I1,r1,q1⟩=>hc pins s1 σ H1 vs us Q I1 r1 q1) he hpl
def CU (hc:dU X (.type T) r) (hg:Gl X x) (hm:X.mg x=none) (hv:bootBuiltins x=some (.type T)) (ha:PA X (e :: es) t) (hn:x≠"__name__":=by decide) (hdb:(x == ("__debug__":Str))=false:=by decide)
  (he:starEach (e :: es) X.env=(false,eval e X.env) :: starEach es X.env:=by rfl) (hpl:(backTo pos (starEach es X.env)).any (·.1)=false:=by rfl):PE X (.Call (.Name x p) (e :: es) [] pos) (Ve r t):=by
 intro pins s σ H Q I h
 refine Y5 (r9 I hg hm hv ?_ hn hdb)
 exact ZA (dj (ha pos pins s σ H _ I h) fun us s1 ⟨vs,H1,I1,r1,q1⟩=>hc pins s1 σ H1 vs us Q I1 r1 q1) he hpl
end
section
variable {κ:Type} [DecidableEq κ]
noncomputable def pX (kvs:List (κ×V)) (k:κ):Option V:=(kvs.find? fun kv=>decide (kv.1=k)).map (·.2)
noncomputable def putK (kvs:List (κ×V)) (k:κ) (v:V):List (κ×V):=
 if(kvs.any fun kv=>decide (kv.1=k))=true then kvs.map (fun kv=>if kv.1=k then(kv.1,v) else kv) else kvs++[(k,v)]
def oJ {p:κ×V}{r:List (κ×V)}{k:κ}(e:p.1=k):pX (p :: r) k=some p.2:=by simp[pX,Y6,e]
def oK {p:κ×V}{r:List (κ×V)}{k:κ}(e:¬p.1=k):pX (p :: r) k=pX r k:=by simp[pX,Y6,e]
theorem yt (k:κ):∀kvs:List (κ×V),(kvs.any fun kv=>decide (kv.1=k))=(pX kvs k).isSome
 | []=>rfl
 | p :: r=>by
  rw[Zq]
  by_cases e:p.1=k
  ·simp only[oJ e,YK e,Bool.true_or,Option.isSome_some]
  ·rw[oK e,Yt e,Bool.false_or];exact yt k r
def lH (kvs:List (κ×V)) (k:κ) (v:V):(putK kvs k v).length<=kvs.length+1:=by
 unfold putK
 split
 ·rw[Yh];lia
 ·rw[Yy,Ys,ZG];lia
def pS.CV {o:Option V}{u:Option Value}(r:pS o u):o.isSome=u.isSome:=by
 cases o with
 | none=>cases u with
  | none=>rfl
  | some _=>exact(show False from r).elim
 | some _=>cases u with
  | none=>exact(show False from r).elim
  | some _=>rfl
def KV.val {kvs:List (κ×V)}{vs:List (κ×Value)}(r:KV kvs vs) (k:κ):pS (pX kvs k) (valueAt vs k):=by
 unfold KV at r
 induction r with
 | nil=>exact True.intro
 | @cons p q ps qs h t ih=>
  obtain⟨h1,h2⟩:=h
  by_cases e:p.1=k
  ·have e':q.1=k:=h1.symm.trans e
   have b:valueAt (q :: qs) k=some q.2:=by simp[valueAt,Y6,e']
   rw[oJ e,b];exact h2
  ·have e':¬q.1=k:=fun z=>e (h1.trans z)
   have b:valueAt (q :: qs) k=valueAt qs k:=by simp[valueAt,Y6,e']
   rw[oK e,b];exact ih
def KV.any {kvs:List (κ×V)}{vs:List (κ×Value)}(r:KV kvs vs) (k:κ):(kvs.any fun kv=>decide (kv.1=k))=vs.any fun kv=>decide (kv.1=k):=by
 unfold KV at r
 induction r with
 | nil=>rfl
 | cons h t ih=>rw[Zq,Zq,ih,h.1]
def KV.repl {kvs:List (κ×V)}{vs:List (κ×Value)}(r:KV kvs vs) (k:κ)(ry:RelV y u):
  KV (kvs.map fun kv=>if kv.1=k then(kv.1,y) else kv) (vs.map fun kv=>if kv.1=k then(kv.1,u) else kv):=by
 unfold KV at r ⊢
 induction r with
 | nil=>exact .nil
 | @cons p q ps qs h t ih=>
  rw[Yj,Yj]
  refine .cons ?_ ih
  obtain⟨h1,h2⟩:=h
  by_cases e:p.1=k
  ·rw[if_pos e,if_pos (h1.symm.trans e)];exact⟨h1,ry⟩
  ·rw[if_neg e,if_neg (fun z=>e (h1.trans z))];exact⟨h1,h2⟩
def KV.put {kvs:List (κ×V)}{vs:List (κ×Value)}(r:KV kvs vs) (k:κ)(ry:RelV y u):KV (putK kvs k y) (stored vs k u):=by
 unfold putK stored
 rw[r.any k]
 by_cases e:(vs.any fun kv=>decide (kv.1=k))=true
 ·rw[if_pos e,if_pos e];exact r.repl k ry
 ·rw[if_neg e,if_neg e];exact Paired.snoc r ⟨rfl,ry⟩
def KV.length {kvs:List (κ×V)}{vs:List (κ×Value)}(r:KV kvs vs):kvs.length=vs.length:=aav r
end
def BG {k:Key}(r:RelV (kV k) u):(cX P w).is k u=true:=by
 cases k with
 | inl i=>obtain⟨t,e⟩:=(show ∃t,u=Value.int i t from r);subst e;exact yi P w i t
 | inr x=>obtain⟨t,e⟩:=(show ∃t,u=Value.str x t from r);subst e;exact lD P w x t
abbrev KT (H:Hp):List (D×V)->List (D×Addr×Value)->Prop:=Paired fun p q=>p.1=q.1/\Kd H q.2.1 p.1/\RelV p.2 q.2.2
def KT.val (r:KT H kvs xs) (k:D):pS (pX kvs k) ((atKey xs k).map (·.2)):=by
 induction r with
 | nil=>exact True.intro
 | @cons p q ps qs h t ih=>
  obtain⟨h1,_,h2⟩:=h
  by_cases e:p.1=k
  ·have e':q.1=k:=h1.symm.trans e
   have b:atKey (q :: qs) k=some q.2:=by simp[atKey,Y6,e']
   rw[oJ e,b];exact h2
  ·have e':¬q.1=k:=fun z=>e (h1.trans z)
   have b:atKey (q :: qs) k=atKey qs k:=by simp[atKey,Y6,e']
   rw[oK e,b];exact ih
def KT.repl (r:KT H kvs xs) (k:D)(ry:RelV y u):
  KT H (kvs.map fun kv=>if kv.1=k then(kv.1,y) else kv) (xs.map (putAt k u)):=by
 induction r with
 | nil=>exact .nil
 | @cons p q ps qs h t ih=>
  rw[Yj,Yj]
  refine .cons ?_ ih
  obtain⟨h1,h2,h3⟩:=h
  unfold putAt
  by_cases e:p.1=k
  ·rw[if_pos e,if_pos (h1.symm.trans e)];exact⟨h1,h2,ry⟩
  ·rw[if_neg e,if_neg (fun z=>e (h1.trans z))];exact⟨h1,h2,h3⟩
def KT.put (r:KT H kvs xs) (k:D){b:Addr}(hb:Kd H b k) (ry:RelV y u):
  KT H (putK kvs k y) (storedH xs k b u):=by
 have e:(kvs.any fun kv=>decide (kv.1=k))=(atKey xs k).isSome:=by
  rw[yt,(r.val k).CV,Option.isSome_map]
 unfold putK storedH
 rw[e]
 by_cases q:(atKey xs k).isSome=true
 ·rw[if_pos q,if_pos q];exact r.repl k ry
 ·rw[if_neg q,if_neg q];exact Paired.snoc r ⟨rfl,hb,ry⟩
def KT.keeps (r:KT H kvs xs) (ht:∀b ys,H b=some (.tup ys)->H' b=some (.tup ys)):KT H' kvs xs:=
 Paired.CF r fun _ _ z=>⟨z.1,z.2.1.tups ht,z.2.2⟩
section
variable {P:Program}{w:World}{H:Hp}{h:Heap}{a:Addr}
def Kz {u:HO}(ok:kr P w H h) (e:Rd H a u):c7 P w H h a u:=e.ok ok
def BH {kvs:List (Key×V)}(ok:kr P w H h) (e:Rd H a (.dK kvs)):kvs.length<=sizeLine/\(a == sysModules)=false/\∃vs,KV kvs vs/\h.DictOf (cX P w) a vs:=
 show c7 P w H h a (.dK kvs) from Kz ok e
def KA {kvs:List (Key×V)}(ok:kr P w H h) (e:H a=some (.dK kvs)):kvs.length<=sizeLine/\(a == sysModules)=false/\∃vs,KV kvs vs/\h.DictOf (cX P w) a vs:=BH ok (.inl e)
mutual
theorem EC (ok:kr P w H h):∀(d:D){n:Nat}{v:V}{u:Value},Rep H v d->RelV v u->gj n d=true->uB h u (nf d)
 | .cz,n,_,_,_,_,k=>by simp[gj] at k
 | .lst _,n,_,_,_,_,k=>by simp[gj] at k
 | .bl b,n,_,_,r,q,k=>by cases r;cases q;exact .bool b
 | .int i,n,_,_,r,q,k=>by cases r;obtain⟨t,rfl⟩:=q;exact .int i t
 | .str i,n,_,_,r,q,k=>by cases r;obtain⟨t,rfl⟩:=q;exact .str i t
 | .tup ds,n,_,_,r,q,k=>by
  cases n with
  | zero=>simp[gj] at k
  | succ n=>
   cases r with
   | @tup a vs _ e rs=>
    cases q
    obtain⟨_,its,rv,o,h1,h2,m,h3⟩:=(show c7 P w H h a (.tup vs) from ok a _ e)
    exact .tup ⟨o,h1,h2,m,h3⟩ (BI ok ds rs rv k)
theorem BI (ok:kr P w H h):∀(ds:List D){n:Nat}{vs:List V}{us:AAI},bz H vs ds->Vals vs us->ds.all (gj n)=true->jC h us (N2 ds)
 | [],n,_,_,r,q,k=>by cases r;cases q;exact .nil
 | d :: ds,n,_,_,r,q,k=>by
  rw[YU,Yr] at k
  cases r with
  | cons r1 r2=>
   cases q with
   | cons q1 q2=>exact .cons (EC ok d r1 q1 k.1) (BI ok ds r2 q2 k.2)
end
def Am {ks:D}(ok:kr P w H h) (e:Kd H a ks):(jX P w).is h ks a:=by
 obtain⟨d,r,hk,rfl⟩:=e
 exact⟨EC ok d r rfl hk,Bx d 8 hk⟩
def ED (ok:kr P w H h) (e:Rd H a (.dT kvs)):kvs.length<=sizeLine/\(a == sysModules)=false/\
  ∃xs,KT H kvs xs/\h.DictOfH (jX P w) a xs:=by
 obtain⟨z,y,xs,r,o,es,ep,h1,h2,h3,h4,h5⟩:=(show c7 P w H h a (.dT kvs) from Kz ok e)
 refine⟨z,y,xs,r,o,es,ep,h1,h2,h3,h4,fun x hx=>?_,h5⟩
 have all:∀{l:List (D×V)}{m:List (D×Addr×Value)},KT H l m->∀x∈m,(jX P w).is h x.1 x.2.1:=by
  intro l m q
  induction q with
  | nil=>intro x hx;exact nomatch hx
  | @cons p q ps qs hq t ih=>
   intro x hx
   rcases Yi.mp hx with e | hx
   ·subst e
    exact Am ok (by rw[<-hq.1];exact hq.2.1)
   ·exact ih x hx
 exact all r x hx
def KC (ok:kr P w H h) (e:H a=some (.dT kvs)):kvs.length<=sizeLine/\(a == sysModules)=false/\
  ∃xs,KT H kvs xs/\h.DictOfH (jX P w) a xs:=ED ok (.inl e)
end
def Lu (y:V) (k:Key):Prop:=y=kV k\/∃b,y= .bl b/\k= .inl (bI b)
def Lu.is {P:Program}{w:World}{y:V}{k:Key}{u:Value}(e:Lu y k) (r:RelV y u):(cX P w).is k u=true:=by
 rcases e with rfl | ⟨b,rfl,rfl⟩
 ·exact BG r
 ·cases r;exact YK rfl
def wK (H:Hp) (a:Addr) (y:V) (r:Option V):Prop:=
 (∃kvs k,Rd H a (.dK kvs)/\Lu y k/\r=pX kvs k)\/∃kvs k b,Rd H a (.dT kvs)/\y= .ref b/\Kd H b k/\r=pX kvs k
def yu (H:Hp) (a:Addr) (y v:V) (H':Hp):Prop:=
 (∃kvs k,H a=some (.dK kvs)/\Lu y k/\kvs.length < sizeLine/\H'=upd H a (.dK (putK kvs k v)))\/
 ∃kvs k b,H a=some (.dT kvs)/\y= .ref b/\Kd H b k/\kvs.length < sizeLine/\H'=upd H a (.dT (putK kvs k v))
def wK.t {b:Addr}{k:D}(e:H a=some (.dT kvs)) (eb:Kd H b k):wK H a (.ref b) (pX kvs k):=.inr ⟨kvs,k,b,.inl e,rfl,eb,rfl⟩
def yu.t {b:Addr}{k:D}{v:V}(e:H a=some (.dT kvs)) (eb:Kd H b k) (hl:kvs.length < sizeLine):
  yu H a (.ref b) v (upd H a (.dT (putK kvs k v))):=.inr ⟨kvs,k,b,e,rfl,eb,hl,rfl⟩
section
variable {X:Cx}{pins:AAD}{σ:St}{H:Hp}{s:Shared}{a:Addr}{y v:V}{u r:Value}{o:Option V}{A:Around}{E:AAB}
def Inv.big (I:Inv X pins σ H s):sysModules < s.heap.objs.size:=by
 have h:mainGlobals < s.heap.objs.size:=(I.mod.glob.keeps I.bk).lt
 exact Nat.lt_trans (by decide) h
def CW (hu:A.units+20 < cLine) (I:Inv X pins σ H s) (g:wK H a y (some v)) (ry:RelV y u) (h:∀w' s',Inv X pins σ H s'->RelV v w'->Q w' s'):
  wpAny (model X.prog X.w) A (getItem (.ref a) u) Q E s:=by
 rcases g with⟨kvs,k,e,ey,l⟩ | ⟨kvs,k,b,e,ey,eb,l⟩
 ·obtain⟨z,hd,vs,rel,dd⟩:=BH I.hok e
  obtain⟨w',hw,rw'⟩:=pS.some_of (v:=v) (o:=valueAt vs k) (by rw[l];exact rel.val k)
  exact wpAny_getItem_of (ey.is ry) dd.mapOf hw (h w' _ (I.tok _) rw')
 ·subst ey
  cases(show u=Value.ref b from ry)
  obtain⟨z,hd,xs,rel,dd⟩:=ED I.hok e
  obtain⟨w',hw,rw'⟩:=pS.some_of (v:=v) (o:=(atKey xs k).map (·.2)) (by rw[l];exact rel.val k)
  obtain⟨p,hp,hp2⟩:=Option.map_eq_some_iff.mp hw
  refine wpAny_getItem_heap (nq hu) (Am I.hok eb) dd hp ?_
  rw[hp2]
  exact h w' _ (I.tok _) rw'
def wL {h':Heap}{ob:HO}(I:Inv X pins σ H s) (mu:N6 (H a)) (hs:Heap.SameBut a s.heap h') (he:∃q,h'.get? a=some q) (new:c7 X.prog X.w (upd H a ob) h' a ob):
  Inv X pins σ (upd H a ob) {s with heap:=h',toks:=t'}:=
 I.write (x:=a) (e:=a) mu (.inl rfl) (fun b q hb z=>(hs.2 b hb).trans z) he new
def EE {h':Heap}{kvs:List (Key×V)}{vs:List (Key×Value)}(z:kvs.length<=sizeLine) (hd:(a == sysModules)=false) (rel:KV kvs vs) (dd:h'.DictOf (cX P w) a vs):
  c7 P w H' h' a (.dK kvs):=⟨z,hd,vs,rel,dd⟩
def CY {Q:Unit->Shared->Prop}(hu:A.units+20 < cLine) (I:Inv X pins σ H s) (g:yu H a y v H') (ry:RelV y u) (rv:RelV v r) (h:∀s',Inv X pins σ H' s'->Q () s'):
  wpAny (model X.prog X.w) A (setItem (.ref a) u r) Q E s:=by
 rcases g with⟨kvs,k,e,ey,l,eH⟩ | ⟨kvs,k,b,e,ey,eb,l,eH⟩
 ·subst eH
  obtain⟨z,hd,vs,rel,dd⟩:=KA I.hok e
  have hz:vs.length<=sizeLine:=by rw[<-rel.length];exact z
  have hl:(putK kvs k v).length<=sizeLine:=by have:=lH kvs k v;lia
  refine wpAny_setItem_pairs (hsz:=hz) (ey.is ry) dd fun h' KD hs=>h _ ?_
  have he:∃q,h'.get? a=some q:=let⟨q,_,_,hq,_⟩:=KD;⟨q,hq⟩
  exact wL I (by rw[e];exact True.intro) hs he (EE hl hd (rel.put k rv) KD)
 ·subst ey eH
  cases(show u=Value.ref b from ry)
  obtain⟨z,hd,xs,rel,dd⟩:=KC I.hok e
  have hz:xs.length<=sizeLine:=by rw[<-aav rel];exact z
  have hl:(putK kvs k v).length<=sizeLine:=by have:=lH kvs k v;lia
  refine wpAny_setItem_heap (hsz:=hz) (nq hu) (Am I.hok eb) dd fun h' KD hs=>h _ ?_
  obtain⟨q,es,ep,hq,h2,h3,h4,_,h5⟩:=KD
  refine wL I (by rw[e];exact True.intro) hs ⟨q,hq⟩ ⟨hl,hd,_,(rel.put k eb rv).keeps fun c ys ec=>?_,q,es,ep,hq,h2,h3,h4,h5⟩
  rw[aE (N5 ec e (fun z=>nomatch z))]
  exact ec
end
section
variable {X:Cx}{pins:AAD}{σ:St}{H:Hp}{s:Shared}{a:Addr}{kvs:List (Key×V)}{k:Key}{u:Value}{A:Around}{E:AAB}
def OA (I:Inv X pins σ H s) (e:Rd H a (.dK kvs)) (h:∀t s',Inv X pins σ H s'->Q (.int kvs.length t) s'):wpAny (model X.prog X.w) A (call (.builtin "len") [.ref a]) Q E s:=by
 obtain⟨z,hd,vs,rel,dd⟩:=BH I.hok e
 refine call_len_dict hd dd (by rw[<-rel.length];rw[aan] at z;lia) ?_
 rw[<-rel.length]
 exact h _ _ (I.tok _)
end
def HZ (i:Expr):Prop:=∀ov iv,subscripted i false ov iv=operate [ov,iv] (getItem ov iv)
def BJ {s:Shared}{env:Env}{value slice:Expr}{T id:String}
  (hl:typeLookup (.type T) "__getitem__" =pure (some (.builtin id))) (hs:HZ slice)
  (h:wpAny (model prog w) A (eval value env) (fun o s₁=>wpAny (model prog w) A (eval slice env) (fun i s₂=>s₂.TypeIs o T/\wpAny (model prog w) A (getItem o i) Q E s₂) E s₁) E s):
  wpAny (model prog w) A (eval (.Subscript value slice pos) env) Q E s:=by
 refine Subscript_ (Yd h (fun o s₁ h₁=>Yd h₁ (fun i s₂ h₂=>?_) fun _ _ x=>x) fun _ _ x=>x)
 obtain⟨hT,h₂⟩:=h₂
 unfold subscriptTail
 refine XY ?_
 rw[getitemInPython_of_ne hT.not_modules]
 refine XY (wpAny_specialOf hT hl ?_)
 have fin:wpAny (model prog w) A (subscripted slice false o i) (fun r s₃=>wpAny (model prog w) A (letTemporaryGo value o r >>= fun _=>pure r) Q E s₃) E s₂:=by
  rw[hs o i]
  exact wpAny_operating (Yd h₂ (fun r s₃ h₃=>XY (wpAny_letTemporaryGo (XZ h₃))) fun _ _ x=>x)
 first
  | exact XZ (XY fin)
  | exact XY (XZ (XY fin))
  | exact XY fin
def yw {s:Shared}{o:Option V}(I:Inv X pins σ H s) (g:wK H a y o):s.TypeIs (.ref a) "dict":=by
 rcases g with⟨kvs,k,e,_,_⟩ | ⟨kvs,k,b,e,_,_,_⟩
 ·obtain⟨_,_,vs,_,dd⟩:=BH I.hok e
  exact dd.typeIs
 ·obtain⟨_,_,xs,_,dd⟩:=ED I.hok e
  exact dd.typeIs
def OB (td ty:TE):TE:=fun σ H Q=>td σ H fun x H1=>ty σ H1 fun y H2=>∃a v,x= .ref a/\wK H2 a y (some v)/\Q v H2
def OC (td ty tv:TE):TS:=fun D σ H=>tv σ H fun v H1=>td σ H1 fun x H2=>ty σ H2 fun y H3=>∃a H4,x= .ref a/\yu H3 a y v H4/\D.nx σ H4
section
variable {X:Cx}{o i e value:Expr}{pos pos' tpos:Pos}{td ty tv:TE}
def BK (hu:X.A.units+20 < cLine) (ho:PE X o td) (hi:PE X i ty) (hs:HZ i):PE X (.Subscript o i pos) (OB td ty):=by
 intro pins s σ H Q I h
 refine BJ aaB.lookup hs (dj (ho pins s σ H _ I h) fun u s1 ⟨x,H1,I1,rx,q1⟩=>dj (hi pins s1 σ H1 _ I1 q1) fun iv s2 hh=>?_)
 obtain⟨y,H2,I2,ry,a,v,ex,g,q2⟩:=hh
 subst ex
 obtain rfl:u=Value.ref a:=rx
 exact⟨yw I2 g,CW hu I2 g ry fun w' s3 I3 rw'=>⟨v,H2,I3,rw',q2⟩⟩
def BL (hu:X.A.units+20 < cLine) (ho:PE X o td) (hi:PE X i ty) (hv:PE X value tv) (hs:swapsWith value (some (.Subscript o i pos')) pos.line X.env=pure false):
  PS X (.Assign [.Subscript o i pos'] value pos) (OC td ty tv):=by
 intro pins s σ H D I h
 refine wpAny_Assign_Subscript (dj (hv pins s σ H _ I h) fun r s1 ⟨v,H1,I1,rv,q1⟩=>dj (ho pins s1 σ H1 _ I1 q1) fun u s2 ⟨x,H2,I2,rx,q2⟩=>dj (hi pins s2 σ H2 _ I2 q2) fun iv s3 hh=>?_) hs
 obtain⟨y,H3,I3,ry,a,H4,ex,g,q3⟩:=hh
 subst ex
 obtain rfl:u=Value.ref a:=rx
 exact CY hu I3 g ry rv fun s4 I4=>⟨σ,H4,I4,q3⟩
end
def EF (h:Heap) (hb:sysModules < h.objs.size):c7 P w H (h.push {cls:=.type "dict",data:=.dict #[]}) h.objs.size (.dK []):=
 ⟨Y4 _,beq_eq_false_iff_ne.mpr (Y8 (Ym hb)),[],.nil,Heap.DictOf.new h⟩
section
variable {X:Cx}{pos:Pos}
end
def sf:List (TE×TE)->St->Hp->(List (V×V)->Hp->Prop)->Prop
 | [],_,H,Q=>Q [] H
 | (tk,tv) :: r,σ,H,Q=>tk σ H fun x H1=>tv σ H1 fun y H2=>sf r σ H2 fun ps H3=>Q ((x,y) :: ps) H3
abbrev VV:List (V×V)->List (Value×Value)->Prop:=Paired fun p q=>RelV p.1 q.1/\RelV p.2 q.2
def OD (X:Cx) (pos:Pos) (keys:List (Option Expr)) (values:List Expr) (Ia:List (TE×TE)):Prop:=
 ∀(pins:AAD) (s:Shared) (σ:St) (H:Hp) (Q:List (V×V)->Hp->Prop),Inv X pins σ H s->sf Ia σ H Q->
  wpAny (model X.prog X.w) X.A (evalPairs (pairTrees keys values X.env pos)) (fun vs s'=>∃ps H',Inv X pins σ H' s'/\VV ps vs/\Q ps H') X.xe s
def Ib :OD X pos [] [] []:=fun pins s σ H Q I h=>pairTrees_nil_walk ⟨[],H,I,.nil,h⟩
def EG {k v:Expr}{ks:List (Option Expr)}{vs:List Expr}{tk tv:TE}(hk:PE X k tk) (hv:PE X v tv) (hr:OD X pos ks vs Ia):
  OD X pos (some k :: ks) (v :: vs) ((tk,tv) :: Ia):=fun pins s σ H Q I h=>
 pairTrees_cons_walk (dj (hk pins s σ H _ I h) fun u s1 ⟨x,H1,I1,rx,q1⟩=>dj (hv pins s1 σ H1 _ I1 q1) fun w2 s2 ⟨y,H2,I2,ry,q2⟩=>
  dj (hr pins s2 σ H2 _ I2 q2) fun ws s3 ⟨ps,H3,I3,rel,q3⟩=>⟨(x,y) :: ps,H3,I3,.cons ⟨rx,ry⟩ rel,q3⟩)
def lI (kvs more:List (Key×V)):List (Key×V):=more.foldl (fun acc kv=>putK acc kv.1 kv.2) kvs
def KV.merge:∀{more:List (Key×V)}{rs:List (Key×Value)}{kvs:List (Key×V)}{vs:List (Key×Value)},KV more rs->KV kvs vs->KV (lI kvs more) (merged vs rs):=by
 intro more rs kvs vs r
 unfold KV at r
 induction r generalizing kvs vs with
 | nil=>intro q;exact q
 | @cons p q ps qs h t ih=>
  intro r0
  have e:KV (putK kvs p.1 p.2) (stored vs q.1 q.2):=by
   have:=r0.put p.1 h.2
   rw[<-h.1];exact this
  exact ih e
theorem nv:∀(more kvs:List (Key×V)),(lI kvs more).length<=kvs.length+more.length
 | [],kvs=>by show kvs.length<=kvs.length+0;lia
 | p :: r,kvs=>by
  have h1:=nv r (putK kvs p.1 p.2)
  have h2:=lH kvs p.1 p.2
  show(lI (putK kvs p.1 p.2) r).length<=_
  rw[Ys];lia
theorem sr {P:Program}{w:World}:∀{kvs:List (Key×V)}{ws:List (Value×Value)},VV (kvs.map fun kv=>(kV kv.1,kv.2)) ws->∃rs,Carries (cX P w) ws rs/\KV kvs rs
 | [],_,r=>by rw[List.map_nil] at r;cases r;exact⟨[],True.intro,.nil⟩
 | p :: kvs,_,r=>by
  rw[Yj] at r
  cases r with
  | @cons a b as bs h t=>
   obtain⟨rs,c,q⟩:=sr (P:=P) (w:=w) t
   obtain⟨b1,b2⟩:=b
   exact⟨(p.1,b2) :: rs,⟨BG h.1,rfl,c⟩,.cons ⟨rfl,h.2⟩ q⟩
def OE (Ia:List (TE×TE)):TE:=fun σ H Q=>∀p,H p=none->sf Ia σ (upd H p (.dK [])) fun ps H2=>H2 p=some (.dK [])/\∃kvs:List (Key×V),ps=kvs.map (fun kv=>(kV kv.1,kv.2))/\kvs.length<=15/\Q (.ref p) (upd H2 p (.dK (lI [] kvs)))
def Ic {keys:List (Option Expr)}{values:List Expr}(h:OD X pos keys values Ia) (hall:keys.all (·.isSome)=true) (hl:keys.length=values.length) (h0:keys≠[])
  (Sk:keys.length<=15):PE X (.Dict keys values pos) (OE Ia):=by
 intro pins s σ H Q I q
 have hn:=I.hok.fresh (X6 s.heap.objs.size)
 have I1:=I.laid (a:=s.heap.objs.size) (o:=.dK []) (h':=s.heap.push {cls:=.type "dict",data:=.dict #[]}) (t':=s.toks) (fun _ _ q=>X3 _ q) (X6 _) (EF s.heap I.big)
 refine wpAny_Dict_walk (knd:=cX X.prog X.w) hall hl h0 Sk (dj (h pins _ σ _ _ I1 (q _ hn)) fun ws s2 hh=>?_)
 obtain⟨ps,H2,I2,rel,e,kvs,ep,lk,q2⟩:=hh
 subst ep
 obtain⟨rs,c,rk⟩:=sr (P:=X.prog) (w:=X.w) rel
 obtain⟨z,hd,QI,r0,dd⟩:=KA I2.hok e
 cases r0
 refine⟨rs,c,dd,fun h' KD hs=>⟨.ref s.heap.objs.size,_,?_,rfl,q2⟩⟩
 have hz:(lI [] kvs).length<=sizeLine:=by
  have h1:=nv kvs []
  rw[ZG] at h1
  rw[aan];lia
 have he:∃q,h'.get? s.heap.objs.size=some q:=let⟨q,_,_,hq,_⟩:=KD;⟨q,hq⟩
 exact wL I2 (by rw[e];exact True.intro) hs he (EE hz hd (rk.merge .nil) KD)
section
variable {X:Cx}{pins:AAD}{σ:St}{H:Hp}{s:Shared}{a:Addr}{y d:V}{u r:Value}{o:Option V}{A:Around}{E:AAB}
end
section
variable {X:Cx}{o e f:Expr}{apos cpos:Pos}{td ty tx:TE}
end
section
variable {X:Cx}{pins:AAD}{σ:St}{H:Hp}{s:Shared}{a:Addr}{kvs:List (Key×V)}{A:Around}{E:AAB}
end
section
variable {X:Cx}{pins:AAD}{σ:St}{H:Hp}{s:Shared}{a:Addr}{y:V}{u:Value}{A:Around}{E:AAB}
end
end L2
namespace HT
open PySem PyProof.Rows
variable {Q:AAB}{lo hi:Option Int}
section
open PySem.SeqAt
open PySem.AutoSeq1 (wpAny_loadPart')
open PySem.MeetsSeq PySem.MeetsSeq2 PySem.MeetsSeq3
end
section
variable {prog:Program}{w:World}{A:Around}{E:AAB}{s:Shared}
def Ie {t b:Addr}{vs ws:AAI}(ht:IsTup s.heap t vs.toArray) (hb:IsTup s.heap b ws.toArray) (hv:vs≠[])
  (h1:ws=[]->Q (.ref t) s) (h2:ws≠[]->Q (.ref s.heap.objs.size) {s with heap:=s.heap.push {cls:=.type "tuple",data:=.seq (vs++ws).toArray}})
  (hsz:vs.length+ws.length<=sizeLine):wpAny (model prog w) A (binaryOp .Add (.ref t) (.ref b)) Q E s:=by
 obtain⟨⟨cls,dd,data,sl⟩,ho,hc,n,hd⟩:=id ht
 obtain⟨⟨Sl,dd2,data2,sl2⟩,ho2,hc2,n2,hd2⟩:=id hb
 simp only at hc hd hc2 hd2
 subst hc hd hc2 hd2
 have e:vs.toArray++ws.toArray=(vs++ws).toArray:=by simp
 by_cases hw:ws=[]
 ·exact concat_meets ⟨_,ho,rfl⟩ ⟨_,ho2,rfl⟩ aaD seq_tuple_add ZW ZR (ZL _ _)
   (tuple_addW1 t b vs.toArray ws.toArray n n2 dd dd2 sl sl2 (by simpa using hv) (by simp[hw])) ⟨ho,ho2,h1 hw⟩
 ·refine concat_meets ⟨_,ho,rfl⟩ ⟨_,ho2,rfl⟩ aaD seq_tuple_add ZW ZR (ZL _ _)
   (tuple_addW2 t b vs.toArray ws.toArray n n2 dd dd2 sl sl2 (by simpa using hv) (by simpa using hw) (by rw[X0,X0];exact hsz)) ⟨ho,ho2,?_⟩
  rw[e]
  exact h2 hw
noncomputable def ff (n d:Nat):Option Int->Nat
 | none=>d
 | some v=>if v < 0 then(v+(n:Int)).toNat else min v.toNat n
def Lv (n d:Nat) (hd:d<=n) (o:Option Int):ff n d o<=n:=by
 cases o with
 | none=>exact hd
 | some v=>
  show(if v < 0 then(v+(n:Int)).toNat else min v.toNat n)<=n
  by_cases hv:v < 0
  ·rw[if_pos hv];lia
  ·rw[if_neg hv];exact Nat.min_le_right _ _
def BN (v:Int) (n d:Nat):(if v < 0 then max (v+(n:Int)) 0 else min v (n:Int))=((ff n d (some v):Nat):Int):=by
 show(if v < 0 then max (v+(n:Int)) 0 else min v (n:Int))=(((if v < 0 then(v+(n:Int)).toNat else min v.toNat n):Nat):Int)
 by_cases hv:v < 0
 ·simp only[if_pos hv];lia
 ·simp only[if_neg hv];lia
def An (lo hi:Option Int) (n:Nat):Builtin.Slice.sliceAdjust lo hi 1 (n:Int)=(((ff n 0 lo:Nat):Int),((ff n n hi:Nat):Int)):=by
 have h1:¬((1:Int) < 0):=by lia
 unfold Builtin.Slice.sliceAdjust
 simp only[h1,aal]
 refine Prod.ext ?_ ?_
 ·cases lo with
  | none=>rfl
  | some v=>exact BN v n 0
 ·cases hi with
  | none=>rfl
  | some v=>exact BN v n n
def Ao (i j:Nat):Builtin.Slice.slicePlaces (i:Int) (j:Int) 1=j - i:=by
 unfold Builtin.Slice.slicePlaces
 have h1:(1:Int) > 0:=by lia
 simp only[h1,if_true,Int.ediv_one]
 split <;> lia
def su {v:Value}{o:Option Int}{Q:Option Int->Shared->Prop}(p:IsPart v o) (h:Q o s):wpAny (model prog w) A (Builtin.Slice.slicePartIndex v) Q E s:=by
 cases p with
 | none=>exact slicePart_none h
 | int i t=>exact slicePart_int h
def jY {sl:Addr}{vl vu:Value}{n:Nat}{Q:Int×Int×Nat->Shared->Prop}(hs:s.heap.IsSliceOf sl vl vu .none) (pl:IsPart vl lo) (pu:IsPart vu hi)
  (h:Q (((ff n 0 lo:Nat):Int),1,ff n n hi - ff n 0 lo) s):wpAny (model prog w) A (Builtin.Slice.sliceApplied (.ref sl) (pure (n:Int))) Q E s:=by
 obtain⟨os,hos,hcs,hds⟩:=id hs
 unfold Builtin.Slice.sliceApplied Builtin.Slice.sliceFields
 refine XY (XY (YG hos hds (x:=vl) rfl (XY (YG hos hds (x:=vu) rfl (XY (YG hos hds (x:=.none) rfl (XZ ?_)))))))
 refine XY (slicePart_none ?_)
 show wpAny _ _ (if((1:Int) == 0)=true then _ else _) _ _ s
 rw[if_neg (by decide)]
 refine XY (su pl (XY (su pu (XY (XZ ?_)))))
 show wpAny _ _ (match Builtin.Slice.sliceAdjust lo hi 1 (n:Int) with | (lo,hi)=>pure (lo,(1:Int),Builtin.Slice.slicePlaces lo hi 1)) _ _ s
 rw[An lo hi n]
 show wpAny _ _ (pure (((ff n 0 lo:Nat):Int),(1:Int),Builtin.Slice.slicePlaces ((ff n 0 lo:Nat):Int) ((ff n n hi:Nat):Int) 1)) _ _ s
 rw[Ao]
 exact XZ h
def EH (xs:AAH) (i k:Nat):((List.range k).filterMap fun(m:Nat)=>xs[((i:Int)+(m:Int) * 1).toNat]?).toArray=((xs.toList.drop i).take k).toArray:=by
 have e:(fun(m:Nat)=>xs[((i:Int)+(m:Int) * 1).toNat]?)=fun m=>xs[i+m]?:=by
  funext m
  have:((i:Int)+(m:Int) * 1).toNat=i+m:=by lia
  rw[this]
 rw[e]
 have:=pick_run xs i k
 rw[List.filterMap_map] at this
 have e2:((fun x=>xs[x]?) ∘ fun x=>i+x)=fun m=>xs[i+m]?:=rfl
 rw[e2] at this
 rw[this]
def oM {t sl:Addr}{items:AAH}{vl vu:Value}(ht:IsTup s.heap t items) (hs:s.heap.IsSliceOf sl vl vu .none) (pl:IsPart vl lo) (pu:IsPart vu hi)
  (hw:¬(ff items.size 0 lo=0/\ff items.size items.size hi=items.size))
  (h:Q (.ref s.heap.objs.size) {s with heap:=s.heap.push {cls:=.type "tuple",data:=.seq ((items.toList.drop (ff items.size 0 lo)).take (ff items.size items.size hi - ff items.size 0 lo)).toArray}})
  (hsz:items.size<=sizeLine):wpAny (model prog w) A (getItem (.ref t) (.ref sl)) Q E s:=by
 have BO:sizeOk (.seq ((items.toList.drop (ff items.size 0 lo)).take (ff items.size items.size hi - ff items.size 0 lo)).toArray):=by
  show((items.toList.drop (ff items.size 0 lo)).take (ff items.size items.size hi - ff items.size 0 lo)).toArray.size<=sizeLine
  rw[X0,ZZ,ZC,aak]
  lia
 have hj:ff items.size items.size hi<=items.size:=Lv _ _ (X6 _) hi
 obtain⟨os,hos,hcs,hds⟩:=id hs
 have Sm:s.TypeIs (.ref sl) "slice":=⟨os,hos,hcs⟩
 unfold getItem
 try with_reducible refine YI ?_
 first | refine XY (XZ ?_) | skip
 refine XY (wpAny_sequenceKey ht.typeIs (by decide) ?_)
 refine XY (Za (name:=Str.ofString "__getitem__") ht.typeIs YA
  (Z0 YA ht.typeIs entry_tuple_getitem ?_ (args_tuple_getitem _ _)))
 show wpAny _ _ (Builtin.Tuple.tupleItemsOf (.ref t) >>= _) _ _ s
 refine XY (tupleItemsOf_ ht ?_)
 refine XY (aaE Sm ?_)
 rw[if_pos (by decide)]
 refine XY (jY hs pl pu ?_)
 have hno:¬((((ff items.size 0 lo:Nat):Int) == 0 && (1:Int) == 1 && (ff items.size items.size hi - ff items.size 0 lo) == items.size)=true):=by
  intro q
  rw[Yr,Yr] at q
  have q1:((ff items.size 0 lo:Nat):Int)=0:=eq_of_beq q.1.1
  have q2:ff items.size items.size hi - ff items.size 0 lo=items.size:=eq_of_beq q.2
  exact hw ⟨by lia,by lia⟩
 show wpAny _ _ (if(((ff items.size 0 lo:Nat):Int) == 0 && (1:Int) == 1 && (ff items.size items.size hi - ff items.size 0 lo) == items.size)=true then _ else _) _ _ s
 rw[if_neg hno,EH]
 first
  | exact XY (m:=Builtin.Tuple.tupleExact _) (YY (XZ ⟨_,rfl,XZ h⟩) BO)
  | exact XY (m:=Builtin.Tuple.tupleExact _) (YY (XY (XZ (XZ ⟨_,rfl,XZ h⟩))) BO)
  | exact XY (XY (m:=Builtin.Tuple.tupleExact _) (YY (XZ (XZ ⟨_,rfl,XZ h⟩)) BO))
  | exact XY (XY (m:=Builtin.Tuple.tupleExact _) (YY (XZ ⟨_,rfl,XZ h⟩) BO))
end
end HT
namespace L2
open PySem PySem.Spec PyProof.Rows
variable {xs:List V}{n:Nat}{pins:AAD}{its its':AAI}
abbrev TO:=St->Hp->(Option Int->Hp->Prop)->Prop
def PO (X:Cx) (e:Option Expr) (t:TO):Prop:=
 ∀(pins:AAD) (s:Shared) (σ:St) (H:Hp) (Q:Option Int->Hp->Prop),Inv X pins σ H s->t σ H Q->
  wpAny (model X.prog X.w) X.A (evalPart e X.env) (fun u s'=>∃o H',Inv X pins σ H' s'/\IsPart u o/\Q o H') X.xe s
def Ig:TO:=fun _ H Q=>Q none H
def OF (t:TE):TO:=fun σ H Q=>t σ H fun x H1=>∃i,x= .int i/\Q (some i) H1
section
variable {X:Cx}{e:Expr}{te:TE}{lo hi:Option Expr}{tl th:TO}{pos p2:Pos}
def Ih:PO X none Ig:=by
 intro pins s σ H Q I h
 rw[evalPart_none]
 exact XZ ⟨none,H,I,.none,h⟩
def Ii (h:PE X e te):PO X (some e) (OF te):=by
 intro pins s σ H Q I hw
 rw[evalPart_some]
 refine dj (h pins s σ H _ I hw) fun u s1 hh=>?_
 obtain⟨x,H1,I1,r1,q1⟩:=hh
 obtain⟨i,rfl,q⟩:=q1
 obtain⟨t,rfl⟩:=r1
 exact⟨some i,H1,I1,.int i t,q⟩
def OG (X:Cx) (r:V->Option Int->Option Int->Hp->VK->Prop):Prop:=
 ∀(pins:AAD) (s:Shared) (σ:St) (H:Hp) (x:V) (v vl vu:Value) (lo hi:Option Int) (sl:Addr) (Q:VK),Inv X pins σ H s->RelV x v->s.heap.IsSliceOf sl vl vu .none->IsPart vl lo->IsPart vu hi->r x lo hi H Q->
  ∃T id,typeLookup (.type T) "__getitem__" =pure (some (.builtin id))/\s.TypeIs v T/\wpAny (model X.prog X.w) X.A (getItem v (.ref sl)) (EP X pins σ Q) X.xe s
def V3 (r:V->Option Int->Option Int->Hp->VK->Prop) (te:TE) (tl th:TO):TE:=fun σ H Q=>te σ H fun x H1=>tl σ H1 fun l H2=>th σ H2 fun u H3=>r x l u H3 Q
def yx {r:V->Option Int->Option Int->Hp->VK->Prop}(hr:OG X r) (he:PE X e te) (hl:PO X lo tl) (hu:PO X hi th):PE X (.Subscript e (.Slice lo hi none p2) pos) (V3 r te tl th):=by
 intro pins s σ H Q I h
 refine Subscript_ (dj (he pins s σ H _ I h) fun v s1 hh=>?_)
 obtain⟨x,H1,I1,r1,q1⟩:=hh
 refine wpAny_Slice (dj (hl pins s1 σ H1 _ I1 q1) fun vl s2 ⟨l,H2,I2,pl,q2⟩=>dj (hu pins s2 σ H2 _ I2 q2) fun vu s3 hh=>?_)
 obtain⟨u,H3,I3,pu,q3⟩:=hh
 rw[evalPart_none]
 refine XZ ?_
 have I4:Inv X pins σ H3 {s3 with heap:=s3.heap.push {cls:=.type "slice",data:=.fields #[vl,vu,.none]}}:=I3.kept (t':=s3.toks) fun b ob q=>X3 _ q
 obtain⟨T,id,hT,ht,hg⟩:=hr pins {s3 with heap:=s3.heap.push {cls:=.type "slice",data:=.fields #[vl,vu,.none]}} σ H3 x v vl vu l u s3.heap.objs.size Q I4 r1 (Heap.IsSliceOf.new ..) pl pu q3
 show wpAny (model X.prog X.w) X.A (subscriptTail e (.Slice lo hi none p2) v (.ref s3.heap.objs.size)) (EP X pins σ Q) X.xe {s3 with heap:=s3.heap.push {cls:=.type "slice",data:=.fields #[vl,vu,.none]}}
 exact tail_any (ops:=[.ref s3.heap.objs.size,v]) ht hT hg (by with_unfolding_all rfl)
noncomputable def uG (xs:List V) (lo hi:Option Int):List V:=(xs.drop (HT.ff xs.length 0 lo)).take (HT.ff xs.length xs.length hi - HT.ff xs.length 0 lo)
def qM (xs:List V) (lo hi:Option Int):(uG xs lo hi).length<=xs.length:=by
 unfold uG
 rw[ZZ,ZC]
 lia
def So (K:AAA):V->Option Int->Option Int->Hp->VK->Prop:=fun x lo hi H Q=>∃a xs,x= .ref a/\q8 K H a xs/\
 ¬(HT.ff xs.length 0 lo=0/\HT.ff xs.length xs.length hi=xs.length)/\∀p,H p=none->Q (.ref p) (upd H p (.tup (uG xs lo hi)))
def Lw:OG X (So X.K):=by
 intro pins s σ H x v vl vu lo hi sl Q I rx hs pl pu h
 obtain⟨a,xs,rfl,hx,hw,q⟩:=h
 cases rx
 obtain⟨its,r,ht,hz⟩:=I.tuple hx
 have hlen:its.toArray.size=xs.length:=by rw[X0];exact r.length.symm
 refine⟨"tuple",_,YA.lookup,ht.typeIs,?_⟩
 refine HT.oM ht hs pl pu (by rw[hlen];exact hw) ?_ (by rw[hlen];exact hz)
 rw[hlen]
 refine⟨.ref s.heap.objs.size,_,I.laid (t':=s.toks) (o:=.tup (uG xs lo hi)) (fun b ob q=>X3 _ q) (X6 _) ?_,rfl,q _ (I.hok.fresh (X6 _))⟩
 exact⟨Yc (qM xs lo hi) hz,_,(r.drop (HT.ff xs.length 0 lo)).take (HT.ff xs.length xs.length hi - HT.ff xs.length 0 lo),IsTup.new _ _⟩
def OH (K:AAA):R2:=fun x y H Q=>∃a b xs ys,x= .ref a/\y= .ref b/\q8 K H a xs/\q8 K H b ys/\xs≠[]/\xs.length+ys.length<=sizeLine/\
 (ys=[]->Q (.ref a) H)/\(ys≠[]->∀p,H p=none->Q (.ref p) (upd H p (.tup (xs++ys))))
def Vals.wM {us:AAI}(r:Vals xs us):us=[]↔xs=[]:=by
 cases r with
 | nil=>simp
 | cons _ _=>simp
def Ij:qL X (binaryOp .Add) (OH X.K):=by
 intro pins s σ H x y v u Q I rx ry h
 obtain⟨a,b,xs,ys,rfl,rfl,ha,hb,hx,hz,q1,q2⟩:=h
 cases rx
 cases ry
 obtain⟨its,r1,p1,_⟩:=I.tuple ha
 obtain⟨its2,r2,p2,_⟩:=I.tuple hb
 refine HT.Ie p1 p2 (fun z=>hx (r1.wM.mp z)) (fun z=>⟨.ref a,H,I,rfl,q1 (r2.wM.mp z)⟩) (fun z=>?_) (by rw[<-r1.length,<-r2.length];exact hz)
 refine⟨.ref s.heap.objs.size,_,I.laid (t':=s.toks) (o:=.tup (xs++ys)) (fun b ob q=>X3 _ q) (X6 _) ?_,rfl,q2 (fun w=>z (r2.wM.mpr w)) _ (I.hok.fresh (X6 _))⟩
 exact⟨by rw[Yy];exact hz,_,r1.append r2,IsTup.new _ _⟩
end
noncomputable def CZ (n:Nat) (i:Int):Option Nat:=if 0<=i then(if i < n then some i.toNat else none) else if -(n:Int)<=i then some (i+n).toNat else none
def gR {α:Type}(xs:List α) (i:Int):Option α:=(CZ xs.length i).bind fun j=>xs[j]?
def BP {i:Int}{j:Nat}(h:CZ n i=some j):seqIndex? i n=some j/\j < n/\-(n:Int)<=i/\i < n:=by
 unfold CZ at h
 by_cases h0:0<=i
 ·rw[if_pos h0] at h
  by_cases h1:i < n
  ·rw[if_pos h1] at h
   have e:i.toNat=j:=Yn h
   exact⟨by rw[seqIndex_of h0 h1,e],by lia,by lia,h1⟩
  ·rw[if_neg h1] at h;cases h
 ·rw[if_neg h0] at h
  by_cases h1:-(n:Int)<=i
  ·rw[if_pos h1] at h
   have e:(i+n).toNat=j:=Yn h
   exact⟨by rw[seqIndex_neg (by lia) h1,e],by lia,h1,by lia⟩
  ·rw[if_neg h1] at h;cases h
def wN {α:Type}{xs:List α}{i:Int}{v:α}(h:gR xs i=some v):∃j,seqIndex? i xs.length=some j/\xs[j]? =some v/\j < xs.length/\-(xs.length:Int)<=i/\i < xs.length:=by
 unfold gR at h
 cases e:CZ xs.length i with
 | none=>rw[e] at h;cases h
 | some j=>
  rw[e] at h
  obtain⟨h1,h2,h3,h4⟩:=BP e
  exact⟨j,h1,h,h2,h3,h4⟩
def rH (b:Expr):Prop:=∀o i,subscripted b false o i=operate [o,i] (getItem o i)
def EI (X:Cx) (r:R2):Prop:=
 ∀(value slice:Expr) (pins:AAD) (s:Shared) (σ:St) (H:Hp) (x y:V) (v u:Value) (Q:VK),Inv X pins σ H s->RelV x v->RelV y u->r x y H Q->
  subscripted slice false v u=operate [v,u] (getItem v u)->wpAny (model X.prog X.w) X.A (subscriptTail value slice v u) (EP X pins σ Q) X.xe s
def Vf (X:Cx) (id:String) (r:V->List V->Hp->VK->Prop):Prop:=
 ∀(pins:AAD) (s:Shared) (σ:St) (H:Hp) (x:V) (xs:List V) (v:Value) (us:AAI) (Q:VK),Inv X pins σ H s->RelV x v->Vals xs us->r x xs H Q->
  wpAny (model X.prog X.w) X.A (call (.builtin id) (v :: us)) (EP X pins σ Q) X.xe s
section
variable {X:Cx}{a b:Expr}{ta tb:TE}{pos:Pos}
def EI.or {r r':R2}(h:EI X r) (h':EI X r'):EI X (fun x y H Q=>r x y H Q\/r' x y H Q):=by
 intro value slice pins s σ H x y v u Q I rx ry q hs
 rcases q with q | q
 ·exact h value slice pins s σ H x y v u Q I rx ry q hs
 ·exact h' value slice pins s σ H x y v u Q I rx ry q hs
def EJ {r:R2}(hr:EI X r) (ha:PE X a ta) (hb:PE X b tb) (hs:rH b):PE X (.Subscript a b pos) (Kr r ta tb):=by
 intro pins s σ H Q I h
 exact Subscript_ (Lg ha hb I h fun v u s2 x y H2 I2 rx ry q=>hr a b pins s2 σ H2 x y v u Q I2 rx ry q (hs _ _))
def OI (K:AAA):R2:=fun x y H Q=>∃p xs i v,x= .ref p/\y= .int i/\k7 K H p xs/\gR xs i=some v/\Q v H
def OJ (K:AAA):R2:=fun x y H Q=>∃p xs i v,x= .ref p/\y= .int i/\q8 K H p xs/\gR xs i=some v/\Q v H
def OL:R2:=fun x y H Q=>∃z i c,x= .str z/\y= .int i/\z.length<=sizeLine/\gR z.cps.toList i=some c/\Q (.str ⟨#[c]⟩) H
def BQ:EI X (OI X.K):=by
 intro value slice pins s σ H x y v u Q I rx ry h hs
 obtain⟨p,xs,i,z,rfl,rfl,hq,he,q⟩:=h
 cases rx
 obtain⟨t,rfl⟩:=ry
 obtain⟨its,r,pl,hz⟩:=I.list hq
 obtain⟨j,h1,h2,h3,h4,h5⟩:=wN he
 obtain⟨w,ew,rw'⟩:=r.get h2
 have hl:=r.length
 have hn:=pU
 have fin:EP X pins σ Q w s:=⟨z,H,I,rw',q⟩
 by_cases h0:0<=i
 ·have hj:i.toNat=j:=by
   rw[seqIndex_of h0 h5] at h1
   exact Yn h1
  exact item_listR pl.isList h0 (by lia) (by rw[hj];simpa using ew) fin hs
 ·have hj:(i+(its.toArray.size:Int)).toNat=j:=by
   rw[seqIndex_neg (by lia) h4] at h1
   rw[X0,<-hl]
   exact Yn h1
  exact subscriptTail_builtinR (x:=w) pl.isList.typeIs slot_list_getitem.lookup
   (wpAny_getItem_list_neg (Q:=fun r s'=>r=w/\EP X pins σ Q r s') pl.isList (by lia) (by rw[X0] <;> lia) (by lia) (by rw[hj];simpa using ew) ⟨rfl,fin⟩) hs
def EK:EI X (OJ X.K):=by
 intro value slice pins s σ H x y v u Q I rx ry h hs
 obtain⟨p,xs,i,z,rfl,rfl,hq,he,q⟩:=h
 cases rx
 obtain⟨t,rfl⟩:=ry
 obtain⟨its,r,pl,hz⟩:=I.tuple hq
 obtain⟨j,h1,h2,h3,h4,h5⟩:=wN he
 obtain⟨w,ew,rw'⟩:=r.get h2
 have hl:=r.length
 have hn:=pU
 have fin:EP X pins σ Q w s:=⟨z,H,I,rw',q⟩
 exact subscriptTail_builtinR (x:=w) pl.typeIs slot_tuple_getitem.lookup
  (getItem_tuple (j:=j) (Q:=fun r s'=>r=w/\EP X pins σ Q r s') pl (by lia) (by lia) (by rw[X0,<-hl];exact h1) (by simpa using ew) ⟨rfl,fin⟩) hs
def EL:EI X OL:=by
 intro value slice pins s σ H x y v u Q I rx ry h hs
 obtain⟨z,i,c,rfl,rfl,hz,he,q⟩:=h
 obtain⟨t,rfl⟩:=rx
 obtain⟨t',rfl⟩:=ry
 obtain⟨j,h1,h2,h3,h4,h5⟩:=wN he
 have hl:z.cps.toList.length=z.length:=by simp[Str.length]
 rw[hl] at h1 h4 h5
 have hn:=pU
 exact tail_any (ZD s z t) slot_str_getitem.lookup (getItem_str (c:=c) (by
  have e1:decide (i < -(2 ^ 63:Int))=false:=Yt (by lia)
  have e2:decide (i≥2 ^ 63)=false:=Yt (by lia)
  rw[e1,e2,Bool.or_false]) (by rw[h1];simpa using h2) ⟨.str ⟨#[c]⟩,H,I.tok _,⟨_,rfl⟩,q⟩) hs
def V4 (K:AAA):R2:=fun x y H Q=>OI K x y H Q\/OJ K x y H Q\/OL x y H Q
def EM:EI X (V4 X.K):=BQ.or (EK.or EL)
def Aq (its:AAI) (n j:Nat) (u:Value):Obj.mapSeq (·.setIfInBounds j u) {cls:=.type "list",data:=.seq its.toArray n}={cls:=.type "list",data:=.seq (its.set j u).toArray n}:=by
 simp[Obj.mapSeq]
def Inv.lst {pins:AAD}{σ:St}{H:Hp}{s:Shared}{p:Addr}{xs:List V}(I:Inv X pins σ H s) (h:H p=some (.lst xs)):
  ∃(its:AAI) (n:Nat),Vals xs its/\s.heap.get? p=some {cls:=.type "list",data:=.seq its.toArray n}/\xs.length<=sizeLine:=by
 obtain⟨z,its,n,r,e⟩:=I.hok p _ h
 exact⟨its,n,r,e,z⟩
def Inv.Lx {σ:St}{H:Hp}{s:Shared}{p:Addr}{ys:List V}{n':Nat}{f:Obj->Obj}(I:Inv X pins σ H s) (h:H p=some (.lst xs))
  (ho:s.heap.get? p=some {cls:=.type "list",data:=.seq its.toArray n}) (hf:f {cls:=.type "list",data:=.seq its.toArray n}={cls:=.type "list",data:=.seq its'.toArray n'}) (r:Vals ys its') (hz:ys.length<=sizeLine) (t:Nat):
  Inv X pins σ (upd H p (.lst ys)) {s with heap:=s.heap.update p f,toks:=t}:=by
 have e:(s.heap.update p f).get? p=some {cls:=.type "list",data:=.seq its'.toArray n'}:=by
  rw[YQ f ho (by rw[hf] <;> rfl),hf]
 refine I.write (x:=p) (e:=p) (by rw[h];trivial) (.inl rfl) (fun b u hb q=>(YB _ _ (Y8 hb)).trans q) ⟨_,e⟩ ?_
 exact⟨hz,its',n',r,e⟩
def OM:V->V->V->Hp->(Hp->Prop)->Prop:=fun o i v H Q=>∃p xs k j,o= .ref p/\i= .int k/\H p=some (.lst xs)/\CZ xs.length k=some j/\Q (upd H p (.lst (xs.set j v)))
def set_list:Og X OM:=by
 intro pins s σ H o i v ov iv u Q I ro ri rv h
 obtain⟨p,xs,k,j,rfl,rfl,hp,hj,q⟩:=h
 cases ro
 obtain⟨t,rfl⟩:=ri
 obtain⟨its,n,r,ho,hz⟩:=I.lst hp
 obtain⟨h1,h2,h3,h4⟩:=BP hj
 have hl:=r.length
 have hn:=pU
 have I':Inv X pins σ (upd H p (.lst (xs.set j v))) {s with heap:=s.heap.update p (Obj.mapSeq (·.setIfInBounds j u))}:=
  I.Lx hp ho (Aq its n j u) (r.set rv j) (by rw[Y0];exact hz) s.toks
 by_cases h0:0<=k
 ·have hk:k.toNat=j:=by
   rw[seqIndex_of h0 h4] at h1
   exact Yn h1
  exact PySem.W.ki_setAt ho h0 (by lia) (by rw[X0,<-hl];exact h4) (by rw[hk];exact⟨_,I',q⟩)
 ·have hk:(k+(its.toArray.size:Int)).toNat=j:=by
   rw[seqIndex_neg (by lia) h3] at h1
   rw[X0,<-hl]
   exact Yn h1
  exact PySem.W.ki_setBack ho (by lia) (by rw[X0,<-hl];exact h3) (by lia) (by rw[hk];exact⟨_,I',q⟩)
def wO (lo hi:Option Int) (n:Nat):(sliceBounds lo hi none n).1=((HT.ff n 0 lo:Nat):Int)/\(sliceBounds lo hi none n).2.1=((HT.ff n n hi:Nat):Int)/\(sliceBounds lo hi none n).2.2=1:=by
 refine⟨?_,?_,rfl⟩
 ·cases lo with
  | none=>simp[sliceBounds,HT.ff]
  | some i=>
   simp only[sliceBounds,HT.ff,Option.getD_none,show(1:Int) > 0 by decide,if_true]
   by_cases h:i < 0
   ·simp only[h,if_true] <;> lia
   ·simp only[h,aal] <;> lia
 ·cases hi with
  | none=>simp[sliceBounds,HT.ff]
  | some i=>
   simp only[sliceBounds,HT.ff,Option.getD_none,show(1:Int) > 0 by decide,if_true]
   by_cases h:i < 0
   ·simp only[h,if_true] <;> lia
   ·simp only[h,aal] <;> lia
def uH (its:AAI) (lo hi:Option Int):slicePick its.toArray lo hi none=((its.drop (HT.ff its.length 0 lo)).take (HT.ff its.length its.length hi - HT.ff its.length 0 lo)).toArray:=by
 obtain⟨h1,h2,h3⟩:=wO lo hi its.toArray.size
 unfold slicePick
 rw[h1,h2,h3]
 simp only[sliceRange_one,pick_run,X0] <;> rfl
def Ss (K:AAA):V->Option Int->Option Int->Hp->VK->Prop:=fun x lo hi H Q=>∃a xs,x= .ref a/\k7 K H a xs/\∀p,H p=none->Q (.ref p) (upd H p (.lst (uG xs lo hi)))
def BR:OG X (Ss X.K):=by
 intro pins s σ H x v vl vu lo hi sl Q I rx hs pl pu h
 obtain⟨a,xs,rfl,hx,q⟩:=h
 cases rx
 obtain⟨its,r,ht,hz⟩:=I.list hx
 have hlen:=r.length
 refine⟨"list",_,slot_list_getitem.lookup,ht.isList.typeIs,?_⟩
 refine wpAny_getItem_list_slice ht.isList hs pl pu .none (by simp) ?_ (by rw[X0] <;> lia)
 rw[uH,<-hlen]
 refine⟨.ref s.heap.objs.size,_,I.laid (t':=s.toks) (o:=.lst (uG xs lo hi)) (fun b ob q=>X3 _ q) (X6 _) ?_,rfl,q _ (I.hok.fresh (X6 _))⟩
 exact⟨Yc (qM xs lo hi) hz,_,0,(r.drop (HT.ff xs.length 0 lo)).take (HT.ff xs.length xs.length hi - HT.ff xs.length 0 lo),Yk _ rfl⟩
def kE:dU X (.builtin "len") (fun xs H Q=>∃p ys,xs=[.ref p]/\(k7 X.K H p ys\/q8 X.K H p ys)/\Q (.int ys.length) H):=by
 intro pins s σ H xs us Q I r h
 obtain⟨p,ys,rfl,hq,q⟩:=h
 obtain⟨u,rfl,rx⟩:=vals1 r
 cases rx
 have hn:=pU
 rcases hq with hq | hq
 ·obtain⟨its,r',pl,hz⟩:=I.list hq
  have hlen:=r'.length
  exact Calls.call_len_list pl.isList (by simp only[X0] <;> lia) ⟨.int ys.length,H,I.tok _,⟨s.toks+1,by rw[X0,hlen]⟩,q⟩
 ·obtain⟨its,r',pl,hz⟩:=I.tuple hq
  have hlen:=r'.length
  exact len_tuple pl (by simp only[X0] <;> lia) ⟨.int ys.length,H,I.tok _,⟨s.toks+1,by rw[X0,hlen]⟩,q⟩
def oN:dU X (.builtin "len") (fun xs H Q=>∃z,xs=[.str z]/\z.length<=sizeLine/\Q (.int z.length) H):=by
 intro pins s σ H xs us Q I r h
 obtain⟨z,rfl,hz,q⟩:=h
 obtain⟨u,rfl,t,rfl⟩:=vals1 r
 have hn:=pU
 exact len_str (by lia) ⟨.int z.length,H,I.tok _,⟨_,rfl⟩,q⟩
def nA:dU X (.type "tuple") (fun xs H Q=>∃p ys,xs=[.ref p]/\((k7 X.K H p ys/\∀l,H l=none->Q (.ref l) (upd H l (.tup ys)))\/(q8 X.K H p ys/\Q (.ref p) H))):=by
 intro pins s σ H xs us Q I r h
 obtain⟨p,ys,rfl,h⟩:=h
 obtain⟨u,rfl,rx⟩:=vals1 r
 cases rx
 rcases h with⟨hq,q⟩ | ⟨hq,q⟩
 ·obtain⟨its,r',pl,hz⟩:=I.list hq
  have hlen:=r'.length
  refine call_tuple_list pl.isList (fun h' kp=>?_) (by simp only[X0] <;> lia)
  have I1:Inv X pins σ H {s with heap:=h'}:=I.kept (t':=s.toks) kp
  have I2:Inv X pins σ (upd H h'.objs.size (.tup ys)) {s with heap:=h'.push {cls:=.type "tuple",data:=.seq its.toArray}}:=
   I1.laid (t':=s.toks) (fun b o e=>X3 _ e) (X6 _) (show c7 X.prog X.w _ _ _ (.tup ys) from⟨hz,its,r',IsTup.new _ _⟩)
  exact⟨.ref h'.objs.size,_,I2,rfl,q _ (I1.hok.fresh (X6 _))⟩
 ·obtain⟨its,r',pl,hz⟩:=I.tuple hq
  exact call_tuple_same pl ⟨.ref p,H,I,rfl,q⟩
def Vg (K:AAA) (T:String) (x:V) (H:Hp):Prop:=match x with
 | .str _=>T="str"
 | .int _=>T="int"
 | .ref p=>(T="list"/\∃xs,k7 K H p xs)\/(T="tuple"/\∃o,K.lookup p=some o/\o.cls= .type "tuple"/\o.dict=none)\/
   (T="dict"/\((∃kvs,H p=some (.dK kvs))\/∃kvs,H p=some (.dT kvs)))\/(T="set"/\∃S n,H p=some (.set S n))
 | _=>False
def Ly {σ:St}{H:Hp}{s:Shared}{T:String}{x:V}{v:Value}(I:Inv X pins σ H s) (r:RelV x v) (ty:Vg X.K T x H):
  s.TypeIs v T/\∀a,v= .ref a->∃ob,s.heap.get? a=some ob/\ob.dict=none:=by
 cases x with
 | str z=>
  obtain⟨t,rfl⟩:=r
  cases(show T="str" from ty)
  exact⟨ZD s z t,fun _ e=>nomatch e⟩
 | int i=>
  obtain⟨t,rfl⟩:=r
  cases(show T="int" from ty)
  exact⟨typeIs_int s i t,fun _ e=>nomatch e⟩
 | ref p=>
  cases r
  rcases ty with⟨rfl,xs,hq⟩ | ⟨rfl,o,hk,hc,hd⟩ | ⟨rfl,hk⟩ | ⟨rfl,S,n,hk⟩
  ·obtain⟨its,_,pl,_⟩:=I.list hq
   refine⟨pl.isList.typeIs,fun a e=>?_⟩
   cases e
   obtain⟨o,n,e,c,hd,_⟩:=pl
   exact⟨o,e,hd⟩
  ·refine⟨⟨o,I.qK p o hk,hc⟩,fun a e=>?_⟩
   cases e
   exact⟨o,I.qK _ o hk,hd⟩
  ·have z:∃o,s.heap.get? p=some o/\o.ExactDict:=by
    rcases hk with⟨kvs,hk⟩ | ⟨kvs,hk⟩
    ·obtain⟨_,_,_,_,o,_,_,e,ex,_⟩:=I.hok p _ hk
     exact⟨o,e,ex⟩
    ·obtain⟨_,_,_,_,o,_,_,e,ex,_⟩:=I.hok p _ hk
     exact⟨o,e,ex⟩
   obtain⟨o,e,ex⟩:=z
   refine⟨⟨o,e,ex.1⟩,fun a e2=>?_⟩
   cases e2
   exact⟨o,e,ex.2.1⟩
  ·obtain⟨o,_,_,_,e,ex,_⟩:=I.hok p _ hk
   refine⟨⟨o,e,ex.1⟩,fun a e2=>?_⟩
   cases e2
   exact⟨o,e,ex.2.1⟩
 | _=>exact False.elim ty
def V5 (K:AAA) (T:String) (r:V->List V->Hp->VK->Prop) (to:TE) (t:TA):TE:=fun σ H Q=>to σ H fun x H1=>Vg K T x H1/\t σ H1 fun xs H2=>r x xs H2 Q
variable {o e:Expr}{es:List Expr}{to:TE}{t:TA}{name:Str}{apos cpos:Pos}{T id:String}{r:V->List V->Hp->VK->Prop}
def ON (pa:PlainAttrs T) (slot:Slot T name id) (hty:typeOf (.builtin id)=pure (.type "method_descriptor")) (hm:Vf X id r) (ho:PE X o to) (ha:PA X (e :: es) t)
  (hbase:attributeBase o name X.env (eval o X.env)=eval o X.env:=by rfl)
  (hfew:((backTo cpos (starEach (e :: es) X.env)).all (fun x=>!x.1) && (backToKw cpos (keywordEach [] X.env)).all (fun x=>x.1.isSome)
   && decide ((e :: es).length+([]:List Keyword).length+(if([]:List Keyword).isEmpty then 0 else 1) < 30))=true:=by rfl)
  (hline:(apos.endLine == cpos.line)=true:=by rfl) (hs:starEach (e :: es) X.env=(false,eval e X.env) :: starEach es X.env:=by rfl) (hplain:(backTo cpos (starEach es X.env)).any (·.1)=false:=by rfl):
  PE X (.Call (.Attribute o name apos) (e :: es) [] cpos) (V5 X.K T r to t):=by
 intro pins s σ H Q I h
 refine wpAny_Call_method_late hbase hfew hline rfl (dj (ho pins s σ H _ I h) fun v s1 hh=>?_)
 obtain⟨x,H1,I1,r1,ty,q1⟩:=hh
 obtain⟨h1,h2⟩:=Ly I1 r1 ty
 refine⟨T,id,pa,slot,hty,h1,h2,?_⟩
 have hA:=ha cpos pins s1 σ H1 _ I1 q1
 rw[hs] at hA ⊢
 refine Calls.callWith_builtin (by show(false || (backTo cpos (starEach es X.env)).any (·.1))=false;rw[hplain] <;> rfl) (Calls.evalArgs_plain ?_)
 exact dj hA fun us s2 ⟨vs,H2,I2,r2,q2⟩=>hm pins s2 σ H2 x vs v us Q I2 r1 r2 q2
end
def Vh (X:Cx) (id:String) (r:V->List V->Hp->VK->Prop):Prop:=
 ∀(pins:AAD) (s:Shared) (σ:St) (H:Hp) (x:V) (xs:List V) (v:Value) (us:AAI) (Q:VK),Inv X pins σ H s->RelV x v->Vals xs us->r x xs H Q->
  wpAny (model X.prog X.w) X.A (call (.builtin id) (v :: us)) (EP X pins σ Q) X.xe s
theorem Vals.one:∀{x:V}{us:AAI},Vals [x] us->∃u,us=[u]/\RelV x u
 | _,_,.cons r .nil=>⟨_,rfl,r⟩
theorem Vals.eraseIdx:∀{xs:List V}{us:AAI}(i:Nat),Vals xs us->Vals (xs.eraseIdx i) (us.eraseIdx i)
 | _,_,_,.nil=>.nil
 | _,_,0,.cons _ t=>t
 | _,_,i+1,.cons r t=>.cons r (Vals.eraseIdx i t)
theorem vj {α:Type}:∀(l:List α) (i:Nat),(l.eraseIdx i).length<=l.length
 | [],_=>X6 _
 | _ :: _,0=>aao _
 | _ :: r,i+1=>Nat.succ_le_succ (vj r i)
section
variable {X:Cx}{pins:AAD}{σ:St}{H:Hp}{s:Shared}{l b:Addr}{xs ys zs:List V}
def Inv.OO {f:Array Value->Array Value}{t':Nat}(I:Inv X pins σ H s) (hH:H l=some (.lst xs))
  (e:s.heap.get? l=some {cls:=.type "list",data:=.seq its.toArray n}) (hf:f its.toArray=its'.toArray) (hv:Vals ys its') (hz:ys.length<=sizeLine):
  Inv X pins σ (upd H l (.lst ys)) {s with heap:=s.heap.update l (Obj.mapSeq f),toks:=t'}:=by
 have q:=PySem.IsL.update e f
 rw[hf] at q
 refine I.write (x:=l) (e:=l) (by rw[hH];exact trivial) (.inl rfl) (fun b' u hb hu=>(YB s.heap (Obj.mapSeq f) (Y8 hb)).trans hu) ⟨_,q⟩ ?_
 exact⟨hz,its',_,hv,q⟩
def Inv.Su {t':Nat}(I:Inv X pins σ H s) (hv:Vals ys its) (hz:ys.length<=sizeLine):
  Inv X pins σ (upd H s.heap.objs.size (.lst ys)) {s with heap:=s.heap.push {cls:=.type "list",data:=.seq its.toArray},toks:=t'}:=
 I.laid (fun _ _ q=>X3 _ q) (X6 _) ⟨hz,its,0,hv,Yk _ rfl⟩
def Inv.fresh (I:Inv X pins σ H s):H s.heap.objs.size=none:=I.hok.fresh (X6 _)
def Inv.EN (I:Inv X pins σ H s) (hH:H l=some (.lst xs)):xs.length<=sizeLine/\∃(its:AAI) (n:Nat),Vals xs its/\xs.length=its.length/\s.heap.get? l=some {cls:=.type "list",data:=.seq its.toArray n}:=by
 obtain⟨z,its,n,r,e⟩:=I.hok l _ hH
 exact⟨z,its,n,r,r.length,e⟩
end
section
variable {X:Cx}
def BS:V->List V->Hp->VK->Prop:=fun x vs H Q=>∃l xs y,x= .ref l/\vs=[y]/\H l=some (.lst xs)/\xs.length < sizeLine/\Q .cz (upd H l (.lst (xs++[y])))
def iW:Vh X "list.append" BS:=by
 intro pins s σ H x vs v us Q I rx rv h
 obtain⟨l,xs,y,rfl,rfl,hH,hz,q⟩:=h
 cases rx
 obtain⟨u,rfl,ru⟩:=rv.one
 obtain⟨z,its,n,r,hl,e⟩:=I.EN hH
 refine aac F.slot_list_append ⟨_,e,rfl⟩ F.entry_list_append (F.args_list_append_2 _ _) (PySem.list_append l its.toArray n u (by rw[X0];lia)) ⟨e,?_⟩
 refine⟨.cz,_,I.OO (its':=its++[u]) hH e (by simp) (r.append (.cons ru .nil)) ?_,rfl,q⟩
 rw[Yy,List.length_singleton]
 lia
def EO:V->List V->Hp->VK->Prop:=fun x vs H Q=>∃l xs i k y,x= .ref l/\vs=[.int i]/\H l=some (.lst xs)/\-(2 ^ 63)<=i/\i < 2 ^ 63/\seqIndex? i xs.length=some k/\xs[k]? =some y/\Q y (upd H l (.lst (xs.eraseIdx k)))
def ER:Vh X "list.pop" EO:=by
 intro pins s σ H x vs v us Q I rx rv h
 obtain⟨l,xs,i,k,y,rfl,rfl,hH,h1,h2,hk,hy,q⟩:=h
 cases rx
 obtain⟨u,rfl,ru⟩:=rv.one
 obtain⟨t,rfl⟩:=ru
 obtain⟨z,its,n,r,hl,e⟩:=I.EN hH
 obtain⟨w,hw,rw'⟩:=r.get hy
 refine aac F.slot_list_pop ⟨_,e,rfl⟩ F.entry_list_pop (F.args_list_pop_2 _ _)
  (MeetsSeq.list_pop_at l its.toArray n i t k w (fitsIndex_both h1 h2) (by rw[X0,<-hl];exact hk) (by rw[<-Array.getElem?_toList];exact hw) (by rw[X0];lia)) ⟨e,?_⟩
 refine⟨y,_,I.OO (its':=its.eraseIdx k) hH e ?_ (r.eraseIdx k) ?_,rw',q⟩
 ·show its.toArray.eraseIdxIfInBounds k=(its.eraseIdx k).toArray
  rw[List.eraseIdxIfInBounds_toArray]
 ·have:=vj xs k
  lia
end
section
variable {prog:Program}{w:World}{A:Around}{E:AAB}{s:Shared}
end
section
variable {X:Cx}
end
end L2
namespace Vi
open PySem PySem.W PySem.Calls PyProof.Rows
def q9 {P:Params}{h:Heap}:∀(ns:List Int) (vs:AAI),WellAll P h vs (ns.map WData.int)->IntsAre vs ns:=by
 intro ns
 induction ns with
 | nil=>
  intro vs w
  rw[List.map_nil] at w
  cases w
  exact .nil
 | cons n ns ih=>
  intro vs w
  rw[Yj] at w
  cases w with
  | cons a b=>
   cases a
   exact .cons _ _ (ih _ b)
def C1 {l:OpenLaw}{n:Nat}(hn:l.most=some n){P:Params}{h:Heap}{args:List WData}{vals:AAI}
  (hpre:l.row.toRowW.claim.pre args=true) (hwl:WellAll P h vals args):
  ∃a vs ns,vals=[Value.ref a]/\args=[WData.list (ns.map WData.int)]/\h.get? a=some {cls:=.type "list",data:=.seq vs.toArray}/\IntsAre vs ns/\ns.length<=n:=by
 have hsh:WShape.hasAll [] args [.list .int]=true:=(pre_splitW hpre).1
 have hc:l.pre.holds [] {args:=args}=true:=(pre_splitW hpre).2
 obtain⟨d,r,rfl,h1,h2⟩:=hasAllW_cons hsh
 obtain rfl:=hasAllW_nil h2
 obtain⟨xs,rfl,h3⟩:=hasW_list h1
 obtain⟨ns,rfl⟩:=items_int h3
 have hlen:ns.length<=n:=by
  unfold OpenLaw.pre at hc
  have h4:(WTm.not (.lt (.lit (.int (n:Int))) (.len (.arg 0)))).holds [] {args:=[.list (ns.map .int)]}=true:=by
   have h4:=(holds_andW hc).1
   rw[hn] at h4
   exact h4
  have h5:=condW_of h4 (w_not (w_lt w_lit (w_len_list (w_arg rfl))))
  rw[Yh] at h5
  refine Nat.le_of_not_lt fun q=>?_
  have q':(n:Int) < ((ns.length:Nat):Int):=by lia
  first
   | (rw[YK q'] at h5;exact absurd h5 (by decide))
   | (simp at h5;omega)
 cases hwl with
 | cons w1 w2=>
  cases w2
  cases w1 with
  | list ho hall=>exact⟨_,_,ns,rfl,rfl,ho,q9 ns _ hall,hlen⟩
def C2 (l:OpenLaw) (args:List WData):l.row.toRowW.claim.post args (.bool true) args=true:=
 postW_of (r:=l.row.toRowW) (X:=(true == true))
  (show WShape.has [] (.bool true) .bool=true by first | rfl | decide | simp[WShape.has,WShape.arms,WShape.armsAll])
  (show(WTm.eq .res (.lit (.bool true))).value [] {args:=args,res:=some (.bool true),after:=args}=some (.bool (true == true)) from w_eq_bool (w_res rfl) w_lit) rfl
def yy {l:OpenLaw}{n:Nat}{q:Program}{loose:List Str}{XP:(Str->Option Value)->Heap->Prop}{YP:World->Heap->Prop}{d:DefRec}
  (hn:l.most=some n) (hdf:d.params.defaults=[])
  (call:∀(w:World) (s₀ s₁:Shared) (mg mb:AAC) (fa:Addr) (o:Obj) (pm cd doc:Value) (a:Addr) (vs:AAI) (ns:List Int),
   Ground q loose [] XP w s₀ mg mb s₁.heap->YP w s₁.heap->
   s₁.heap.get? fa=some o->o.data= .func (docDef d.name d.params d.body d.scope pm cd doc)->s₁.heap.CodeRec cd d.name->mg d.name=some (.ref fa)->
   s₁.heap.get? a=some {cls:=.type "list",data:=.seq vs.toArray}->IntsAre vs ns->ns.length<=n->s₁.gens=#[]->
   codeAny (model l.prog w) callerA (.call (.ref fa) ⟨[.ref a],[]⟩) (fun r s'=>r= .ok (.ret (.bool true))/\OldK s₁.heap s'.heap/\s'.os=s₁.os/\AllBare s'.gens) s₁):
  WalkO q loose XP YP l.row.toRowW d [] (fun f vs=>PySem.call f vs):=by
 intro w s₀ s₁ mg mb G Y fa o pm cd doc dV kV ho hd hcd hD hmg hg args vals as hpre hlay hrd hwl hlo
 obtain rfl:dV= .none:=Dflts.none hD hdf
 obtain rfl:kV= .none:=Dflts.noKw hD
 obtain⟨a,vs,ns,rfl,rfl,hobj,hints,hlen⟩:=C1 hn hpre hwl
 refine enter_call (aab (call w s₀ s₁ mg mb fa o pm cd doc a vs ns G Y ho (fd_plain hd) hcd hmg hobj hints hlen hg) fun r s' hq=>?_)
 obtain⟨rfl,h2,h3,h4⟩:=hq
 exact⟨.inl ⟨.bool true,.bool true,[],rfl,fun _=>rfl,.bool true,C2 l _,fun _=>⟨List.Pairwise.nil,fun _ hm=>(nomatch hm)⟩⟩,h2,h3,h4⟩
section
variable {prog:Program}{w:World}{A:Around}{E:AAB}{s:Shared}{K:Frag}
end
end Vi
namespace L2
open PySem PySem.Spec PyProof.Rows
variable {P:Program}{w:World}{K:AAA}{k:Nat}{fd:FuncData}{x qual:Str}{X:Cx}{st:Stmt}{ps bX:List Str}{H:Hp}{tc:TT}{pins:AAD}{σ:St}{cap:List Nat}{scope:Scope}{cl:List (Str×Addr)}{elt iter:Expr}{ifs:List Expr}{pos pos2 px:Pos}{wi:TI}{te:TE}{use:Option (Value->Sem Unit)}{Qf:AAB}
theorem vm:∀{vs:AAI}{ns:List Int},IntsAre vs ns->Vals (ns.map V.int) vs
 | _,_,.nil=>.nil
 | _,_,.cons n t h=>.cons ⟨t,rfl⟩ (vm h)
def Ik (H:Hp):Prop:=∀b,H b=none\/∃o xs,H b=some (.iN o (.lst xs))
def ES {mg mb:AAC}{CX:CS}{fa a:Addr}{sp:Sp}{s₁:Shared}{vs:AAI}{ns:List Int}
  (KX:K.In s₁.heap) (hns:s₁.heap.Ns mainGlobals mg) (hb:s₁.heap.Ns builtinsNs mb) (V6:∀x:Str,x≠"__name__"->mb x=bootBuiltins x) (hlim:s₁.heap.NoLimit) (hg:s₁.gens=#[])
  (ha:s₁.heap.get? a=some {cls:=.type "list",data:=.seq vs.toArray}) (hi:IntsAre vs ns) (hl:ns.length<=sizeLine) (hr:dN k callerA)
  (F:∀base:Heap,K.In base->base.Ns mainGlobals mg->gU P w K mg base CX k fa fd [x] sp) (hbind:∀(s:Shared) (u:Value),BindsTo s fd ⟨[u],[]⟩ [(x,u)])
  (HB:∀H:Hp,Ik H->k7 K H a (ns.map V.int)->sp [.ref a] H (fun v _=>v= .bl true) fun _ _ _=>False)
  (Sv:∀H e s',CX [] H s₁ (fun _ _ _=>False) e s'->False):
  codeAny (model P w) callerA (.call (.ref fa) ⟨[.ref a],[]⟩) (fun r s'=>r= .ok (.ret (.bool true))/\OldK s₁.heap s'.heap/\s'.os=s₁.os/\AllBare s'.gens) s₁:=by
 have rv:=vm hi
 have lenV:=hi.length
 have core:∀H:Hp,Ik H->k7 K H a (ns.map V.int)->kr P w H s₁.heap->(∀b,H b≠none->b=a)->(H a≠none->K.lookup a=none)->
   codeAny (model P w) callerA (.call (.ref fa) ⟨[.ref a],[]⟩) (fun r s'=>r= .ok (.ret (.bool true))/\OldK s₁.heap s'.heap/\s'.os=s₁.os/\AllBare s'.gens) s₁:=by
  intro H hO hS hok hA hK
  have BU:∀{b:Addr}{o:Obj},s₁.heap.get? b=some o->H b=none->(wm s₁.heap H).get? b=some o:=fun e n=>Eg e n
  have Oz:∀{b:Addr}{o:Obj}{es:Array DictEntry}{ep:Nat},s₁.heap.get? b=some o->o.data= .dict es ep->H b=none:=fun {b o es ep} e d=>by
   cases q:H b with
   | none=>rfl
   | some u=>
    have e':b=a:=hA b (by rw[q];simp)
    subst e'
    rw[ha] at e;cases e
    have d':Data.seq vs.toArray _=Data.dict es ep:=d
    cases d'
  have QJ:∀{b:Addr}{m:AAC},s₁.heap.Ns b m->(wm s₁.heap H).Ns b m:=fun {b m} ⟨o,es,ep,e,d,r⟩=>⟨o,es,ep,BU e (Oz e d),d,r⟩
  have Vj:K.In (wm s₁.heap H):=fun b o e=>BU (KX b o e) (by
   cases q:H b with
   | none=>rfl
   | some u=>
    have e':b=a:=hA b (by rw[q];simp)
    subst e'
    rw[hK (by rw[q];simp)] at e;cases e)
  have hM:Mod K mg (wm s₁.heap H):=⟨Vj,QJ hns,⟨mb,QJ hb,V6⟩,let⟨mc,h1,h2⟩:=hlim;⟨mc,QJ h1,h2⟩⟩
  have e0:Al P w K mg (wm s₁.heap H) callerA [] s₁ H:=⟨rfl,hM,fun b o e=>HM e,Nat.le_of_eq (CG _ _),trivial,fun b hb=>absurd (show b∈([]:List Addr) from hb) (by simp),hok,.of_eq hg⟩
  refine aab ((F _ Vj (QJ hns)).run callerA [] s₁ H ⟨[.ref a],[]⟩ [.ref a] [.ref a] _ _ hr e0 (hbind s₁ (.ref a)) (.cons rfl .nil) (HB H hO hS)) fun r s' h=>?_
  cases r with
  | error e=>exact(Sv H e s' h).elim
  | ok fl=>
   cases fl with
   | next=>exact False.elim h
   | brk=>exact False.elim h
   | cont=>exact False.elim h
   | ret u=>
    obtain⟨v,H',os,bare,un,Sx,r',q⟩:=h
    have q':v= .bl true:=q
    subst q'
    obtain rfl:u=Value.bool true:=r'
    refine⟨rfl,OldK.of_keep fun b o e=>?_,os,bare⟩
    cases q:H b with
    | none=>exact un.keep b o e q (by intro z;exact absurd (show b∈([]:List Addr) from z) (by simp)) (by simp)
    | some u=>
     rcases hO b with z | ⟨ob,xs,z⟩
     ·rw[q] at z;cases z
     ·have z2:=un.qZ b ob _ z
      obtain⟨e1,_⟩:=hok b _ z
      obtain⟨e2,_⟩:=Sx b _ z2
      rw[e] at e1;cases e1
      exact e2
 cases hk:K.lookup a with
 | some o=>
  have e:=KX a o hk
  rw[ha] at e
  cases e
  refine core (fun _=>none) (fun _=>.inl rfl) (.inr ⟨_,vs.toArray,_,hk,rfl,rfl,rfl,by rw[X0,lenV];exact hl,by simpa using rv⟩) (fun b u z=>by have z':(none:Option HO)=some u:=z;cases z') (fun b z=>absurd rfl z) fun z=>absurd rfl z
 | none=>
  refine core (fun b=>if b=a then some (.iN {cls:=.type "list",data:=.seq vs.toArray} (.lst (ns.map V.int))) else none) (fun b=>?_) (.inl (.inr ⟨{cls:=.type "list",data:=.seq vs.toArray},if_pos rfl⟩)) (fun b u z=>?_) (fun b z=>?_) fun _=>hk
  ·by_cases hb:b=a
   ·exact .inr ⟨_,_,if_pos hb⟩
   ·exact .inl (if_neg hb)
  ·by_cases hb:b=a
   ·have z':=(if_pos hb).symm.trans z
    cases z'
    subst hb
    exact⟨ha,by rw[Yh];exact hl,vs,_,rv,ha⟩
   ·have z':=(if_neg hb).symm.trans z
    cases z'
  ·by_cases hb:b=a
   ·exact hb
   ·exact absurd (if_neg hb) z
noncomputable abbrev Xv {K:AAA}{h:Heap}(_:K.In h):PySem.W.Frag:=K
def Il {l:PySem.W.OpenLaw}{n:Nat}{q:Program}{loose:List Str}{XP:(Str->Option Value)->Heap->Prop}{YP:World->Heap->Prop}{d:DefRec}{K:Params->PySem.W.Frag}{CX:World->CS}{sp:World->Sp}
  (hn:l.most=some n) (hn2:n<=sizeLine) (hdf:d.params.defaults=[]) (hr:dN k callerA)
  (hY:∀(w:World) (h:Heap),YP w h->(K w.params).In h)
  (F:∀(w:World) (mg:AAC) (fa:Addr) (h:Heap),(K w.params).In h->h.Ns mainGlobals mg->mg d.name=some (.ref fa)->
   ∃fd:FuncData,(∀(s:Shared) (u:Value),BindsTo s fd ⟨[u],[]⟩ [(x,u)])/\
    ∀base:Heap,(K w.params).In base->base.Ns mainGlobals mg->gU l.prog w (K w.params) mg base (CX w) k fa fd [x] (sp w))
  (HB:∀(w:World) (H:Hp) (a:Addr) (ns:List Int),ns.length<=n->Ik H->k7 (K w.params) H a (ns.map V.int)->sp w [.ref a] H (fun v _=>v= .bl true) fun _ _ _=>False)
  (Sv:∀(w:World) (H:Hp) (s:Shared) (e:Value) (s':Shared),CX w [] H s (fun _ _ _=>False) e s'->False):
  PySem.W.WalkO q loose XP YP l.row.toRowW d [] (fun f vs=>PySem.call f vs):=by
 refine Vi.yy hn hdf fun w s₀ s₁ mg mb fa o pm cd doc a vs ns G Y ho hd hcd hmg hobj hints hlen hg=>?_
 have KX:=hY w _ Y
 obtain⟨fd,hb,hF⟩:=F w mg fa _ KX G.T.g hmg
 exact ES KX G.T.g G.T.b G.T.builtins G.T.nolimit hg hobj hints (Yc hlen hn2) hr hF hb (fun H hO hS=>HB w H a ns hlen hO hS) fun H e s'=>Sv w H s₁ e s'
noncomputable def jD (s:Stmt):Arguments:=match s with
 | .FunctionDef _ a _ _ _ _ _ _ _ _=>a
 | _=>{posonlyargs:=[],args:=[],vararg:=none,kwonlyargs:=[],kw_defaults:=[],kwarg:=none,defaults:=[]}
noncomputable def dD (s:Stmt):List Stmt:=match s with
 | .FunctionDef _ _ b _ _ _ _ _ _ _=>b
 | _=>[]
noncomputable def aF (s:Stmt):Scope:=match s with
 | .FunctionDef _ _ _ _ _ _ sc _ _ _=>sc
 | _=>{kind:=.function,names:=[],isGenerator:=false,isCoroutine:=false}
noncomputable abbrev uI:CS:=fun _ _ _ _ _ _=>False
noncomputable abbrev E0:XK:=fun _ _ _=>False
def KG :Passes uI X E0:=fun _ _ _ _ _ _ _ h=>h.elim
structure C3 (K:AAA) (x qual:Str) (st:Stmt) (f:Addr) (fd:FuncData):Prop where
 ex:∃(oc:Value) (od:Option Addr) (kV doc pm:Value) (an:Option Addr) (cdv ct:Value) (osl:Array (Option Value)),
  fd=PySem.W.fnOf x qual (jD st) (dD st) (aF st) .none kV doc pm an cdv ct/\K.lookup f=some ⟨oc,od,.func fd,osl⟩/\PySem.W.codeIn K cdv qual=true
 kp:PySem.W.keepIn K (.ref f)=true
section
variable {P:Program}{w:World}{K:AAA}{mg:AAC}{base:Heap}
def C3.ok {f:Addr}{N:List Str}{sp:Sp}(F:C3 K x qual st f fd) (S:bF N ps (aF st)) (len:∀vs H Q E,sp vs H Q E->vs.length=ps.length)
  (hbody:∀(cdv:Value) (A:Around) (outer:List Env) (s:Shared) (H:Hp) (vs:List V) (Q:VK) (E:XK),dN k (A.deeper (envOfC qual (aF st) s.heap.objs.size f cdv))->sp vs H Q E->
   ∃t,wC (pW uI P w K mg base N qual (aF st) f cdv A outer s H E).HA (dD st) t/\t {nx:=fun _ H'=>Q .cz H',rt:=Q} (start N vs) H):gU P w K mg base uI (k+1) f fd ps sp:=by
 obtain⟨oc,od,kV,doc,pm,an,cdv,ct,osl,rfl,lk,hcd⟩:=F.ex
 refine Ky lk hcd S len fun A outer s H vs Q E hr HB=>?_
 obtain⟨t,h,q⟩:=hbody cdv A outer s H vs Q E hr HB
 exact⟨t,h.HA,q⟩
def C3.binds {f:Addr}(F:C3 K x qual st f fd)
  (h:∀(kV doc pm:Value) (an:Option Addr) (cdv ct:Value) (us:AAI),us.length=ps.length->bindArgs (PySem.W.fnOf x qual (jD st) (dD st) (aF st) .none kV doc pm an cdv ct) ⟨us,[]⟩=pure (ps.zip us)):Binds K fd ps []:=by
 obtain⟨oc,od,kV,doc,pm,an,cdv,ct,osl,rfl,lk,hcd⟩:=F.ex
 exact .all (h kV doc pm an cdv ct)
def ET {f:Addr}{oc:Value}{od an:Option Addr}{osl:Array (Option Value)}{kV doc pm cdv ct:Value}(l:K.lookup f=some ⟨oc,od,.func (PySem.W.fnOf x qual (jD st) (dD st) (aF st) .none kV doc pm an cdv ct),osl⟩)
  (c:PySem.W.codeIn K cdv qual=true) (k:PySem.W.keepIn K (.ref f)=true):C3 K x qual st f (PySem.W.fnOf x qual (jD st) (dD st) (aF st) .none kV doc pm an cdv ct):=⟨⟨oc,od,kV,doc,pm,an,cdv,ct,osl,rfl,l,c⟩,k⟩
end
def EU {A:Around}(hr:dN k A):A.units+20 < cLine:=ZM (Nat.add_le_add_left (by decide:20<=64) _) hr.units
section
variable {X:Cx}
def C4:dU X (.builtin "len") (fun xs H Q=>∃a kvs,xs=[V.ref a]/\H a=some (.dK kvs)/\Q (.int kvs.length) H):=by
 intro pins s σ H xs us Q I r h
 obtain⟨a,kvs,rfl,ha,q⟩:=h
 obtain⟨u,rfl,ru⟩:=vals1 r
 cases ru
 exact OA I (.inl ha) fun t s' I'=>⟨.int kvs.length,H,I',⟨t,rfl⟩,q⟩
end
def wQ {A B:Prop}(h:B):if false=true then A else B:=by
 rw[if_neg ZJ]
 exact h
def wR {A B:Prop}(h:A):if true=true then A else B:=by
 rw[if_pos rfl]
 exact h
section
variable {κ:Type} [DecidableEq κ]
end
def kr.OP {h:Heap}{a:Addr}{o:HO}(x:kr P w H h) (hn:H a=none) (new:c7 P w (upd H a o) h a o):kr P w (upd H a o) h:=fun b u e=>by
 by_cases hb:b=a
 ·subst hb;rw[aH] at e;cases e;exact new
 ·rw[aE hb] at e
  exact(x b u e).stay (fun c v _ q=>q) (fun c q=>by rw[aE (bR q hn)];exact q) fun c xs q=>by rw[aE (bR q hn)];exact q
noncomputable def cV (X:Cx) (N':List Str) (scope:Scope) (cl:List (Str×Addr)) (C:Addr) (s:Shared) (H:Hp) (fp:List Addr):Cx:=
 {X with N:=N',s₀:=s,H₀:=H,env:=compEnvC scope cl C X.env,outer:=X.stack,stack:=X.stack,ex:=fp,fn:=fun _=>false,pn:=[],xe:=fun _ _=>False}
noncomputable def c8 (cap:List Nat) (σ:St):St:=cap.map fun i=>(σ[i]?).join
structure fh (X:Cx) (x:Str) (bX:List Str) (cap:List Nat) (scope:Scope) (cl:List (Str×Addr)):Prop where
 clos:closureFor scope X.env=pure cl
 je:∀y∈scope.names,y.2≠.cell
 kind:scope.kind= .function
 names:∀y∈scope.names,y.2= .local->scope.names.lookup y.1=some .local
 loc:scope.names.lookup x=some .local
 cells:∀n c,cl.lookup n=some c->X.env.cells.lookup n=some c
 has:∀n,((relabel scope X.env).names.lookup n=some .cell\/(relabel scope X.env).names.lookup n=some .free)->∃c,cl.lookup n=some c
 nd:(x :: bX).Nodup
 len:cap.length=bX.length
 slot:∀(j:Nat) n,bX[j]? =some n->∃i:Nat,cap[j]? =some i/\X.N[i]? =some n/\wu X.env.scope n
 vis:∀n,n∈bX->((relabel scope X.env).names.lookup n=some .cell\/(relabel scope X.env).names.lookup n=some .free)/\(∃c,cl.lookup n=some c)/\X.env.scope.names.lookup n≠some .local
def OQ (wi:TI) (cap:List Nat) (tc:TT) (te:TE):TE:=fun σ H Q=>wi σ H fun J H1=>∃W:Nat->Nat->List V->Hp->Prop,(∃m,W 0 m [] H1)/\∀i m ys H,W i m ys H->ys.length < sizeLine/\
  ((J.stop i H/\∀p,H p=none->Q (.ref p) (upd H p (.lst ys)))\/
   (J.go i H/\∀x H',J.HS i H x H'->tc (some x :: c8 cap σ) H' fun b H2=>if b=true then te (some x :: c8 cap σ) H2 fun y H3=>∃m',m' < m/\W (i+1) m' (ys++[y]) H3 else ∃m',m' < m/\W (i+1) m' ys H2))
def Sy:TT:=fun _ H Q=>Q true H
def Im (X:Cx) (ifs:List Expr) (tc:TT):Prop:=
 ∀(pins:AAD) (s:Shared) (σ:St) (H:Hp) (Q:Bool->Hp->Prop),Inv X pins σ H s->tc σ H Q->
  wpAny (model X.prog X.w) X.A (forIn ifs true fun c r=>if r=true then do let ok <-isTrue c X.env (eval c X.env);pure (ForInStep.yield ok) else pure (ForInStep.yield r)) (TP X pins σ Q) X.xe s
def Io :Im X [] Sy:=fun pins s σ H Q I h=>wpAny_tests_nil ⟨H,I,h⟩
def Ip {c:Expr}(h:PT X c tc):Im X [c] tc:=fun pins s σ H Q I q=>wpAny_tests_one (h pins s σ H Q I q)
def Lz (ys:AAI) (y:Value):({cls:=.type "list",data:=.seq (ys.toArray.push y) (ys.length+1)}:Obj)={cls:=.type "list",data:=.seq (ys++[y]).toArray (ys++[y]).length}:=by
 rw[Yy,List.length_singleton,List.push_toArray]
def EV {s s4:Shared}{C:Addr}{fp:List Addr}{m':AAC}
  (I:Inv X pins σ H s) (T:fh X x bX cap scope cl) (hfp:∀b∈fp,lg X pins H b) (hfo:∀b∈fp,∃o,s.heap.get? b=some o)
  (hC:s.heap.objs.size<=C) (hns:s4.heap.Ns C m') (hos:s4.os=s.os) (hg:s4.gens=s.gens)
  (kept:∀b o,s.heap.get? b=some o->s4.heap.get? b=some o):
  Inv (cV X (x :: bX) scope cl C s H fp) [] (none :: c8 cap σ) H s4:=by
 have fr:∀b,s.heap.objs.size<=b->H b=none:=fun b hb=>I.hok.fresh hb
 refine⟨⟨I.ok.mod,T.kind,I.ok.glob,I.ok.blt,hC,fun y z c h1 h2=>I.ok.inj y z c (T.cells _ _ h1) (T.cells _ _ h2),fun y hy=>T.has y hy,fun y c h=>(by cases h),I.ok.hd,I.ok.frames,.inl rfl,fun b hb=>⟨?_,fun y c e z=>?_⟩,I.bs,Yc I.ok.BA I.sz,fun b o e hb=>?_,fun b hb z=>?_,I.stack,I.kC⟩,
  hos,by rw[hg];exact I.bare,Un.kept kept,⟨m',hns,fun i y v h1 h2 h3=>?_⟩,fun y c h=>?_,fr C hC,fun y c h=>I.iO y c (T.cells _ _ h),fun p hp=>?_,I.hok.kept kept,?_⟩
 ·obtain⟨o,e⟩:=hfo b hb
  exact Ym (X7 (X5 e) hC)
 ·exact(hfp b hb).2.2.2.2.1 y c (T.cells _ _ e) z
 ·rcases(hfp b hb).2.2.2.1 with z | z
  ·exact I.ok.wA b o e z
  ·exact absurd (X7 (X5 e) (Yc I.ok.BA z)) (YE _)
 ·rcases Yi.mp (I.rY b z) with q | q
  ·exact(hfp b hb).2.1 q
  ·exact(hfp b hb).2.2.1 q
 ·cases i with
  | zero=>cases h2
  | succ j=>
   have h1:bX[j]? =some y:=by simpa[cV] using h1
   have h2:(c8 cap σ)[j]? =some (some v):=by simpa using h2
   obtain⟨i,e1,e2,e3⟩:=T.slot j y h1
   have e4:σ[i]? =some (some v):=by
    unfold c8 at h2
    rw[Yu,e1] at h2
    have h2:some ((σ[i]?).join)=some (some v):=h2
    have h2:=Yn h2
    cases q:σ[i]? with
    | none=>rw[q] at h2;cases h2
    | some o=>rw[q] at h2;cases h2;rfl
   obtain⟨m,hn,hl⟩:=I.loc
   obtain⟨u,r,l⟩:=hl i y v e2 e4 e3
   obtain⟨k1,⟨c,hc⟩,k3⟩:=T.vis y (YH h1)
   refine⟨u,r,.inr ⟨k1,c,hc,?_⟩⟩
   rcases l with⟨hk,_⟩ | ⟨hk,c',hc',z⟩
   ·exact absurd hk k3
   ·rw[T.cells _ _ hc] at hc'
    cases hc'
    obtain⟨o,ho,hd⟩:=z
    exact⟨o,kept _ _ ho,hd⟩
 ·obtain⟨v,o,ho,hd⟩:=I.cell y c (T.cells _ _ h)
  exact⟨v,o,kept _ _ ho,hd⟩
 ·exact absurd (show p∈([]:AAD) from hp) (by simp)
 ·show(none :: c8 cap σ).length=(x :: bX).length
  simp[c8,T.len]
def pY (P:Program) (w:World) (A:Around) (env:Env) (R:Result->Shared->Prop):Value->Shared->Prop:=notedBy (model P w) A env fun e s'=>R (.error e) s'
theorem wU {A:Around}{R:Result->Shared->Prop}{s:Shared}{tg:Expr}{it acc:Value}{env:Env}(J:Nat->Shared->Prop)
  (turn:∀n s,J n s->wpAny (model P w) A (pyNext it) (fun r s1=>match r with
   | none=>R (.ok .next) s1
   | some v=>wpAny (model P w) A (letOwnedTupleGo tg it v) (fun _ s1=>wpAny (model P w) A (assign tg env v) (fun _ s2=>
     wpAny (model P w) A (forIn ifs true fun c r=>if r=true then do let ok <-isTrue c env (eval c env);pure (ForInStep.yield ok) else pure (ForInStep.yield r)) (fun ok s3=>
      if ok=true then wpAny (model P w) A (eval elt env) (fun x s4=>wpAny (model P w) A (call (.builtin "list.append") [acc,x]) (fun _ s5=>∃m,m < n/\J m s5) (pY P w A env R) s4) (pY P w A env R) s3
      else ∃m,m < n/\J m s3) (pY P w A env R) s2) (pY P w A env R) s1) (pY P w A env R) s1) (pY P w A env R) s)
  (n:Nat) (h:J n s):codeAny (model P w) A (.compLoop (.ListComp elt [⟨tg,iter,ifs,0⟩] scope pos) 0 it acc env) R s:=by
 refine codeAny_loop rfl J (fun n s hJ=>?_) n h
 show wpAny _ A ((compTurn (.ListComp elt [⟨tg,iter,ifs,0⟩] scope pos) 0 it acc env).onRaise (fun x=>do noteFrame x env;theTreesLotGoes x)) _ _ s
 refine wpAny_noted ?_
 rw[compTurn_list]
 refine XY (aaw (XY (Yd (turn n s hJ) (fun r s1 k1=>?_) fun _ _ z=>z)))
 cases r with
 | none=>exact XZ k1
 | some v=>
  refine XY (Yd k1 (fun _ s1 k1=>?_) fun _ _ z=>z)
  refine XY (Yd k1 (fun _ s2 k2=>XY (Yd k2 (fun ok s3 k3=>?_) fun _ _ z=>z)) fun _ _ z=>z)
  cases ok with
  | false=>exact XZ ⟨rfl,k3⟩
  | true=>exact XY (XY (Yd k3 (fun x s4 k4=>XY (Yd k4 (fun _ s5 k5=>XZ (XZ ⟨rfl,k5⟩)) fun _ _ z=>z)) fun _ _ z=>z))
inductive CompI (Y:Cx) (Z:St->Prop) (tn:Nat->Heap->Prop) (fp:List Addr) (D:Addr) (W:Nat->Nat->List V->Hp->Prop) (n:Nat) (s':Shared):Prop
 | mk (i:Nat) (ys:List V) (us:AAI) (H':Hp) (z:St) (hz:Z z) (I:Inv Y [] z H' s') (st:tn i s'.heap) (fr:∀b∈fp,H' b=none) (d:H' D=none) (a:s'.heap.get? D=some {cls:=.type "list",data:=.seq us.toArray us.length}) (v:Vals ys us) (w:W i n ys H')
def qN {tg:Expr}{N:List Str}{s:Shared}{z0:St}{Q:VK}{Z:St->Prop}{pt:V->Hp->St->Prop}{R:It->Hp->Prop}
    (T:fh X x bX cap scope cl) (hc:X.calm=true) (hi:PI X tg iter wi)
    (ht:∀C s H fp,Im (cV X N scope cl C s H fp) ifs tc) (he:∀C s H fp,PE (cV X N scope cl C s H fp) elt te)
    (hs:∀x,foldedSetIterable iter X.env x=pure x) (I:Inv X pins σ H s) (h:wi σ H R)
    (hR:∀J H1,R J H1->∃W:Nat->Nat->List V->Hp->Prop,(∃m,W 0 m [] H1)/\∀i m ys H,W i m ys H->ys.length < sizeLine/\
      ((J.stop i H/\∀p,H p=none->Q (.ref p) (upd H p (.lst ys)))\/
       (J.go i H/\∀x H',J.HS i H x H'->∃z,pt x H' z/\tc z H' fun b H2=>if b=true then te z H2 fun y H3=>∃m',m' < m/\W (i+1) m' (ys++[y]) H3 else ∃m',m' < m/\W (i+1) m' ys H2)))
    (hZ:Z z0) (hI:∀{s s4:Shared}{H:Hp}{C:Addr}{fp:List Addr}{m':AAC},Inv X pins σ H s->(∀b∈fp,lg X pins H b)->(∀b∈fp,∃o,s.heap.get? b=some o)->s.heap.objs.size<=C->s4.heap.Ns C m'->s4.os=s.os->s4.gens=s.gens->(∀b o,s.heap.get? b=some o->s4.heap.get? b=some o)->Inv (cV X N scope cl C s H fp) [] z0 H s4)
    (hG:∀{Y:Cx}{C:Addr}{z z':St}{xv:V}{H:Hp},Y.N=N->Y.env=compEnvC scope cl C X.env->Y.K=X.K->Y.calm=true->Z z->pt xv H z'->Z z'/\∃g,PG Y tg g/\g xv z H fun σ' H'=>σ'=z'/\H'=H)
    (hend:∀(D C:Addr) (s7:Shared) (H6:Hp) (ys:List V),Inv X pins σ (upd H6 D (.lst ys)) s7->(∃m,s7.heap.Ns C m)->lg X pins (upd H6 D (.lst ys)) C->Q (.ref D) (upd H6 D (.lst ys))->compPost (model X.prog X.w) X.A X.xe use Qf (.ref D) C (.ok .next) s7):
    wpAny (model X.prog X.w) X.A (comprehension (.ListComp elt [⟨tg,iter,ifs,0⟩] scope pos) scope X.env pos2 (newList []) false (eval iter X.env) use) Qf X.xe s:=by
  refine wpAny_comprehension_free (use:=use) rfl hs T.clos T.kind T.names (dj (hi pins s σ H _ I h) fun v s1 h1=>dj h1 fun itv s2 h2=>YO fun ng=>?_)
  obtain⟨it,fp,tn,J,H2,rfl,I2,Iq,st2,f2,hJ⟩:=h2
  obtain⟨W,⟨m0,w0⟩,turn⟩:=hR J H2 hJ
  refine ng (YY (wpAny_newFunctionEnv T.je (by intro y hy;simp at hy) (fun h4 Ir EW=>?_) T.kind))
  clear ng
  dsimp only at Ir EW ⊢
  generalize Sz:s2.heap.push {cls:=.type "list",dict:=none,data:=.seq ([]:AAI).toArray}=H3 at Ir EW ⊢
  have eC:H3.objs.size=s2.heap.objs.size+1:=by rw[<-Sz,Heap.size_push]
  generalize Xw:H3.objs.size=C at eC Ir EW ⊢
  generalize eD:s2.heap.objs.size=D at eC ⊢
  have OR:C=D+1:=eC
  have hDC:D≠C:=by rw[OR];exact Ym (Nat.lt_succ_self D)
  have hC:s2.heap.objs.size<=C:=by rw[eD,OR];exact aao D
  have hD:s2.heap.objs.size<=D:=by rw[eD];exact X6 D
  have kept:∀b o,s2.heap.get? b=some o->h4.get? b=some o:=fun b o e=>EW.extBut b o (Ym (X7 (X5 e) hC)) (X3 _ (Sz▸X3 _ e))
  have hacc:h4.get? D=some {cls:=.type "list",data:=.seq ([]:AAI).toArray ([]:AAI).length}:=EW.extBut _ _ hDC (X3 _ (Sz▸eD▸Yk _ rfl))
  have Vk:∀b∈fp,∃o,s2.heap.get? b=some o:=fun b hb=>let⟨o,e,_⟩:=Iq.obj _ _ st2 b hb;⟨o,e⟩
  have hDf:D∉fp:=fun hb=>by
    obtain⟨o,e⟩:=Vk D hb
    exact absurd (X7 (X5 e) hD) (YE _)
  have OS:tn 0 h4:=Iq.keep _ _ _ st2 fun b _ o e=>kept b o e
  have key:∀s5:Shared,s5={s2 with heap:=h4,toks:=s2.toks+([]:List (Str×Value)).length}->
      codeAny (model X.prog X.w) X.A (.compLoop (.ListComp elt [⟨tg,iter,ifs,0⟩] scope pos) 0 (.ref it) (.ref D) (compEnvC scope cl C X.env)) (compPost (model X.prog X.w) X.A X.xe use Qf (.ref D) C) s5:=by
    rintro s5 rfl
    have I4:Inv (cV X N scope cl C s2 H2 fp) [] z0 H2 {s2 with heap:=h4,toks:=s2.toks+([]:List (Str×Value)).length}:=
      hI (s4:={s2 with heap:=h4,toks:=s2.toks+([]:List (Str×Value)).length}) I2 f2 Vk hC Ir rfl rfl kept
    generalize hY:cV X N scope cl C s2 H2 fp=Y at I4
    have fD:∀{H':Hp},H' D=none->lg Y [] H' D:=fun {H'} hn=>by
      subst hY
      refine⟨hn,hDC,fun z=>(Yi.mp (I2.rY D z)).elim (fun q=>absurd (X7 (q▸I2.lt) hD) (YE _)) fun q=>I2.N8 hD q,.inr hD,fun y c e z=>?_,fun p hp=>absurd (show p∈([]:AAD) from hp) (by simp)⟩
      obtain⟨v,q⟩:=I2.cell y c (T.cells _ _ e)
      exact absurd (X7 q.lt (by rw[z];exact hD)) (YE _)
    have SA:fp=Y.ex:=hY▸rfl
    have V7:Y.pn++([]:AAD)=[]:=hY▸rfl
    have fF:∀{H':Hp},(∀b∈fp,H' b=none)->∀b∈fp,lg Y [] H' b:=fun {H'} hn b hb=>by
      have q:=I4.ok.Nu b (SA▸hb)
      exact⟨hn b hb,fun z=>q.1 z,I4.ok.yj b (SA▸hb),.inl (SA▸hb),fun y c e z=>q.2 y c e z,fun p hp=>absurd (V7▸hp) (by simp)⟩
    have eA:Y.A=X.A:=hY▸rfl
    have eP:Y.prog=X.prog:=hY▸rfl
    have eW:Y.w=X.w:=hY▸rfl
    have eK:Y.K=X.K:=hY▸rfl
    have eE:Y.env=compEnvC scope cl C X.env:=hY▸rfl
    have eX:Y.xe=fun _ _=>False:=hY▸rfl
    have eN:Y.N=N:=hY▸rfl
    have OT:Y.calm=true:=hY▸hc
    have V8:Im Y ifs tc:=hY▸ht _ _ _ _
    have V9:PE Y elt te:=hY▸he _ _ _ _
    have Ar:∀(E':AAB) (e:Value) (s':Shared),Y.xe e s'->E' e s':=fun E' e s' z=>by rw[eX] at z;exact z.elim
    refine wU (CompI Y Z tn fp D W) ?_ m0
      ⟨0,[],[],H2,z0,hZ,I4,OS,fun b hb=>(f2 b hb).1,I2.hok.fresh hD,hacc,.nil,w0⟩
    rintro n s6 ⟨i,ys,us,H6,z6,Wa,I6,Vl,Vm,d6,a6,v6,w6⟩
    refine YO fun ng=>?_
    have Wb:us.length=ys.length:=v6.length.symm
    obtain⟨hz,OU⟩:=turn i n ys H6 w6
    have SD:∀{H':Hp},(∀b∈fp,H' b=none)->∀b∈fp,lg Y ([]++lG [D] s6.heap) H' b:=fun {H'} hn b hb=>by
      obtain⟨f0,f1,Wc,f3,f4,f5⟩:=fF hn b hb
      refine⟨f0,f1,Wc,f3,f4,fun p hp z=>?_⟩
      rcases YN.mp hp with q' | q'
      . exact f5 p (YW _ q') z
      . rcases YN.mp q' with q' | q'
        . exact absurd q' (by simp)
        . have:=(vd q').1
          rw[Yq.mp this] at z
          exact hDf (z▸hb)
    rcases OU with⟨stop,qn⟩ | ⟨go,step⟩
    . have SE:=I6.pinned (fp:=[D]) (fun b hb=>by rw[Yq.mp hb];exact fD d6) (fun b hb=>by rw[Yq.mp hb];exact⟨_,a6,fun v z=>by cases z⟩)
      have q:=Iq.done Y eP eW eK OT i _ s6 z6 H6 (notedBy (model X.prog X.w) X.A (compEnvC scope cl C X.env) fun e s'=>compPost (model X.prog X.w) X.A X.xe use Qf (.ref D) C (.error e) s') SE (SD Vm) Vl stop
      rw[eA] at q
      refine ng (dj q fun r s7 hh=>?_)
      obtain⟨hr,I7⟩:=hh
      subst hr
      have a7:s7.heap.get? D=_:=(I7.pin (D,{cls:=.type "list",data:=.seq us.toArray us.length}) (X8 _ (X8 _ (dM (Yq.mpr rfl) a6)))).1
      obtain⟨m7,Nx,_⟩:=I7.loc
      rw[eE] at Nx
      have OV:H6 D=none:=d6
      have Wd:H6 C=none:=by have:=I7.free;rw[eE] at this;exact this
      have SG:kr X.prog X.w H6 s7.heap:=by have q:=I7.hok;rw[eP,eW] at q;exact q
      have new:c7 X.prog X.w (upd H6 D (.lst ys)) s7.heap D (.lst ys):=⟨Z7 hz,us,us.length,v6,a7⟩
      have u7:Un (frs X.stack) fp H2 H6 s2.heap s7.heap:=by have:=I7.base;rw[<-hY] at this;exact this
      have We:∀b o,s2.heap.get? b=some o->b≠D:=fun b o e=>Ym (X7 (X5 e) hD)
      have u8:Un (frs X.stack) fp H2 (upd H6 D (.lst ys)) s2.heap s7.heap:=
        ⟨u7.keep,u7.slot,fun b o e n hx=>by rw[aE (We b o e)];exact u7.free b o e n hx,u7.there,
         fun b xs e=>by have z:=u7.tups b xs e;rw[aE (bR z OV)];exact z,fun b o u e=>by have z:=u7.qZ b o u e;rw[aE (bR z OV)];exact z,
         fun b ps e=>by obtain⟨more,z⟩:=u7.rX b ps e;exact⟨more,by rw[aE (bR z OV)];exact z⟩⟩
      have Wf:s7.os=s2.os:=by have:=I7.os;rw[<-hY] at this;exact this
      have I9:Inv X pins σ (upd H6 D (.lst ys)) s7:=I2.Ko (ch:=fp) Wf u8 (SG.OP OV new) I7.bare fun b hb=>⟨(f2 b hb).2.2.2.1,(f2 b hb).2.1,(f2 b hb).2.2.2.2.1,(f2 b hb).2.2.2.2.2⟩
      exact hend D C s7 H6 ys I9 ⟨m7,Nx⟩ (I2.CJ hC (by rw[aE (Y8 hDC)];exact Wd)) (qn D OV)
    . have SE:=I6.pinned (fp:=[D]) (fun b hb=>by rw[Yq.mp hb];exact fD d6) (fun b hb=>by rw[Yq.mp hb];exact⟨_,a6,fun v z=>by cases z⟩)
      have q:=Iq.item Y eP eW eK OT i _ s6 z6 H6 (notedBy (model X.prog X.w) X.A (compEnvC scope cl C X.env) fun e s'=>compPost (model X.prog X.w) X.A X.xe use Qf (.ref D) C (.error e) s') SE (SD Vm) Vl go
      rw[eA] at q
      refine ng (dj q fun r Xx hh=>YO fun ng=>?_)
      obtain⟨u,hr,h7⟩:=hh
      subst hr
      refine ng (dj h7 fun _ s7 hh=>YO fun ng=>?_)
      obtain⟨xv,H8,I8,r8,y8,SH,Wg⟩:=hh
      have Wh:=I8.pinned (SD Wg) (Iq.obj _ _ SH)
      obtain⟨z8,p8,stp⟩:=step xv _ y8
      obtain⟨Vn,g,Wi,gx⟩:=hG eN eE eK OT Wa p8
      have qa:=Wi _ s7 z6 H8 xv u (fun σ' H'=>σ'=z8/\H'=H8) Wh r8 gx
      rw[eP,eW,eA,eE] at qa
      refine ng (Yd qa (fun _ s9 h9=>YO fun ng=>?_) (Ar _))
      obtain⟨OW,H9,I9,e9,Wj⟩:=h9
      subst e9 Wj
      have qt:=V8 _ s9 _ _ _ I9 stp
      rw[eP,eW,eA,eE] at qt
      refine ng (Yd qt (fun ok SI h10=>?_) (Ar _))
      obtain⟨Wk,Vo,QK⟩:=h10
      have back:∀{s':Shared}{H':Hp},Inv Y (([]++lG [D] s6.heap)++lG fp s7.heap) OW H' s'->Inv Y [] OW H' s'/\tn (i+1) s'.heap/\(∀b∈fp,H' b=none)/\H' D=none/\s'.heap.get? D=some {cls:=.type "list",data:=.seq us.toArray us.length}:=fun {s' H'} J=>by
        refine⟨J.jd.jd,Iq.keep _ _ _ SH fun b hb o e=>(J.pin (b,o) (X8 _ (X8 _ (dM hb e)))).1,fun b hb=>?_,?_,?_⟩
        . obtain⟨o,e,d⟩:=Iq.obj _ _ SH b hb
          exact(J.pin (b,o) (X8 _ (X8 _ (dM hb e)))).2.1
        . exact(J.pin (D,_) (X8 _ (YW _ (X8 _ (dM (Yq.mpr rfl) a6))))).2.1
        . exact(J.pin (D,_) (X8 _ (YW _ (X8 _ (dM (Yq.mpr rfl) a6))))).1
      cases ok with
      | false=>
        rw[if_neg (by decide)] at QK ⊢
        obtain⟨m',hm,Wl⟩:=QK
        obtain⟨b1,b2,b3,b4,b5⟩:=back Vo
        exact⟨m',hm,i+1,ys,us,Wk,OW,Vn,b1,b2,b3,b4,b5,v6,Wl⟩
      | true=>
        rw[if_pos rfl] at QK ⊢
        have qe:=V9 _ SI _ _ _ Vo QK
        rw[eP,eW,eA,eE] at qe
        refine Yd qe (fun y SJ h11=>?_) (Ar _)
        obtain⟨yv,Vp,Wm,Wn,m',hm,Wo⟩:=h11
        obtain⟨b1,b2,b3,b4,b5⟩:=back Wm
        refine append_at (hsz:=by rw[X0,Wb];exact Z7 hz) b5 fun h12 SK SM=>?_
        have Vq:∀b o,b≠D->SJ.heap.get? b=some o->h12.get? b=some o:=fun b o hb e=>SK.extBut b o hb e
        obtain⟨g0,g1,g2,g3,g4,g5⟩:=fD b4
        have Wq:Inv Y [] OW Vp {SJ with heap:=h12}:=b1.turned (t':=SJ.toks) Vq g0 g1 g3 g4 g5
        refine⟨m',hm,i+1,ys++[yv],us++[y],Vp,OW,Vn,Wq,Iq.keep _ _ _ b2 fun b hb o e=>Vq b o (fun z=>hDf (z▸hb)) e,b3,b4,SM.trans (congrArg some (Lz us y)),v6.append (.cons Wn .nil),Wo⟩
  exact codeAny_compStart_list (key _ rfl) (Iq.self _ 0 _ _ _ OS (key _ rfl))
def As {s:Shared}{Q:VK}
  (T:fh X x bX cap scope cl) (hc:X.calm=true) (hi:PI X (.Name x px) iter wi)
  (ht:∀C s H fp,Im (cV X (x :: bX) scope cl C s H fp) ifs tc) (he:∀C s H fp,PE (cV X (x :: bX) scope cl C s H fp) elt te)
  (hs:∀x,foldedSetIterable iter X.env x=pure x) (I:Inv X pins σ H s) (h:OQ wi cap tc te σ H Q)
  (hend:∀(D C:Addr) (s7:Shared) (H6:Hp) (ys:List V),Inv X pins σ (upd H6 D (.lst ys)) s7->(∃m,s7.heap.Ns C m)->lg X pins (upd H6 D (.lst ys)) C->Q (.ref D) (upd H6 D (.lst ys))->compPost (model X.prog X.w) X.A X.xe use Qf (.ref D) C (.ok .next) s7):
  wpAny (model X.prog X.w) X.A (comprehension (.ListComp elt [⟨.Name x px,iter,ifs,0⟩] scope pos) scope X.env pos2 (newList []) false (eval iter X.env) use) Qf X.xe s:=
 qN (N:=x :: bX) (z0:=none :: c8 cap σ) (Z:=fun z=>∃o,z=o :: c8 cap σ) (pt:=fun v _ z=>z=some v :: c8 cap σ) T hc hi ht he hs I h
  (fun J H1 ⟨W,w0,t⟩=>⟨W,w0,fun i m ys H w=>⟨(t i m ys H w).1,(t i m ys H w).2.imp id fun⟨g,k⟩=>⟨g,fun v H' y=>⟨_,rfl,k v H' y⟩⟩⟩⟩) ⟨none,rfl⟩ (fun I2=>EV I2 T)
  (by
   rintro Y C _ _ xv H eN eE _ _ ⟨o,rfl⟩ rfl
   exact⟨⟨_,rfl⟩,BE 0,rG (by rw[eN];exact T.nd) (by rw[eN];rfl) (by rw[eE];exact .inl (Y7 T.loc)) (.inr (by rw[eE];exact Y7 T.loc)),rfl,rfl⟩) hend
def yz 
  (T:fh X x bX cap scope cl) (hc:X.calm=true) (hi:PI X (.Name x px) iter wi)
  (ht:∀C s H fp,Im (cV X (x :: bX) scope cl C s H fp) ifs tc) (he:∀C s H fp,PE (cV X (x :: bX) scope cl C s H fp) elt te)
  (hs:∀x,foldedSetIterable iter X.env x=pure x:=by intro _;rfl):
  PE X (.ListComp elt [⟨.Name x px,iter,ifs,0⟩] scope pos) (OQ wi cap tc te):=by
 intro pins s σ H Q I h
 rw[eval_ListComp]
 refine As T hc hi ht he hs I h ?_
 rintro p C s7 H6 ys I9 ⟨m7,Nx⟩ ⟨g0,g1,g2,g3,g4,g5⟩ q
 exact⟨m7,Nx,fun h' hs'=>⟨.ref p,_,I9.turned (t':=s7.toks) (fun b o hb e=>hs'.extBut b o hb e) g0 g1 g3 g4 g5,rfl,q⟩⟩
noncomputable def SN (z:Str):It:=⟨fun i _=>i < z.cps.size,fun i H x H'=>H'=H/\∃c,z.cps[i]? =some c/\x= .str ⟨#[c]⟩,fun i _=>z.cps.size<=i⟩
def EX (z:Str) (it:Addr) (t:Tok) (ty:String) (hW:∀A':Around,A'.handled=none->Walks P w A' it [it] [it] z.cps.size (SignAt z) fun i h=>h.IsStrIter it ty z t i)
  (hself:∀(A:Around) (i:Nat) (s:Shared) (Q:AAB) (E:AAB),s.heap.IsStrIter it ty z t i->Q (.ref it) s->wpAny (model P w) A (pyIter (.ref it)) Q E s):
  Turn P w K (.Name x px) (SN z) [it] it (fun i h=>i<=z.cps.size/\h.IsStrIter it ty z t i) where
 mem:=by simp
 obj:=fun i h st b hb=>by
  obtain rfl:b=it:=by simpa using hb
  obtain⟨o,e,c,d⟩:=st.2
  exact⟨o,e,fun v q=>by rw[d] at q;cases q⟩
 keep:=fun i h h' st k=>by
  obtain⟨o,e,r⟩:=st.2
  exact⟨st.1,o,k it (by simp) o e,r⟩
 item:=by
  intro X hP hw hK hc i pins s σ H E I hf st hg
  subst hP hw hK
  obtain⟨f0,f1,f2,f3,f4,f5⟩:=hf it (by simp)
  refine(hW X.A (I.ok.hd hc)).item i s _ _ hg st.2 fun v h' tk hv st' kk=>?_
  obtain⟨c,u,hc',rfl⟩:=hv
  exact⟨_,rfl,XZ ⟨.str ⟨#[c]⟩,H,I.turned (fun b o hb e=>kk b o (by simpa using hb) e) f0 f1 f3 f4 f5,⟨u,rfl⟩,⟨rfl,c,hc',rfl⟩,⟨hg,st'⟩,fun b hb=>(hf b hb).1⟩⟩
 done:=by
  intro X hP hw hK hc i pins s σ H E I hf st hg
  subst hP hw hK
  obtain⟨f0,f1,f2,f3,f4,f5⟩:=hf it (by simp)
  obtain⟨s1,s2⟩:=st
  have e:i=z.cps.size:=Nat.le_antisymm s1 hg
  subst e
  exact(hW X.A (I.ok.hd hc)).done s _ _ s2 fun h' tk kk=>⟨rfl,I.turned (fun b o hb e=>kk b o (by simpa using hb) e) f0 f1 f3 f4 f5⟩
 self:=fun A i s Q E st h=>hself A i s Q E st.2 h
def SO (tl:TE):TI:=fun σ H R=>tl σ H fun x H1=>∃z,x= .str z/\R (SN z) H1
def LA {l:Expr}{tl:TE}(hl:PE X l tl):PI X (.Name x px) l (SO tl):=by
 intro pins s σ H R I h
 refine dj (hl pins s σ H _ I h) fun v s1 hh=>?_
 obtain⟨y,H1,I1,r1,q1⟩:=hh
 obtain⟨z,rfl,q⟩:=q1
 obtain⟨t,rfl⟩:=r1
 refine wpAny_pyIter_strU ?_
 have hst:∀ty,strIterType z=ty->(s1.heap.push {cls:=.type (strIterType z),data:=.fields #[.str z t,.int 0 0]}).IsStrIter s1.heap.objs.size ty z t 0:=fun ty e=>⟨_,Yk _ rfl,by rw[<-e],rfl⟩
 have go:∀ty,strIterType z=ty->(∀A':Around,A'.handled=none->Walks X.prog X.w A' s1.heap.objs.size [s1.heap.objs.size] [s1.heap.objs.size] z.cps.size (SignAt z) fun i h=>h.IsStrIter s1.heap.objs.size ty z t i)->
   (∀(A:Around) (i:Nat) (s:Shared) (Q:AAB) (E:AAB),s.heap.IsStrIter s1.heap.objs.size ty z t i->Q (.ref s1.heap.objs.size) s->wpAny (model X.prog X.w) A (pyIter (.ref s1.heap.objs.size)) Q E s)->
   R6 X pins σ (.Name x px) R (.ref s1.heap.objs.size) {s1 with heap:=s1.heap.push {cls:=.type (strIterType z),data:=.fields #[.str z t,.int 0 0]}}:=fun ty e hW hself=>by
  refine⟨s1.heap.objs.size,[s1.heap.objs.size],_,_,H1,rfl,I1.kept (t':=s1.toks) fun b o e=>X3 _ e,EX z _ t ty hW hself,⟨Y4 _,hst ty e⟩,fun b hb=>?_,q⟩
  obtain rfl:b=s1.heap.objs.size:=by simpa using hb
  exact I1.CJ (X6 _) (I1.hok.fresh (X6 _))
 cases ha:z.cps.all (· < 128)
 ·exact go "str_iterator" (by simp[strIterType,ha]) (fun A' hA=>Walks.strWide hA _ z t) fun A i s Q E st h=>wpAny_pyIter_striter_wide st h
 ·exact go "str_ascii_iterator" (by simp[strIterType,ha]) (fun A' hA=>Walks.strAscii hA _ z t) fun A i s Q E st h=>wpAny_pyIter_striter_ascii st h
def yC {bs:List Bool}:∀{us:AAI},Vals (bs.map V.bl) us->us=bs.map Value.bool:=by
 induction bs with
 | nil=>intro us r;cases r;rfl
 | cons b bs ih=>
  intro us r
  cases r with
  | cons r1 r2=>
   cases r1
   rw[ih r2]
   rfl
def Au (bs:List Bool):((List.range bs.length).all fun i=>(bs[i]?).getD true)=bs.all id:=by
 rw[Bool.eq_iff_iff,Z1,Z1]
 constructor
 ·intro h b hb
  obtain⟨i,hi,rfl⟩:=List.mem_iff_getElem.mp hb
  have:=h i (YV.mpr hi)
  simpa[hi] using this
 ·intro h i hi
  have hi:=YV.mp hi
  simp only[Yo hi,Z2]
  exact h _ (aaF hi)
def Av (bs:List Bool):((List.range bs.length).any fun i=>(bs[i]?).getD false)=bs.any id:=by
 rw[Bool.eq_iff_iff,aaG,aaG]
 constructor
 ·rintro⟨i,hi,h⟩
  have hi:=YV.mp hi
  simp only[Yo hi,Z2] at h
  exact⟨_,aaF hi,h⟩
 ·rintro⟨b,hb,h⟩
  obtain⟨i,hi,rfl⟩:=List.mem_iff_getElem.mp hb
  exact⟨i,YV.mpr hi,by simpa[hi] using h⟩
def C5 (hc:X.calm=true):dU X (.builtin "all") (fun xs H Q=>∃(p:Addr) (bs:List Bool),xs=[.ref p]/\k7 X.K H p (bs.map V.bl)/\Q (.bl (bs.all id)) H):=by
 intro pins s σ H xs us Q I r h
 obtain⟨p,bs,rfl,hp,q⟩:=h
 obtain⟨u,rfl,ru⟩:=vals1 r
 cases ru
 obtain⟨its,rv,pl,hz⟩:=I.list hp
 obtain rfl:=yC rv
 have hlt:p < s.heap.objs.size:=by obtain⟨_,e,_⟩:=pl.isList;exact X5 e
 refine call_all_walk (aaz pl.isList ?_)
 refine⟨s.heap.objs.size,[s.heap.objs.size,p],[s.heap.objs.size],_,_,_,fun i=>(bs[i]?).getD true,rfl,Walks.list (A:=X.A.in1) (I.ok.hd hc) _ p (Ym hlt) _,
  ⟨⟨_,Yk _ rfl,rfl,rfl⟩,pl.isList.push _⟩,fun i v s' Q' E' hP hQ=>?_,fun h' tk hk=>?_⟩
 ·have hP:(bs.map Value.bool)[i]? =some v:=by simpa using hP
  rw[Yu] at hP
  cases e:bs[i]? with
  | none=>rw[e] at hP;cases hP
  | some b=>
   rw[e] at hP
   cases hP
   simp only[e,Z2] at hQ
   exact YX hQ
 ·have e:((List.range (bs.map Value.bool).toArray.size).all fun i=>(bs[i]?).getD true)=bs.all id:=by
   rw[X0,Yh];exact Au bs
  rw[e]
  exact⟨.bl (bs.all id),H,I.kept (t':=tk) fun b o e=>hk b o (fun hm=>by rw[Yq.mp hm] at e;exact YE _ (X5 e)) (X3 _ e),rfl,q⟩
def C6 (hc:X.calm=true):dU X (.builtin "any") (fun xs H Q=>∃(p:Addr) (bs:List Bool),xs=[.ref p]/\k7 X.K H p (bs.map V.bl)/\Q (.bl (bs.any id)) H):=by
 intro pins s σ H xs us Q I r h
 obtain⟨p,bs,rfl,hp,q⟩:=h
 obtain⟨u,rfl,ru⟩:=vals1 r
 cases ru
 obtain⟨its,rv,pl,hz⟩:=I.list hp
 obtain rfl:=yC rv
 have hlt:p < s.heap.objs.size:=by obtain⟨_,e,_⟩:=pl.isList;exact X5 e
 refine call_any_walk (aaz pl.isList ?_)
 refine⟨s.heap.objs.size,[s.heap.objs.size,p],[s.heap.objs.size],_,_,_,fun i=>(bs[i]?).getD false,rfl,Walks.list (A:=X.A.in1) (I.ok.hd hc) _ p (Ym hlt) _,
  ⟨⟨_,Yk _ rfl,rfl,rfl⟩,pl.isList.push _⟩,fun i v s' Q' E' hP hQ=>?_,fun h' tk hk=>?_⟩
 ·have hP:(bs.map Value.bool)[i]? =some v:=by simpa using hP
  rw[Yu] at hP
  cases e:bs[i]? with
  | none=>rw[e] at hP;cases hP
  | some b=>
   rw[e] at hP
   cases hP
   simp only[e,Z2] at hQ
   exact YX hQ
 ·have e:((List.range (bs.map Value.bool).toArray.size).any fun i=>(bs[i]?).getD false)=bs.any id:=by
   rw[X0,Yh];exact Av bs
  rw[e]
  exact⟨.bl (bs.any id),H,I.kept (t':=tk) fun b o e=>hk b o (fun hm=>by rw[Yq.mp hm] at e;exact YE _ (X5 e)) (X3 _ e),rfl,q⟩
def SQ:V->Option Int->Option Int->Hp->VK->Prop:=fun x lo hi H Q=>∃z,x= .str z/\z.length<=sizeLine/\((Txt.slice z lo hi).length<=z.length->Q (.str (Txt.slice z lo hi)) H)
def LB :OG X SQ:=by
 intro pins s σ H x v vl vu lo hi sl Q I rx hs pl pu h
 obtain⟨z,rfl,hz,q⟩:=h
 obtain⟨t,rfl⟩:=rx
 have q:=q (Zv z _ _)
 refine⟨"str",_,F.slot_str_getitem.lookup,ZD _ _ _,?_⟩
 cases pl with
 | none=>
  cases pu with
  | none=>exact Zp (l:=none) (u:=none) (st:=none) hs rfl (aad ⟨Yc (Zv z _ _) hz,fun t' k=>⟨V.str (Txt.slice z none none),H,I.tok k,⟨t',rfl⟩,q⟩⟩)
  | int j u=>exact Zp (l:=none) (u:=some (j,u)) (st:=none) hs rfl (aad ⟨Yc (Zv z _ _) hz,fun t' k=>⟨V.str (Txt.slice z none (some j)),H,I.tok k,⟨t',rfl⟩,q⟩⟩)
 | int i u'=>
  cases pu with
  | none=>exact Zp (l:=some (i,u')) (u:=none) (st:=none) hs rfl (aad ⟨Yc (Zv z _ _) hz,fun t' k=>⟨V.str (Txt.slice z (some i) none),H,I.tok k,⟨t',rfl⟩,q⟩⟩)
  | int j u=>exact Zp (l:=some (i,u')) (u:=some (j,u)) (st:=none) hs rfl (aad ⟨Yc (Zv z _ _) hz,fun t' k=>⟨V.str (Txt.slice z (some i) (some j)),H,I.tok k,⟨t',rfl⟩,q⟩⟩)
theorem bz.length {H:Hp}:∀{vs:List V}{ds:List D},bz H vs ds->vs.length=ds.length
 | _,_,.nil=>rfl
 | _,_,.cons _ rs=>congrArg Nat.succ (bz.length rs)
theorem bz.get {H:Hp}:∀{vs:List V}{ds:List D}{i:Nat}{d:D},bz H vs ds->ds[i]? =some d->∃v,vs[i]? =some v/\Rep H v d
 | _,_,_,_,.nil,e=>by simp at e
 | _,_,0,_,.cons r _,e=>by simp at e;subst e;exact⟨_,rfl,r⟩
 | _,_,i+1,_,.cons _ rs,e=>by
  obtain⟨v,h1,h2⟩:=bz.get (i:=i) rs (by simpa using e)
  exact⟨v,by simpa using h1,h2⟩
theorem bz.append {H:Hp}:∀{vs ws:List V}{ds es:List D},bz H vs ds->bz H ws es->bz H (vs++ws) (ds++es)
 | _,_,_,_,.nil,s=>s
 | _,_,_,_,.cons r rs,s=>.cons r (bz.append rs s)
theorem bz.take {H:Hp}:∀{vs:List V}{ds:List D}(n:Nat),bz H vs ds->bz H (vs.take n) (ds.take n)
 | _,_,0,_=>.nil
 | _,_,_+1,.nil=>.nil
 | _,_,n+1,.cons r rs=>.cons r (bz.take n rs)
theorem bz.drop {H:Hp}:∀{vs:List V}{ds:List D}(n:Nat),bz H vs ds->bz H (vs.drop n) (ds.drop n)
 | _,_,0,rs=>rs
 | _,_,_+1,.nil=>.nil
 | _,_,n+1,.cons _ rs=>bz.drop n rs
noncomputable def LC:D->String
 | .cz=>"NoneType" | .bl _=>"bool" | .int _=>"int" | .str _=>"str" | .tup _=>"tuple" | .lst _=>"list"
open PySem.W in
noncomputable def gg (T U:String):Option Bool:=if(Value.type T == Value.type U)=true then some true else if kitMeta U=true then(fastBuiltinMro T).map (·.contains (Value.type U)) else none
noncomputable def Aw:D->Bool
 | .tup _=>true
 | _=>false
noncomputable def EY:D->Bool
 | .lst _=>true
 | _=>false
noncomputable def lJ:D->Bool
 | .str _=>true
 | _=>false
noncomputable def sy:D->Bool
 | .bl _=>true
 | _=>false
noncomputable def Ax:D->Bool
 | .int _=>true
 | .bl _=>true
 | _=>false
def Iu (d:D):PySem.W.kitOne K (.type (LC d)) (.type "tuple")=some (Aw d):=by
 cases d with
 | cz=>exact(show gg "NoneType" "tuple" =some false by decide +kernel)
 | bl b=>exact(show gg "bool" "tuple" =some false by decide +kernel)
 | int i=>exact(show gg "int" "tuple" =some false by decide +kernel)
 | str z=>exact(show gg "str" "tuple" =some false by decide +kernel)
 | tup ds=>exact(show gg "tuple" "tuple" =some true by decide +kernel)
 | lst ds=>exact(show gg "list" "tuple" =some false by decide +kernel)
def Iv (d:D):PySem.W.kitOne K (.type (LC d)) (.type "list")=some (EY d):=by
 cases d with
 | cz=>exact(show gg "NoneType" "list" =some false by decide +kernel)
 | bl b=>exact(show gg "bool" "list" =some false by decide +kernel)
 | int i=>exact(show gg "int" "list" =some false by decide +kernel)
 | str z=>exact(show gg "str" "list" =some false by decide +kernel)
 | tup ds=>exact(show gg "tuple" "list" =some false by decide +kernel)
 | lst ds=>exact(show gg "list" "list" =some true by decide +kernel)
def EZ (d:D):PySem.W.kitOne K (.type (LC d)) (.type "str")=some (lJ d):=by
 cases d with
 | cz=>exact(show gg "NoneType" "str" =some false by decide +kernel)
 | bl b=>exact(show gg "bool" "str" =some false by decide +kernel)
 | int i=>exact(show gg "int" "str" =some false by decide +kernel)
 | str z=>exact(show gg "str" "str" =some true by decide +kernel)
 | tup ds=>exact(show gg "tuple" "str" =some false by decide +kernel)
 | lst ds=>exact(show gg "list" "str" =some false by decide +kernel)
def LD (d:D):PySem.W.kitOne K (.type (LC d)) (.type "bool")=some (sy d):=by
 cases d with
 | cz=>exact(show gg "NoneType" "bool" =some false by decide +kernel)
 | bl b=>exact(show gg "bool" "bool" =some true by decide +kernel)
 | int i=>exact(show gg "int" "bool" =some false by decide +kernel)
 | str z=>exact(show gg "str" "bool" =some false by decide +kernel)
 | tup ds=>exact(show gg "tuple" "bool" =some false by decide +kernel)
 | lst ds=>exact(show gg "list" "bool" =some false by decide +kernel)
def Iw (d:D):PySem.W.kitOne K (.type (LC d)) (.type "int")=some (Ax d):=by
 cases d with
 | cz=>exact(show gg "NoneType" "int" =some false by decide +kernel)
 | bl b=>exact(show gg "bool" "int" =some true by decide +kernel)
 | int i=>exact(show gg "int" "int" =some true by decide +kernel)
 | str z=>exact(show gg "str" "int" =some false by decide +kernel)
 | tup ds=>exact(show gg "tuple" "int" =some false by decide +kernel)
 | lst ds=>exact(show gg "list" "int" =some false by decide +kernel)
end L2
end
section
namespace HT
open PySem PySem.Spec PyProof.Rows
section
variable {prog:Program}{w:World}{A:Around}{E:AAB}{s:Shared}
def C7 {t sl:Addr}{items:AAH}{vl vu:Value}{lo hi:Option Int}{Q:AAB}(ht:IsTup s.heap t items) (hs:s.heap.IsSliceOf sl vl vu .none) (pl:IsPart vl lo) (pu:IsPart vu hi)
  (hw:ff items.size 0 lo=0/\ff items.size items.size hi=items.size) (h:Q (.ref t) s):wpAny (model prog w) A (getItem (.ref t) (.ref sl)) Q E s:=by
 obtain⟨os,hos,hcs,hds⟩:=id hs
 have Sm:s.TypeIs (.ref sl) "slice":=⟨os,hos,hcs⟩
 unfold getItem
 try with_reducible refine YI ?_
 first | refine XY (XZ ?_) | skip
 refine XY (wpAny_sequenceKey ht.typeIs (by decide) ?_)
 refine XY (Za (name:=Str.ofString "__getitem__") ht.typeIs YA
  (Z0 YA ht.typeIs entry_tuple_getitem ?_ (args_tuple_getitem _ _)))
 show wpAny _ _ (Builtin.Tuple.tupleItemsOf (.ref t) >>= _) _ _ s
 refine XY (tupleItemsOf_ ht ?_)
 refine XY (aaE Sm ?_)
 rw[if_pos (by decide)]
 refine XY (jY hs pl pu ?_)
 have hyes:(((ff items.size 0 lo:Nat):Int) == 0 && (1:Int) == 1 && (ff items.size items.size hi - ff items.size 0 lo) == items.size)=true:=by
  rw[hw.1,hw.2];simp
 show wpAny _ _ (if(((ff items.size 0 lo:Nat):Int) == 0 && (1:Int) == 1 && (ff items.size items.size hi - ff items.size 0 lo) == items.size)=true then _ else _) _ _ s
 rw[if_pos hyes]
 have hex:∀{α:Type}{k:Bool->Sem α}{Q':α->Shared->Prop}{E':AAB}{A':Around},wpAny (model prog w) A' (k true) Q' E' s->wpAny (model prog w) A' (Builtin.Tuple.tupleIsExact (.ref t) >>= k) Q' E' s:=fun {α k Q' E' A'} hk=>by
  refine XY ?_
  unfold Builtin.Tuple.tupleIsExact
  exact XY (aaE ht.typeIs (XZ hk))
 first
  | (refine hex ?_;exact wpAny_rule (XZ ⟨_,rfl,XZ h⟩))
  | (refine hex ?_;refine XY (wpAny_rule ?_);exact XZ ⟨_,rfl,XZ h⟩)
end
end HT
end
section
namespace L2
open PySem PySem.Spec PyProof.Rows
variable {scope:Scope}{X:Cx}{x y:V}{K:AAA}{H F1 H1 F' H' H0 F0:Hp}{a p ca cb ad:Addr}{ns:List Int}{k:Bool}{α β:Type}{i j n:Nat}{o:HO}{B:Base}{S S' S0:SS}{σ:St}{u:U}{Q E:AAB}{T:String}{op:CmpOp}{q1 q2 q:GT}{r E7:List Expr}{ds es:List D}{xs vs:List V}{pos':Pos}{tg iter:Expr}{bd:GB}{gd g:GD}{z:Str}{gi:GI}{us ws:List U}{cap:List Nat}{cl:List (Str×Addr)}{bX:List Str}{A:Around}{dZ bZ:AAI}{kvs:List (Key×V)}{prog:Program}{w:World}{ya:List (Str×GD)}{h':Heap}{its vals:AAH}{fp:List Addr}
section
variable {X:Cx}
noncomputable def cutD (ds:List D) (lo hi:Option Int):List D:=(ds.drop (HT.ff ds.length 0 lo)).take (HT.ff ds.length ds.length hi - HT.ff ds.length 0 lo)
def bz.gR {H:Hp}{vs:List V}{ds:List D}{i:Int}{d:D}(r:bz H vs ds) (h:L2.gR ds i=some d):∃v,L2.gR vs i=some v/\Rep H v d:=by
 have hl:=r.length
 unfold L2.gR at h ⊢
 rw[hl]
 cases e:CZ ds.length i with
 | none=>rw[e] at h;cases h
 | some j=>
  rw[e] at h
  exact r.get h
end
def yD {env:Env}{n:Str}{k:NameKind}(h:(relabel scope env).names.lookup n=some k):(n,k)∈(relabel scope env).names:=YD h
def Ay {x:Str}(h1:∀y∈scope.names,y.2≠.free) (h2:∀y∈scope.names,y.2≠.cell) (h3:scope.kind= .function) (h4:∀y∈scope.names,y.2= .local->scope.names.lookup y.1=some .local) (h5:scope.names.lookup x=some .local):
  fh X x [] [] scope []:=by
 refine⟨closureFor_none h1,h2,h3,h4,h5,fun n c h=>(by cases h),fun n h=>?_,by simp,rfl,fun j n h=>(by simp at h),fun n h=>(by simp at h)⟩
 have no:∀k,(k=NameKind.cell\/k=NameKind.free)->(relabel scope X.env).names.lookup n≠some k:=fun k hk e=>by
  have m:=yD e
  unfold relabel at m
  obtain⟨⟨n',k'⟩,hm,q⟩:=Yz.mp m
  have z:(k' == NameKind.free)=false:=by simpa using h1 _ hm
  simp only[z,aam,aal] at q
  have q2:k'=k:=by
   have:=congrArg Prod.snd q
   simpa using this
  rcases hk with rfl | rfl
  ·exact h2 _ hm q2
  ·exact h1 _ hm q2
 rcases h with h | h
 ·exact absurd h (no _ (.inl rfl))
 ·exact absurd h (no _ (.inr rfl))
noncomputable def fQ (d:D) (l m:Int):Bool:=match d with
 | .int i=>decide (l<=i) && decide (i<=m)
 | _=>false
noncomputable def sA (d:D) (l m:Int):Bool:=match d with
 | .tup ds=>decide (l<=(ds.length:Int)) && decide ((ds.length:Int)<=m)
 | _=>false
theorem lookup_some {α:Type}:∀{l:List (Str×α)}{n:Str},n∈l.map (·.1)->∃c,l.lookup n=some c
 | [],_,h=>by simp at h
 | (m,c) :: l,n,h=>by
  rw[ZE]
  cases e:n == m with
  | true=>exact⟨c,rfl⟩
  | false=>
   rcases Yi.mp h with h | h
   ·have h:n=m:=h
    rw[h,beq_self_eq_true] at e
    cases e
   ·exact lookup_some h
def vals3 {z:V}{us:AAI}(r:Vals [x,y,z] us):∃u v w',us=[u,v,w']/\RelV x u/\RelV y v/\RelV z w':=by
 cases r with
 | cons r1 r=>
  obtain⟨v,w',rfl,r2,r3⟩:=vals2 r
  exact⟨_,_,_,rfl,r1,r2,r3⟩
def C8 (hc:X.calm=true):dU X (.builtin "min") (fun xs H Q=>∃i j k:Int,xs=[.int i,.int j,.int k]/\Q (.int (if j < i then(if k < j then k else j) else if k < i then k else i)) H):=by
 intro pins s σ H xs us Q I r h
 obtain⟨i,j,k,rfl,q⟩:=h
 obtain⟨u,v,w',rfl,⟨t,rfl⟩,⟨t',rfl⟩,⟨t'',rfl⟩⟩:=vals3 r
 refine min_three_ints (I.ok.hd hc) fun h' tk kk=>⟨_,H,I.kept kk,?_,q⟩
 by_cases h1:j < i
 ·rw[if_pos h1,if_pos h1]
  by_cases h2:k < j
  ·rw[if_pos h2,if_pos h2];exact⟨_,rfl⟩
  ·rw[if_neg h2,if_neg h2];exact⟨_,rfl⟩
 ·rw[if_neg h1,if_neg h1]
  by_cases h2:k < i
  ·rw[if_pos h2,if_pos h2];exact⟨_,rfl⟩
  ·rw[if_neg h2,if_neg h2];exact⟨_,rfl⟩
mutual
noncomputable def toPy:D->PyData
 | .cz=>.none
 | .bl b=>.bool b
 | .int i=>.int i
 | .str z=>.str z
 | .tup ds=>.tuple (E1 ds)
 | .lst ds=>.list (E1 ds)
noncomputable def E1:List D->List PyData
 | []=>[]
 | d :: ds=>toPy d :: E1 ds
end
section
variable {X:Cx}{pins:AAD}{σ:St}{H:Hp}{s:Shared}
end
inductive MO where
 | lst (ds:List D)
 | dct (kvs:List (Key×D))
 | Ab (kvs:List (D×D))
 | ins (C:Addr) (kvs:List (Str×D))
inductive U where
 | t (d:D) | m (o:MO) | b (o:MO) | v (i:Nat) | s (ns:List Int) | f (a:Addr) | x (C:Addr) (kvs:List (Str×D))
abbrev XU (d:D):Option U:=some (.t d)
abbrev XW (d:List D):Option U:=some (.m (.lst d))
abbrev XX (i:Int):Option U:=some (.t (.int i))
abbrev SS:=List (Option U)
def Sub (F H:Hp):Prop:=∀a o,F a=some o->H a=some o
def fC {κ:Type}(F:Hp) (p:κ×V) (q:κ×D):Prop:=p.1=q.1/\Rep F p.2 q.2
def m8 (F:Hp) (v:V) (C:Addr) (kvs:List (Str×D)):Prop:=∃a dx fs,v= .ref a/\F a=some (.nu C dx fs)/\F dx=some (.own a)/\Paired (fC F) fs kvs
def At (F H:Hp) (a:Addr):MO->Prop
 | .lst ds=>∃vs,H a=some (.lst vs)/\bz F vs ds
 | .dct kvs=>∃ws,H a=some (.dK ws)/\Paired (fC F) ws kvs
 | .Ab kvs=>∃ws,H a=some (.dT ws)/\Paired (fC F) ws kvs
 | .ins C kvs=>∃ws,(∃dx,H a=some (.ins C dx ws))/\Paired (fC F) ws kvs
noncomputable def eu:U->Bool
 | .m _=>true
 | .b _=>true
 | _=>false
def cY (S:SS) (σ:St) (a:Addr):Prop:=∃(i:Nat) (u:U),S[i]? =some (some u)/\eu u=true/\σ[i]? =some (some (.ref a))
def Iz (K:AAA) (H:Hp) (a:Addr) (ns:List Int):Prop:=
 (∃o,H a=some (.iN o (.lst (ns.map V.int))))\/∃(o:Obj) (its:AAH) (n:Nat),K.lookup a=some o/\o.cls= .type "list"/\o.dict=none/\o.data= .seq its n/\its.size<=sizeLine/\Vals (ns.map V.int) its.toList
theorem Iz.sq :Iz K H a ns->k7 K H a (ns.map V.int)
 | .inl h=>.inl (.inr h)
 | .inr h=>.inr h
def yE (K:AAA) (F H:Hp) (v:V):U->Prop
 | .t d=>Rep F v d
 | .m o=>∃a,v= .ref a/\F a=none/\At F H a o
 | .b o=>∃a,v= .ref a/\F a=none/\At F H a o
 | .v _=>False
 | .s ns=>∃a,v= .ref a/\Iz K H a ns
 | .f a=>v= .ref a
 | .x C k=>m8 F v C k
structure Ext (M:Addr->Prop) (F H F' H':Hp):Prop where
 le:∀b o,F b=some o->F' b=some o
 keep:∀b o,H b=some o->¬M b->H' b=some o
 i9:∀b o,H b=some o->¬M b->F b=none->F' b=none
 there:∀b o,H b=some o->∃o',H' b=some o'
 iN:∀b o u,H b=some (.iN o u)->H' b=some (.iN o u)
structure Base where
 P:List (Option Addr)
 F:Hp
 H:Hp
def Base.M (B:Base) (a:Addr):Prop:=some a∈B.P
structure Rel (K:AAA) (B:Base) (S:SS) (σ:St) (F H:Hp):Prop where
 sub:Sub F H
 len:S.length=σ.length
 rep:∀(i:Nat) u,S[i]? =some (some u)->∃v,σ[i]? =some (some v)/\yE K F H v u
 Az:∀(i j:Nat) u w a,S[i]? =some (some u)->eu u=true->S[j]? =some (some w)->eu w=true->σ[i]? =some (some (.ref a))->σ[j]? =some (some (.ref a))->i=j
 own:∀(i:Nat) o a,S[i]? =some (some (.m o))->σ[i]? =some (some (.ref a))->B.H a=none
 bor:∀(i:Nat) o a,S[i]? =some (some (.b o))->σ[i]? =some (some (.ref a))->B.M a
 par:∀(i:Nat) a,B.P[i]? =some (some a)->σ[i]? =some (some (.ref a))/\∃o,S[i]? =some (some (.b o))
 ext:Ext B.M B.F B.H F H
structure Step (S S':SS) (σ:St) (F H F' H':Hp):Prop where
 ext:Ext (cY S σ) F H F' H'
 mu:∀a,cY S' σ a->cY S σ a
 slots:∀(i:Nat) u,S[i]? =some (some u)->∃u',S'[i]? =some (some u')
def Ext.refl (M:Addr->Prop) (F H:Hp):Ext M F H F H:=⟨fun _ _ h=>h,fun _ _ h _=>h,fun _ _ _ _ h=>h,fun _ o h=>⟨o,h⟩,fun _ _ _ h=>h⟩
def Ext.trans {M M':Addr->Prop}{F F2 H2:Hp}(x:Ext M F H F1 H1) (y:Ext M' F1 H1 F2 H2) (s:∀b,M' b->M b\/H b=none):Ext M F H F2 H2 where
 le:=fun b o h=>y.le b o (x.le b o h)
 keep:=fun b o h n=>y.keep b o (x.keep b o h n) fun q=>(s b q).elim n fun z=>by rw[h] at z;cases z
 i9:=fun b o h n f=>y.i9 b o (x.keep b o h n) (fun q=>(s b q).elim n fun z=>by rw[h] at z;cases z) (x.i9 b o h n f)
 there:=fun b o h=>let⟨o',h'⟩:=x.there b o h;y.there b o' h'
 iN:=fun b o u h=>y.iN b o u (x.iN b o u h)
def Step.refl (S:SS) (σ:St) (F H:Hp):Step S S σ F H F H:=⟨Ext.refl _ _ _,fun _ h=>h,fun _ u h=>⟨u,h⟩⟩
def Step.trans {S S1 S2:SS}{σ:St}{F H F1 H1 F2 H2:Hp}(x:Step S S1 σ F H F1 H1) (y:Step S1 S2 σ F1 H1 F2 H2):Step S S2 σ F H F2 H2:=
 ⟨x.ext.trans y.ext fun b q=>.inl (x.mu b q),fun a q=>x.mu a (y.mu a q),fun i u h=>let⟨u',h'⟩:=x.slots i u h;y.slots i u' h'⟩
mutual
theorem Rep.le {F F':Hp}(g:∀b o,F b=some o->F' b=some o):∀{v:V}{d:D},Rep F v d->Rep F' v d
 | _,_,.cz=>.cz
 | _,_,.bl b=>.bl b
 | _,_,.int i=>.int i
 | _,_,.str z=>.str z
 | _,_,.tup e r=>.tup (g _ _ e) (bz.le g r)
 | _,_,.lst e r=>.lst (e.imp (g _ _) fun⟨o,h⟩=>⟨o,g _ _ h⟩) (bz.le g r)
theorem bz.le {F F':Hp}(g:∀b o,F b=some o->F' b=some o):∀{vs:List V}{ds:List D},bz F vs ds->bz F' vs ds
 | _,_,.nil=>.nil
 | _,_,.cons r rs=>.cons (Rep.le g r) (bz.le g rs)
end
def oO {κ:Type}{F:Hp}(g:∀b o,F b=some o->F' b=some o){ws:List (κ×V)}{kvs:List (κ×D)}(r:Paired (fC F) ws kvs):Paired (fC F') ws kvs:=
 Paired.CF r fun _ _ z=>⟨z.1,z.2.le g⟩
theorem m8.le {F:Hp}(g:∀b o,F b=some o->F' b=some o){v:V}{C:Addr}{k:List (Str×D)}:m8 F v C k->m8 F' v C k
 | ⟨a,dx,fs,e,h1,h2,h3⟩=>⟨a,dx,fs,e,g _ _ h1,g _ _ h2,oO g h3⟩
theorem At.le {F F' H H':Hp}{a:Addr}(g:∀b o,F b=some o->F' b=some o) (k:∀o,H a=some o->H' a=some o):∀{o:MO},At F H a o->At F' H' a o
 | .lst _,⟨vs,e,r⟩=>⟨vs,k _ e,r.le g⟩
 | .dct _,⟨ws,e,r⟩=>⟨ws,k _ e,oO g r⟩
 | .Ab _,⟨ws,e,r⟩=>⟨ws,k _ e,oO g r⟩
 | .ins _ _,⟨ws,⟨dx,e⟩,r⟩=>⟨ws,⟨dx,k _ e⟩,oO g r⟩
theorem At.has {F:Hp}:∀{o:MO},At F H a o->∃u,H a=some u
 | .lst _,⟨_,e,_⟩=>⟨_,e⟩
 | .dct _,⟨_,e,_⟩=>⟨_,e⟩
 | .Ab _,⟨_,e,_⟩=>⟨_,e⟩
 | .ins _ _,⟨_,⟨_,e⟩,_⟩=>⟨_,e⟩
def iI (K:AAA) (B:Base) (S:SS) (σ:St) (H0 F H:Hp) (v:V):U->Prop
 | .t d=>Rep F v d
 | .m o=>∃a,v= .ref a/\H0 a=none/\F a=none/\At F H a o/\¬cY S σ a/\B.H a=none
 | .v i=>σ[i]? =some (some v)/\∃u,S[i]? =some (some u)
 | .b _=>False
 | .s ns=>∃a,v= .ref a/\Iz K H a ns
 | .f a=>v= .ref a
 | .x C k=>m8 F v C k
def PE.imp {e:Expr}{t t':TE}(h:PE X e t) (k:∀σ H Q,t' σ H Q->t σ H Q):PE X e t':=fun pins s σ H Q I q=>h pins s σ H Q I (k σ H Q q)
def PT.imp {e:Expr}{t t':TT}(h:PT X e t) (k:∀σ H Q,t' σ H Q->t σ H Q):PT X e t':=fun pins s σ H Q I q=>h pins s σ H Q I (k σ H Q q)
def PW.imp {e:Expr}{t t':TT}(h:PW X e t) (k:∀σ H Q,t' σ H Q->t σ H Q):PW X e t':=fun w pins s σ H Q I q=>h w pins s σ H Q I (k σ H Q q)
def PA.imp {e:List Expr}{t t':TA}(h:PA X e t) (k:∀σ H Q,t' σ H Q->t σ H Q):PA X e t':=fun p pins s σ H Q I q=>h p pins s σ H Q I (k σ H Q q)
def PS.imp {e:Stmt}{t t':TS}(h:PS X e t) (k:∀D σ H,t' D σ H->t D σ H):PS X e t':=fun pins s σ H Q I q=>h pins s σ H Q I (k Q σ H q)
def wC.imp {e:List Stmt}{t t':TS}(h:wC X e t) (k:∀D σ H,t' D σ H->t D σ H):wC X e t':=fun pins s σ H Q I q=>h pins s σ H Q I (k Q σ H q)
def PE.orelse {e:Expr}{t:TE}(h:∀σ H Q,t σ H Q->∃t',PE X e t'/\t' σ H Q):PE X e t:=fun pins s σ H Q I q=>let⟨_,h1,h2⟩:=h σ H Q q;h1 pins s σ H Q I h2
def PS.orelse {e:Stmt}{t:TS}(h:∀D σ H,t D σ H->∃t',PS X e t'/\t' D σ H):PS X e t:=fun pins s σ H Q I q=>let⟨_,h1,h2⟩:=h Q σ H q;h1 pins s σ H Q I h2
abbrev GE:=SS->Option (U×SS)
abbrev GD:=SS->Option (D×SS)
abbrev GT:=SS->Option (Bool×SS)
abbrev GA:=SS->Option (List D×SS)
inductive Out where
 | nx (S:SS) | rt (u:U) (S:SS) | bk (S:SS) | ct (S:SS)
abbrev GS:=SS->Option Out
inductive tE (K:AAA) (B:Base) (g:GE) (σ:St) (H:Hp) (Q:VK):Prop
 | mk (S:SS) (F:Hp) (u:U) (S':SS) (R:Rel K B S σ F H) (hg:g S=some (u,S')) (q:∀v F' H',Rel K B S' σ F' H'->Step S S' σ F H F' H'->iI K B S' σ H F' H' v u->Q v H')
inductive tD (K:AAA) (B:Base) (g:GD) (σ:St) (H:Hp) (Q:VK):Prop
 | mk (S:SS) (F:Hp) (d:D) (S':SS) (R:Rel K B S σ F H) (hg:g S=some (d,S')) (q:∀v F' H',Rel K B S' σ F' H'->Step S S' σ F H F' H'->Rep F' v d->Q v H')
inductive tQ (K:AAA) (B:Base) (g:GT) (σ:St) (H:Hp) (Q:Bool->Hp->Prop):Prop
 | mk (S:SS) (F:Hp) (b:Bool) (S':SS) (R:Rel K B S σ F H) (hg:g S=some (b,S')) (q:∀F' H',Rel K B S' σ F' H'->Step S S' σ F H F' H'->Q b H')
inductive Vr (K:AAA) (B:Base) (g:GA) (σ:St) (H:Hp) (Q:List V->Hp->Prop):Prop
 | mk (S:SS) (F:Hp) (ds:List D) (S':SS) (R:Rel K B S σ F H) (hg:g S=some (ds,S')) (q:∀vs F' H',Rel K B S' σ F' H'->Step S S' σ F H F' H'->bz F' vs ds->Q vs H')
def BV (K:AAA) (B:Base) (F:Hp) (D:Ends):Out->Prop
 | .nx S=>∀σ' F' H',Rel K B S σ' F' H'->(∀b o,F b=some o->F' b=some o)->D.nx σ' H'
 | .bk S=>∀σ' F' H',Rel K B S σ' F' H'->(∀b o,F b=some o->F' b=some o)->D.bk σ' H'
 | .ct S=>∀σ' F' H',Rel K B S σ' F' H'->(∀b o,F b=some o->F' b=some o)->D.ct σ' H'
 | .rt u S=>∀v σ' F' H',Rel K B S σ' F' H'->(∀b o,F b=some o->F' b=some o)->iI K B S σ' B.H F' H' v u->D.rt v H'
inductive tO (K:AAA) (B:Base) (g:GS) (D:Ends) (σ:St) (H:Hp):Prop
 | mk (S:SS) (F:Hp) (o:Out) (R:Rel K B S σ F H) (hg:g S=some o) (q:BV K B F D o)
structure JE (X:Cx) (e:Expr) (g:GE):Prop where
 h:∀B,PE X e (tE X.K B g)
structure JD (X:Cx) (e:Expr) (g:GD):Prop where
 h:∀B,PE X e (tD X.K B g)
structure JT (X:Cx) (e:Expr) (g:GT):Prop where
 h:∀B,PT X e (tQ X.K B g)
structure JW (X:Cx) (e:Expr) (g:GT):Prop where
 h:∀B,PW X e (tQ X.K B g)
structure JA (X:Cx) (es:List Expr) (g:GA):Prop where
 h:∀B,PA X es (Vr X.K B g)
structure JS (X:Cx) (st:Stmt) (g:GS):Prop where
 h:∀B,PS X st (tO X.K B g)
structure JB (X:Cx) (st:List Stmt) (g:GS):Prop where
 h:∀B,wC X st (tO X.K B g)
noncomputable def fz:U->SS->Option (D×SS)
 | .t d,S=>some (d,S)
 | .m (.lst ds),S=>some (.lst ds,S)
 | .v i,S=>match S[i]? with
  | some (some (.t d))=>some (d,S)
  | some (some (.m (.lst ds)))=>some (.lst ds,S.set i (some (.t (.lst ds))))
  | _=>none
 | _,_=>none
def get_set {α:Type}{l:List α}{x y:α}(h:(l.set i x)[j]? =some y):(i=j/\x=y/\i < l.length)\/(i≠j/\l[j]? =some y):=by
 by_cases e:i=j
 ·subst e
  by_cases hl:i < l.length
  ·rw[Yw hl] at h;exact .inl ⟨rfl,Yn h,hl⟩
  ·rw[List.getElem?_eq_none (by simpa using hl)] at h;cases h
 ·rw[Yl e] at h;exact .inr ⟨e,h⟩
def Sub.iN {F:Hp}(s:Sub F H) (h:H a=some o):Sub (upd F a o) H:=fun b u e=>by
 by_cases hb:b=a
 ·subst hb;rw[aH] at e;cases e;exact h
 ·rw[aE hb] at e;exact s b u e
def Sub.fresh {F:Hp}(s:Sub F H) (h:H p=Option.none):F p=Option.none:=by
 cases e:F p with
 | none=>rfl
 | some o=>have q:=s p o e;rw[h] at q;cases q
def iJ {F:Hp}(h:F a=none):∀b u,F b=some u->upd F a o b=some u:=fun b u e=>by rw[aE (bR e h)];exact e
theorem Iz.le (k:∀b o u,H b=some (.iN o u)->H' b=some (.iN o u)):Iz K H a ns->Iz K H' a ns
 | .inl ⟨o,h⟩=>.inl ⟨o,k _ _ _ h⟩
 | .inr h=>.inr h
theorem yE.le {K:AAA}{F F' H H':Hp}{v:V}(g:∀b o,F b=some o->F' b=some o) (kf:∀b o u,H b=some (.iN o u)->H' b=some (.iN o u)):∀{u:U},yE K F H v u->(∀a,eu u=true->v= .ref a->(∀o,H a=some o->H' a=some o)/\F' a=none)->yE K F' H' v u
 | .t _,h,_=>Rep.le g h
 | .m _,⟨a,e,_,h⟩,k=>let⟨k1,k2⟩:=k a rfl e;⟨a,e,k2,h.le g k1⟩
 | .b _,⟨a,e,_,h⟩,k=>let⟨k1,k2⟩:=k a rfl e;⟨a,e,k2,h.le g k1⟩
 | .v _,h,_=>h
 | .s _,⟨a,e,h⟩,_=>⟨a,e,h.le kf⟩
 | .f _,h,_=>h
 | .x _ _,h,_=>m8.le g h
def E2 {F:Hp}{v:V}{d:D}(R:Rel K B S σ F H) (st:Step S0 S σ F0 H0 F H) (r:iI K B S σ H0 F H v u) (e:fz u S=some (d,S')):
  ∃F',Rel K B S' σ F' H/\Step S0 S' σ F0 H0 F' H/\Rep F' v d:=by
 cases u with
 | t d'=>cases e;exact⟨F,R,st,r⟩
 | b o=>cases r
 | s o=>cases e
 | f o=>cases e
 | x cx kx=>cases e
 | m o=>
  cases o with
  | dct kvs=>cases e
  | Ab kvs=>cases e
  | ins C kvs=>cases e
  | lst ds=>
   cases e
   obtain⟨a,rfl,h0,hf,⟨vs,ha,rs⟩,nm,hB⟩:=r
   have g:=iJ (o:=.lst vs) hf
   refine⟨upd F a (.lst vs),⟨R.sub.iN ha,R.len,fun i u h=>?_,R.Az,R.own,R.bor,R.par,?_⟩,⟨⟨fun b o h=>g b o (st.ext.le b o h),st.ext.keep,fun b o h n f=>?_,st.ext.there,st.ext.iN⟩,st.mu,st.slots⟩,.lst (.inl aH) (rs.le g)⟩
   ·obtain⟨w,h1,h2⟩:=R.rep i u h
    refine⟨w,h1,h2.le g (fun _ _ _ z=>z) fun c hm hc=>⟨fun o q=>q,?_⟩⟩
    have hca:c≠a:=fun z=>nm ⟨i,u,h,hm,by rw[h1,hc,z]⟩
    rw[aE hca]
    cases u with
    | m o=>obtain⟨c',e',f',_⟩:=h2;rw[hc] at e';cases e';exact f'
    | b o=>obtain⟨c',e',f',_⟩:=h2;rw[hc] at e';cases e';exact f'
    | t d=>cases hm
    | v j=>cases hm
    | s j=>cases hm
    | f j=>cases hm
    | x cx kx=>cases hm
   ·exact⟨fun b o h=>g b o (R.ext.le b o h),R.ext.keep,fun b o h n f=>by rw[aE (fun z=>by rw[z,hB] at h;cases h)];exact R.ext.i9 b o h n f,R.ext.there,R.ext.iN⟩
   ·rw[aE (fun z=>by rw[z,h0] at h;cases h)]
    exact st.ext.i9 b o h n f
 | v i=>
  obtain⟨hv,u,hu⟩:=r
  unfold fz at e
  simp only[hu] at e
  cases u with
  | t d'=>
   cases e
   obtain⟨w,h1,h2⟩:=R.rep i _ hu
   rw[hv] at h1
   cases h1
   exact⟨F,R,st,h2⟩
  | b o=>cases e
  | v j=>cases e
  | s j=>cases e
  | f j=>cases e
  | x cx kx=>cases e
  | m o=>
   cases o with
   | dct kvs=>cases e
   | Ab kvs=>cases e
   | ins C kvs=>cases e
   | lst ds=>
    cases e
    obtain⟨w,h1,a,rfl,hf,⟨vs,ha,rs⟩⟩:=R.rep i _ hu
    have hiv:σ[i]? =some (some (.ref a)):=h1
    rw[hv] at h1
    cases h1
    have hB:=R.own i _ a hu hiv
    have g:=iJ (o:=.lst vs) hf
    have back:∀j w,(S.set i (XU (.lst ds)))[j]? =some (some w)->eu w=true->i≠j/\S[j]? =some (some w):=fun j w h hm=>by
     rcases get_set h with⟨_,q,_⟩ | q
     ·cases q;cases hm
     ·exact q
    have mu:∀c,cY (S.set i (XU (.lst ds))) σ c->cY S σ c:=fun c ⟨j,w,h,hm,z⟩=>⟨j,w,(back j w h hm).2,hm,z⟩
    refine⟨upd F a (.lst vs),⟨R.sub.iN ha,by rw[Y0];exact R.len,fun j u h=>?_,fun j k u w c h1 m1 h2 m2=>R.Az j k u w c (back j u h1 m1).2 m1 (back k w h2 m2).2 m2,fun j o c h=>R.own j o c (back j _ h rfl).2,fun j o c h=>R.bor j o c (back j _ h rfl).2,fun j c h=>?_,?_⟩,
     ⟨⟨fun b o h=>g b o (st.ext.le b o h),st.ext.keep,fun b o h n f=>?_,st.ext.there,st.ext.iN⟩,fun c q=>st.mu c (mu c q),fun j u h=>?_⟩,.lst (.inl aH) (rs.le g)⟩
    ·rcases get_set h with⟨rfl,q,_⟩ | ⟨ne,q⟩
     ·cases q
      exact⟨.ref a,hiv,.lst (.inl aH) (rs.le g)⟩
     ·obtain⟨w,h1,h2⟩:=R.rep j u q
      refine⟨w,h1,h2.le g (fun _ _ _ z=>z) fun c hm hc=>⟨fun o q=>q,?_⟩⟩
      have hca:c≠a:=fun z=>ne (R.Az i j _ u a hu rfl q hm hiv (by rw[h1,hc,z]))
      rw[aE hca]
      cases u with
      | m o=>obtain⟨c',e',f',_⟩:=h2;rw[hc] at e';cases e';exact f'
      | b o=>obtain⟨c',e',f',_⟩:=h2;rw[hc] at e';cases e';exact f'
      | t d=>cases hm
      | v j=>cases hm
      | s j=>cases hm
      | f j=>cases hm
      | x cx kx=>cases hm
    ·obtain⟨h1,o,h2⟩:=R.par j c h
     refine⟨h1,o,?_⟩
     have ne:i≠j:=fun z=>by subst z;rw[hu] at h2;cases h2
     rw[Yl ne]
     exact h2
    ·exact⟨fun b o h=>g b o (R.ext.le b o h),R.ext.keep,fun b o h n f=>by rw[aE (fun z=>by rw[z,hB] at h;cases h)];exact R.ext.i9 b o h n f,R.ext.there,R.ext.iN⟩
    ·have hb:b≠a:=fun z=>n (st.mu b ⟨i,_,hu,rfl,by rw[z];exact hiv⟩)
     rw[aE hb]
     exact st.ext.i9 b o h n f
    ·obtain⟨u',h'⟩:=st.slots j u h
     by_cases hj:i=j
     ·subst hj
      exact⟨.t (.lst ds),Yw (Ye.mp h').1⟩
     ·exact⟨u',by rw[Yl hj];exact h'⟩
def eF (g:GE):GD:=fun S=>(g S).bind fun p=>fz p.1 p.2
def JE.d {X:Cx}{e:Expr}{g:GE}(h:JE X e g):JD X e (eF g):=⟨fun B=>(h.h B).imp fun σ H Q hh=>by
 obtain⟨S,F,d,S',R,hg,q⟩:=hh
 unfold eF at hg
 cases e1:g S with
 | none=>rw[e1] at hg;cases hg
 | some p=>
  obtain⟨u,S1⟩:=p
  rw[e1] at hg
  refine⟨S,F,u,S1,R,e1,fun v F1 H1 R1 st1 r1=>?_⟩
  obtain⟨F2,R2,st2,r2⟩:=E2 R1 st1 r1 hg
  exact q v F2 H1 R2 st2 r2⟩
noncomputable def eT (g:GD):GE:=fun S=>(g S).map fun p=>(.t p.1,p.2)
def JD.e {X:Cx}{e:Expr}{g:GD}(h:JD X e g):JE X e (eT g):=⟨fun B=>(h.h B).imp fun σ H Q hh=>by
 obtain⟨S,F,u,S',R,hg,q⟩:=hh
 unfold eT at hg
 cases e1:g S with
 | none=>rw[e1] at hg;cases hg
 | some p=>
  obtain⟨d,S1⟩:=p
  rw[e1] at hg
  cases hg
  exact⟨S,F,d,S1,R,e1,fun v F1 H1 R1 st1 r1=>q v F1 H1 R1 st1 r1⟩⟩
structure fH (F H F' H':Hp):Prop where
 le:∀b o,F b=some o->F' b=some o
 same:∀b o,H b=some o->H' b=some o
 i9:∀b o,H b=some o->F b=none->F' b=none
def fH.refl (F H:Hp):fH F H F H:=⟨fun _ _ h=>h,fun _ _ h=>h,fun _ _ _ h=>h⟩
def fH.step {F:Hp}(n:fH F H F' H'):Step S S σ F H F' H':=
 ⟨⟨n.le,fun b o h _=>n.same b o h,fun b o h _ f=>n.i9 b o h f,fun b o h=>⟨o,n.same b o h⟩,fun b o u h=>n.same b _ h⟩,fun _ h=>h,fun _ u h=>⟨u,h⟩⟩
def fH.obj {F:Hp}(h:H p=none) (o:HO):fH F H F (upd H p o):=
 ⟨fun _ _ q=>q,fun b u q=>by rw[aE (bR q h)];exact q,fun _ _ _ q=>q⟩
theorem Rd.same {u:HO}(k:∀b o,H b=some o->H' b=some o):Rd H a u->Rd H' a u
 | .inl h=>.inl (k _ _ h)
 | .inr ⟨o,h⟩=>.inr ⟨o,k _ _ h⟩
def Sub.same {F:Hp}(s:Sub F H) (k:∀b o,H b=some o->H' b=some o):Sub F H':=fun a o e=>k a o (s a o e)
def Sub.pZ {F:Hp}(s:Sub F H) (h:H p=none):Sub (upd F p o) (upd H p o):=fun b u e=>by
 by_cases hb:b=p
 ·subst hb;rw[aH] at e;cases e;exact aH
 ·rw[aE hb] at e;have q:=s b u e;rw[aE (bR q h)];exact q
def fH.root {F:Hp}(s:Sub F H) (h:H p=none) (o:HO):fH F H (upd F p o) (upd H p o):=
 ⟨iJ (s.fresh h),fun b u q=>by rw[aE (bR q h)];exact q,fun b u q f=>by rw[aE (bR q h)];exact f⟩
def Rel.has {K:AAA}{B:Base}{S:SS}{σ:St}{F H:Hp}(R:Rel K B S σ F H){a:Addr}(m:cY S σ a):∃o,H a=some o:=by
 obtain⟨i,u,h,hm,hv⟩:=m
 obtain⟨v,h1,h2⟩:=R.rep i u h
 rw[hv] at h1
 cases h1
 cases u with
 | t d=>cases hm
 | v j=>cases hm
 | s j=>cases hm
 | f j=>cases hm
 | x cx kx=>cases hm
 | m o=>obtain⟨b,e,_,h⟩:=h2;cases e;exact h.has
 | b o=>obtain⟨b,e,_,h⟩:=h2;cases e;exact h.has
def Rel.new {F:Hp}(R:Rel K B S σ F H) (n:fH F H F' H') (s:Sub F' H'):Rel K B S σ F' H' where
 sub:=s
 len:=R.len
 rep:=fun i u h=>by
  obtain⟨v,h1,h2⟩:=R.rep i u h
  refine⟨v,h1,h2.le n.le (fun b o u z=>n.same b _ z) fun a hm ha=>⟨fun o q=>n.same a o q,?_⟩⟩
  obtain⟨o,ho⟩:=R.has ⟨i,u,h,hm,by rw[h1,ha]⟩
  refine n.i9 a o ho ?_
  cases u with
  | t d=>cases hm
  | v j=>cases hm
  | s j=>cases hm
  | f j=>cases hm
  | x cx kx=>cases hm
  | m o=>obtain⟨b,e,f,_⟩:=h2;rw[ha] at e;cases e;exact f
  | b o=>obtain⟨b,e,f,_⟩:=h2;rw[ha] at e;cases e;exact f
 Az:=R.Az
 own:=R.own
 bor:=R.bor
 par:=R.par
 ext:=⟨fun b o h=>n.le b o (R.ext.le b o h),fun b o h m=>n.same b o (R.ext.keep b o h m),fun b o h m f=>n.i9 b o (R.ext.keep b o h m) (R.ext.i9 b o h m f),fun b o h=>let⟨o',h'⟩:=R.ext.there b o h;⟨o',n.same b o' h'⟩,fun b o u h=>n.same b _ (R.ext.iN b o u h)⟩
def C9 (H0 F H:Hp) (v:V):U->Prop
 | .t d=>Rep F v d
 | .m o=>∃a,v= .ref a/\H0 a=none/\F a=none/\At F H a o
 | _=>False
def none_of (t:∀b o,H b=some o->∃o',H' b=some o') (h:H' a=none):H a=none:=by
 cases e:H a with
 | none=>rfl
 | some o=>obtain⟨o',h'⟩:=t a o e;rw[h] at h';cases h'
def C9.Dc {F:Hp}{v:V}(R:Rel K B S σ F1 H1) (st:Step S0 S σ F0 H0 F1 H1) (r:C9 H1 F H v u):iI K B S σ H0 F H v u:=by
 cases u with
 | t d=>exact r
 | b o=>cases r
 | v i=>cases r
 | s i=>cases r
 | f i=>cases r
 | x cx kx=>cases r
 | m o=>
  obtain⟨a,e,h0,f,h⟩:=r
  refine⟨a,e,none_of st.ext.there h0,f,h,fun m=>?_,none_of R.ext.there h0⟩
  obtain⟨o,ho⟩:=R.has m
  rw[h0] at ho
  cases ho
inductive rP (f:List D->Option U) (xs:List V) (H:Hp) (Q:VK):Prop
 | mk (F:Hp) (ds:List D) (u:U) (s:Sub F H) (r:bz F xs ds) (hf:f ds=some u) (q:∀v F' H',fH F H F' H'->Sub F' H'->C9 H F' H' v u->Q v H')
noncomputable def k8:D->Bool
 | .tup _=>false
 | .lst _=>false
 | _=>true
noncomputable def toV:D->V
 | .bl b=>.bl b
 | .int i=>.int i
 | .str z=>.str z
 | _=>.cz
theorem yF {F:Hp}:∀{d:D},k8 d=true->Rep F (toV d) d
 | .cz,_=>.cz
 | .bl b,_=>.bl b
 | .int i,_=>.int i
 | .str z,_=>.str z
 | .tup _,h=>by cases h
 | .lst _,h=>by cases h
noncomputable def aj (i:Nat):GE:=fun S=>match S[i]? with
 | some (some (.t d))=>some (.t d,S)
 | some (some (.s d))=>some (.s d,S) | some (some (.f d))=>some (.f d,S) | some (some (.x C k))=>some (.x C k,S)
 | some (some _)=>some (.v i,S)
 | _=>none
noncomputable def eC (d:D):GD:=fun S=>some (d,S)
noncomputable def ak:GA:=fun S=>some ([],S)
noncomputable def aa (g:GD) (ga:GA):GA:=fun S=>(g S).bind fun p=>(ga p.2).map fun q=>(p.1 :: q.1,q.2)
noncomputable def eP (f:List D->Option U) (ga:GA):GE:=fun S=>(ga S).bind fun p=>(f p.1).map fun u=>(u,p.2)
section
variable {X:Cx}{a b c e:Expr}{es:List Expr}{pos p p2:Pos}{x:Str}{g ga gb gc:GD}{gA:GA}{f f':List D->Option U}
def bK (i:Nat) (hN:X.N[i]? =some x:=by rfl) (hv:wu X.env.scope x:=by first | exact Or.inl rfl | exact Or.inr (Or.inl rfl) | exact Or.inr (Or.inr rfl)) (hd:(x == ("__debug__":Str))=false:=by decide)
  (hcd:(x == ("__classdict__":Str))=false:=by decide):JE X (.Name x pos) (aj i):=⟨fun B=>(fG hN hv hd hcd).imp fun σ H Q hh=>by
 obtain⟨S,F,u,S',R,hg,q⟩:=hh
 unfold aj at hg
 cases hs:S[i]? with
 | none=>rw[hs] at hg;cases hg
 | some o=>
  cases o with
  | none=>rw[hs] at hg;cases hg
  | some w=>
   rw[hs] at hg
   obtain⟨v,h1,h2⟩:=R.rep i w hs
   refine⟨v,h1,?_⟩
   cases w with
   | t d=>cases hg;exact q v F H R (Step.refl ..) h2
   | m o=>cases hg;exact q v F H R (Step.refl ..) ⟨h1,_,hs⟩
   | b o=>cases hg;exact q v F H R (Step.refl ..) ⟨h1,_,hs⟩
   | s j=>cases hg;exact q v F H R (Step.refl ..) h2
   | f j=>cases hg;exact q v F H R (Step.refl ..) h2
   | x cx kx=>cases hg;exact q v F H R (Step.refl ..) h2
   | v j=>cases hg;exact q v F H R (Step.refl ..) ⟨h1,_,hs⟩⟩
def Dd {d:D}(hf:k8 d=true) (h:PE X e (tC (toV d))):JD X e (eC d):=⟨fun B=>h.imp fun σ H Q hh=>by
 obtain⟨S,F,u,S',R,hg,q⟩:=hh
 cases hg
 exact q _ F H R (Step.refl ..) (yF hf)⟩
def aA {i j}:JD X (.Constant (.int i) j pos) (eC (.int i)):=Dd rfl K3
def oR {i j}:JD X (.Constant (.bool i) j pos) (eC (.bl i)):=Dd rfl Ob
def fR {j}:JD X (.Constant .none j pos) (eC .cz):=Dd rfl K4
def aP {i j}:JD X (.Constant (.str i) j pos) (eC (.str i)):=Dd rfl Eh
def aZ:JA X [] ak:=⟨fun B=>nN.imp fun σ H Q hh=>by
 obtain⟨S,F,u,S',R,hg,q⟩:=hh
 cases hg
 exact q [] F H R (Step.refl ..) .nil⟩
def ah {α β:Type}{o:Option α}{f:α->Option β}{y:β}(h:o.bind f=some y):∃z,o=some z/\f z=some y:=by
 cases o with
 | none=>cases h
 | some z=>exact⟨z,rfl,h⟩
def ao {α β:Type}{o:Option α}{f:α->β}{y:β}(h:o.map f=some y):∃z,o=some z/\f z=y:=by
 cases o with
 | none=>cases h
 | some z=>exact⟨z,rfl,Yn h⟩
def aq (h:JD X e g) (hr:JA X es gA) (hs:starEach (e :: es) X.env=(false,eval e X.env) :: starEach es X.env:=by rfl):JA X (e :: es) (aa g gA):=
 ⟨fun B=>(gm (h.h B) (hr.h B) hs).imp fun σ H Q hh=>by
 obtain⟨S,F,u,S',R,hg,q⟩:=hh
 obtain⟨⟨d,S1⟩,h1,hg⟩:=ah hg
 obtain⟨⟨ds,S2⟩,h2,hg⟩:=ao hg
 cases hg
 exact⟨S,F,d,S1,R,h1,fun v F1 H1 R1 st1 r1=>⟨S1,F1,ds,S2,R1,h2,fun vs F2 H2 R2 st2 r2=>q _ F2 H2 R2 (st1.trans st2) (.cons (r1.le st2.ext.le) r2)⟩⟩⟩
def kF {Q:VK}{r:List V->Hp->VK->Prop}(hr:∀vs H1 Q1,rP f vs H1 Q1->r vs H1 Q1) (h:tE K B (eP f gA) σ H Q):Vr K B gA σ H fun vs H1=>r vs H1 Q:=by
 obtain⟨S,F,u,S',R,hg,q⟩:=h
 obtain⟨⟨ds,S1⟩,h1,hg⟩:=ah hg
 obtain⟨u',h2,hg⟩:=ao hg
 cases hg
 exact⟨S,F,ds,S1,R,h1,fun vs F1 H1 R1 st1 r1=>hr _ _ _ ⟨F1,ds,_,R1.sub,r1,h2,fun v F2 H2 n s2 r2=>q v F2 H2 (R1.new n s2) (st1.trans n.step) (r2.Dc R1 st1)⟩⟩
def lK {id:String}(hc:dU X (.builtin id) (rP f)) (hg:Gl X x) (hm:X.mg x=none) (hv:bootBuiltins x=some (.builtin id)) (ha:JA X (e :: es) gA) (hn:x≠"__name__":=by decide) (hdb:(x == ("__debug__":Str))=false:=by decide)
  (he:starEach (e :: es) X.env=(false,eval e X.env) :: starEach es X.env:=by rfl) (hpl:(backTo pos (starEach es X.env)).any (·.1)=false:=by rfl):JE X (.Call (.Name x p) (e :: es) [] pos) (eP f gA):=
 ⟨fun B=>(iw hc hg hm hv (ha.h B) hn hdb he hpl).imp fun σ H Q h=>kF (fun _ _ _ z=>z) h⟩
def p7 (hc:dU X (.type T) (rP f)) (hg:Gl X x) (hm:X.mg x=none) (hv:bootBuiltins x=some (.type T)) (ha:JA X (e :: es) gA) (hn:x≠"__name__":=by decide) (hdb:(x == ("__debug__":Str))=false:=by decide)
  (he:starEach (e :: es) X.env=(false,eval e X.env) :: starEach es X.env:=by rfl) (hpl:(backTo pos (starEach es X.env)).any (·.1)=false:=by rfl):JE X (.Call (.Name x p) (e :: es) [] pos) (eP f gA):=
 ⟨fun B=>(CU hc hg hm hv (ha.h B) hn hdb he hpl).imp fun σ H Q h=>kF (fun _ _ _ z=>z) h⟩
abbrev uC (X:Cx) (o:Value->Value->Sem Value) (f:List D->Option U):Prop:=qL X o (fun x y H Q=>rP f [x,y] H Q)
def oU {Q:VK}(h:tE K B (eP f (aa ga (aa gb ak))) σ H Q):Kr (fun x y H Q=>rP f [x,y] H Q) (tD K B ga) (tD K B gb) σ H Q:=by
 obtain⟨S,F,u,S',R,hg,q⟩:=h
 obtain⟨⟨ds,S1⟩,h1,hg⟩:=ah hg
 obtain⟨u',h2,hg⟩:=ao hg
 cases hg
 obtain⟨⟨d1,T1⟩,k1,h1⟩:=ah h1
 obtain⟨⟨Wr,T2⟩,k2,h1⟩:=ao h1
 cases h1
 obtain⟨⟨d2,T3⟩,k3,k2⟩:=ah k2
 obtain⟨⟨Xy,T4⟩,k4,k2⟩:=ao k2
 cases k2
 cases k4
 exact⟨S,F,d1,T1,R,k1,fun v1 F1 H1 R1 st1 r1=>⟨T1,F1,d2,_,R1,k3,fun v2 F2 H2 R2 st2 r2=>⟨F2,_,_,R2.sub,.cons (r1.le st2.ext.le) (.cons r2 .nil),h2,fun v F3 H3 n s3 r3=>q v F3 H3 (R2.new n s3) ((st1.trans st2).trans n.step) (r3.Dc R2 (st1.trans st2))⟩⟩⟩
def bH {op:Operator}(ho:uC X (binaryOp op) f) (ha:JD X a ga) (hb:JD X b gb):JE X (.BinOp a op b pos) (eP f (aa ga (aa gb ak))):=
 ⟨fun B=>(Om ho (ha.h B) (hb.h B)).imp fun σ H Q h=>oU h⟩
def nP (ho:uC X (compareOp op) f) (ha:JD X a ga) (hb:JD X b gb) (hm:behindInMarks op b=false:=by first | exact Ah _ | rfl):JE X (.Compare a [op] [b] pos) (eP f (aa ga (aa gb ak))):=
 ⟨fun B=>(HW ho (ha.h B) (hb.h B) hm).imp fun σ H Q h=>oU h⟩
def vn {op:UnaryOp}(ho:Ol X (unaryOp op) (fun x H Q=>rP f [x] H Q)) (ha:JD X a ga):JE X (.UnaryOp op a pos) (eP f (aa ga ak)):=
 ⟨fun B=>(Oo ho (ha.h B)).imp fun σ H Q h=>by
 obtain⟨S,F,u,S',R,hg,q⟩:=h
 obtain⟨⟨ds,S1⟩,h1,hg⟩:=ah hg
 obtain⟨u',h2,hg⟩:=ao hg
 cases hg
 obtain⟨⟨d1,T1⟩,k1,h1⟩:=ah h1
 obtain⟨⟨Wr,T2⟩,k2,h1⟩:=ao h1
 cases h1
 cases k2
 exact⟨S,F,d1,_,R,k1,fun v1 F1 H1 R1 st1 r1=>⟨F1,_,_,R1.sub,.cons r1 .nil,h2,fun v F3 H3 n s3 r3=>q v F3 H3 (R1.new n s3) (st1.trans n.step) (r3.Dc R1 st1)⟩⟩⟩
def yG (hr:EI X (fun x y H Q=>rP f [x,y] H Q)) (ha:JD X a ga) (hb:JD X b gb) (hs:rH b):JE X (.Subscript a b pos) (eP f (aa ga (aa gb ak))):=
 ⟨fun B=>(EJ hr (ha.h B) (hb.h B) hs).imp fun σ H Q h=>oU h⟩
noncomputable def oV:List D->Option U:=fun ds=>if ds.length<=100000 then XU (.tup ds) else none
noncomputable def gn:List D->Option U:=fun ds=>if ds.length<=100000 then XW ds else none
def iT (h:n<=100000):n<=sizeLine:=Yc h (by decide)
end
section
variable {X:Cx}{a b c e:Expr}{es:List Expr}{pos p p2:Pos}{x:Str}{g ga gb gc:GD}{gA:GA}{f f':List D->Option U}
def jN {x1}(h:JA X es gA):JE X (.Tuple es x1 pos) (eP oV gA):=
 ⟨fun B=>(Ez (h.h B)).imp fun σ H Q z=>kF (r:=fun xs H1 Q=>xs.length<=sizeLine/\∀p,H1 p=none->Q (.ref p) (upd H1 p (.tup xs))) (fun vs H1 Q1 hh=>by
 obtain⟨F,ds,u,sb,rs,hf,q⟩:=hh
 unfold oV at hf
 split at hf
 ·rename_i hl
  cases hf
  refine⟨by rw[rs.length];exact iT hl,fun p hp=>?_⟩
  exact q _ _ _ (fH.root sb hp _) (sb.pZ hp) (.tup aH (rs.le (iJ (sb.fresh hp))))
 ·cases hf) z⟩
def ez (h:JA X es gA):JE X (.List es pos) (eP gn gA):=
 ⟨fun B=>(Lq (h.h B)).imp fun σ H Q z=>kF (r:=fun xs H1 Q=>xs.length<=sizeLine/\∀p,H1 p=none->Q (.ref p) (upd H1 p (.lst xs))) (fun vs H1 Q1 hh=>by
 obtain⟨F,ds,u,sb,rs,hf,q⟩:=hh
 unfold gn at hf
 split at hf
 ·rename_i hl
  cases hf
  refine⟨by rw[rs.length];exact iT hl,fun p hp=>?_⟩
  exact q _ F _ (fH.obj hp _) (sb.same (fH.obj (F:=F) hp _).same) ⟨p,rfl,hp,sb.fresh hp,vs,aH,rs⟩
 ·cases hf) z⟩
noncomputable def qB (g:GD):GT:=fun S=>(g S).bind fun p=>match p.1 with
 | .bl k=>some (k,p.2)
 | _=>none
noncomputable def nQ (g:GT):GT:=fun S=>(g S).map fun p=>(!p.1,p.2)
noncomputable def uJ (g h:GT):GT:=fun S=>(g S).bind fun p=>if p.1 then h p.2 else some (false,p.2)
noncomputable def nR (g h:GT):GT:=fun S=>(g S).bind fun p=>if p.1 then some (true,p.2) else h p.2
noncomputable def eQ (g:GT):GD:=fun S=>(g S).map fun p=>(.bl p.1,p.2)
def jE (h:qB g S=some (k,S')):g S=some (.bl k,S'):=by
 obtain⟨⟨d,S1⟩,h1,h⟩:=ah h
 cases d <;> cases h
 exact h1
def jO {F:Hp}{v:V}(r:Rep F v (.bl k)):v= .bl k:=by cases r;rfl
def fj {F:Hp}{v:V}{i:Int}(r:Rep F v (.int i)):v= .int i:=by cases r;rfl
def BW {F:Hp}{v:V}{i:Str}(r:Rep F v (.str i)):v= .str i:=by cases r;rfl
def gq (h:JD X e g) (he:∀whole,isTrue e X.env whole=(do let v <-whole;standAt e.pos;holding [v] (truthy v)):=by intro _;rfl):JT X e (qB g):=
 ⟨fun B=>(K6 (h.h B) he).imp fun σ H Q ⟨S,F,k,S',R,hg,q⟩=>⟨S,F,.bl k,S',R,jE hg,fun v F' H' R' st r=>⟨k,jO r,q F' H' R' st⟩⟩⟩
def OX {gE:GE}{Q:VK}(h:tD K B (eF gE) σ H Q):tE K B gE σ H Q:=by
 obtain⟨S,F,d,S',R,hg,q⟩:=h
 obtain⟨⟨u,S1⟩,h1,hg⟩:=ah hg
 refine⟨S,F,u,S1,R,h1,fun v F1 H1 R1 st1 r1=>?_⟩
 obtain⟨F2,R2,st2,r2⟩:=E2 R1 st1 r1 hg
 exact q v F2 H1 R2 st2 r2
def br (ho:uC X (compareOp op) f) (ha:JD X a ga) (hb:JD X b gb) (hm:behindInMarks op b=false:=by first | exact Ah _ | rfl):JT X (.Compare a [op] [b] pos) (qB (eF (eP f (aa ga (aa gb ak))))):=
 ⟨fun B=>(wJ ho (ha.h B) (hb.h B) hm).imp fun σ H Q ⟨S,F,k,S',R,hg,q⟩=>oU (OX ⟨S,F,.bl k,S',R,jE hg,fun v F' H' R' st r=>⟨k,jO r,q F' H' R' st⟩⟩)⟩
def iK (h:JT X a q1):JT X (.UnaryOp .Not a pos) (nQ q1):=
 ⟨fun B=>(K7 (h.h B)).imp fun σ H Q hh=>by
 obtain⟨S,F,k,S',R,hg,q⟩:=hh
 obtain⟨⟨d,S1⟩,h1,hg⟩:=ao hg
 cases hg
 exact⟨S,F,d,_,R,h1,fun F' H' R' st=>q F' H' R' st⟩⟩
def AA (h:JT X a q1):JW X (.BoolOp .And [a] pos) q1:=⟨fun B=>pw_and1 (h.h B)⟩
def cF (h:JT X a q1):JW X (.BoolOp .Or [a] pos) q1:=⟨fun B=>pw_or1 (h.h B)⟩
def LF (h:JT X a q1) (hr:JW X (.BoolOp .And (b :: r) pos) q2):JW X (.BoolOp .And (a :: b :: r) pos) (uJ q1 q2):=
 ⟨fun B=>(pw_and (h.h B) (hr.h B)).imp fun σ H Q hh=>by
 obtain⟨S,F,k,S',R,hg,q⟩:=hh
 obtain⟨⟨d,S1⟩,h1,hg⟩:=ah hg
 refine⟨S,F,d,S1,R,h1,fun F1 H1 R1 st1=>?_⟩
 cases d with
 | true=>exact wR ⟨S1,F1,k,S',R1,hg,fun F2 H2 R2 st2=>q F2 H2 R2 (st1.trans st2)⟩
 | false=>cases hg;exact wQ (q F1 H1 R1 st1)⟩
def dF (h:JT X a q1) (hr:JW X (.BoolOp .Or (b :: r) pos) q2):JW X (.BoolOp .Or (a :: b :: r) pos) (nR q1 q2):=
 ⟨fun B=>(pw_or (h.h B) (hr.h B)).imp fun σ H Q hh=>by
 obtain⟨S,F,k,S',R,hg,q⟩:=hh
 obtain⟨⟨d,S1⟩,h1,hg⟩:=ah hg
 refine⟨S,F,d,S1,R,h1,fun F1 H1 R1 st1=>?_⟩
 cases d with
 | false=>exact wQ ⟨S1,F1,k,S',R1,hg,fun F2 H2 R2 st2=>q F2 H2 R2 (st1.trans st2)⟩
 | true=>cases hg;exact wR (q F1 H1 R1 st1)⟩
def JW.t (h:JW X e q1):JT X e q1:=⟨fun B=>(h.h B).pt⟩
def AB {op}(h:JD X a g):JD X (.BoolOp op [a] pos) (eQ (qB g)):=⟨fun B=>(K8 (h.h B)).imp fun σ H Q hh=>by
 obtain⟨S,F,k,S',R,hg,q⟩:=hh
 obtain⟨⟨d,S1⟩,h1,hg⟩:=ao hg
 cases hg
 exact⟨S,F,.bl d,_,R,jE h1,q⟩⟩
def wV (h:JD X a g) (hr:JD X (.BoolOp .And (b :: r) pos) (eQ q2)):JD X (.BoolOp .And (a :: b :: r) pos) (eQ (uJ (qB g) q2)):=
 ⟨fun B=>(K9 (h.h B) (hr.h B)).imp fun σ H Q hh=>by
 obtain⟨S,F,k,S',R,hg,q⟩:=hh
 obtain⟨⟨d,S1⟩,h1,hg⟩:=ao hg
 cases hg
 obtain⟨⟨d1,S2⟩,h1,h2⟩:=ah h1
 refine⟨S,F,.bl d1,S2,R,jE h1,fun v F1 H1 R1 st1 r1=>⟨d1,jO r1,?_⟩⟩
 cases d1 with
 | true=>
  have h2:q2 S2=some (d,S1):=h2
  exact wR ⟨S2,F1,.bl d,S1,R1,by show(q2 S2).map _=_;rw[h2];rfl,fun v F2 H2 R2 st2 r2=>q v F2 H2 R2 (st1.trans st2) r2⟩
 | false=>cases h2;exact wQ (q _ F1 H1 R1 st1 (.bl false))⟩
noncomputable def Ny (q:GT) (g h:GE):GE:=fun S=>(q S).bind fun p=>if p.1 then g p.2 else h p.2
theorem iI.weak {F:Hp}{v:V}(t:∀b o,H0 b=some o->∃o',H1 b=some o'):∀{u:U},iI K B S σ H1 F H v u->iI K B S σ H0 F H v u
 | .t _,h=>h
 | .s _,h=>h
 | .f _,h=>h
 | .x _ _,h=>h
 | .m _,⟨a,e,h0,h⟩=>⟨a,e,none_of t h0,h⟩
 | .v _,h=>h
 | .b _,h=>h
def BX {g1 g2:GE}(hc:JT X c q1) (ha:JE X a g1) (hb:JE X b g2):JE X (.IfExp c a b pos) (Ny q1 g1 g2):=
 ⟨fun B=>(El (hc.h B) (ha.h B) (hb.h B)).imp fun σ H Q hh=>by
 obtain⟨S,F,u,S',R,hg,q⟩:=hh
 obtain⟨⟨d,S1⟩,h1,hg⟩:=ah hg
 refine⟨S,F,d,S1,R,h1,fun F1 H1 R1 st1=>?_⟩
 cases d with
 | true=>exact wR ⟨S1,F1,u,S',R1,hg,fun v F2 H2 R2 st2 r2=>q v F2 H2 R2 (st1.trans st2) (r2.weak st1.ext.there)⟩
 | false=>exact wQ ⟨S1,F1,u,S',R1,hg,fun v F2 H2 R2 st2 r2=>q v F2 H2 R2 (st1.trans st2) (r2.weak st1.ext.there)⟩⟩
noncomputable def QL (f f':List D->Option U) (ga gb gc:GD):GD:=fun S=>(ga S).bind fun p=>(gb p.2).bind fun q=>match f [p.1,q.1] with
 | some (.t (.bl k))=>if k then(gc q.2).bind fun r=>match f' [q.1,r.1] with
   | some (.t (.bl k'))=>some (.bl k',r.2)
   | _=>none
  else some (.bl false,q.2)
 | _=>none
def OY {Q:VK}(h:tD K B (QL f f' ga gb gc) σ H Q):Ex (fun x y H Q=>rP f [x,y] H Q) (fun x y H Q=>rP f' [x,y] H Q) (tD K B ga) (tD K B gb) (tD K B gc) σ H Q:=by
 obtain⟨S,F,d,S',R,hg,q⟩:=h
 obtain⟨⟨d1,S1⟩,h1,hg⟩:=ah hg
 obtain⟨⟨d2,S2⟩,h2,hg⟩:=ah hg
 refine⟨S,F,d1,S1,R,h1,fun v1 F1 H1 R1 st1 r1=>⟨S1,F1,d2,S2,R1,h2,fun v2 F2 H2 R2 st2 r2=>?_⟩⟩
 dsimp only at hg
 split at hg
 ·rename_i k hk
  refine⟨F2,_,_,R2.sub,.cons (r1.le st2.ext.le) (.cons r2 .nil),hk,fun v F3 H3 n s3 r3=>⟨k,jO r3,?_⟩⟩
  have R3:=R2.new n s3
  have st3:Step S S2 σ F H F3 H3:=(st1.trans st2).trans n.step
  cases k with
  | false=>cases hg;exact wQ (q _ F3 H3 R3 st3 (.bl false))
  | true=>
   obtain⟨⟨d3,S3⟩,h3,hg⟩:=ah hg
   refine wR ⟨S2,F3,d3,S3,R3,h3,fun v3 F4 H4 R4 OS r4=>?_⟩
   dsimp only at hg
   split at hg
   ·rename_i k' hk'
    cases hg
    exact⟨F4,_,_,R4.sub,.cons (r2.le fun b o z=>OS.ext.le b o (n.le b o z)) (.cons r4 .nil),hk',fun v F5 H5 n5 s5 r5=>q v F5 H5 (R4.new n5 s5) ((st3.trans OS).trans n5.step) r5⟩
   ·cases hg
 ·cases hg
def E3 {op':CmpOp}(ho:uC X (compareOp op) f) (ho':uC X (compareOp op') f') (ha:JD X a ga) (hb:JD X b gb) (hc:JD X c gc) (hm:lastMarks [op,op'] [b,c]=false:=by with_unfolding_all rfl):
  JT X (.Compare a [op,op'] [b,c] pos) (qB (QL f f' ga gb gc)):=⟨fun B=>(Ey ho ho' (ha.h B) (hb.h B) (hc.h B) hm).imp fun σ H Q ⟨S,F,k,S',R,hg,q⟩=>OY ⟨S,F,.bl k,S',R,jE hg,fun v F' H' R' st r=>⟨k,jO r,q F' H' R' st⟩⟩⟩
end
def bh {α:Type}{c:Prop}{i:Decidable c}{x w:α}(h:(@ite _ c i (some x) none)=some w):c/\x=w:=by
 by_cases hc:c
 ·rw[if_pos hc] at h;exact⟨hc,Yn h⟩
 ·rw[if_neg hc] at h;cases h
def vo {α:Type}{c:Prop}{i:Decidable c}{x:Option α}{w:α}(h:(@ite _ c i x none)=some w):c/\x=some w:=by
 by_cases hc:c
 ·rw[if_pos hc] at h;exact⟨hc,h⟩
 ·rw[if_neg hc] at h;cases h
def E4 {F:Hp}(r:bz F [x] ds):∃d,ds=[d]/\Rep F x d:=by
 cases r with
 | cons r rs=>cases rs;exact⟨_,rfl,r⟩
def qO {F:Hp}(r:bz F [x,y] ds):∃d e,ds=[d,e]/\Rep F x d/\Rep F y e:=by
 cases r with
 | cons r rs=>obtain⟨e,rfl,r2⟩:=E4 rs;exact⟨_,e,rfl,r,r2⟩
noncomputable def D8 (C:Int->Int->Bool) (h:Int->Int->D):List D->Option U
 | [.int i,.int j]=>if C i j then some (.t (h i j)) else none
 | _=>none
section
variable {X:Cx}
def oW {o:Value->Value->Sem Value}{C:Int->Int->Bool}{h:Int->Int->D}{r:R2}(hr:qL X o r) (k:∀i j H Q,C i j=true->Q (toV (h i j)) H->r (.int i) (.int j) H Q) (hf:∀i j,k8 (h i j)=true):uC X o (D8 C h):=by
 intro pins s σ H x y v u Q I rx ry ⟨F,ds,w,sb,rs,hw,q⟩
 obtain⟨d,e,rfl,r1,r2⟩:=qO rs
 cases r1 <;> cases r2 <;> try (simp[D8] at hw;done)
 rename_i i j
 obtain⟨hc,rfl⟩:=bh hw
 exact hr pins s σ H _ _ v u Q I rx ry (k i j H Q hc (q _ F H (fH.refl ..) sb (yF (hf i j))))
abbrev AD:=D8 (fun _ _=>true) fun i j=>.int (i - j)
abbrev KH:=D8 (fun _ _=>true) fun i j=>.bl (decide (i < j))
abbrev LG:=D8 (fun _ _=>true) fun i j=>.bl (decide (i<=j))
abbrev HC:=D8 (fun _ _=>true) fun i j=>.bl (decide (j < i))
abbrev LH:=D8 (fun _ _=>true) fun i j=>.bl (decide (j<=i))
abbrev IA:=D8 (fun _ j=>decide (0 < j) && decide (j < 1073741824)) fun i j=>.int (i / j)
abbrev AE:=D8 (fun _ j=>decide (0 < j)) fun i j=>.int (i % j)
abbrev OZ:=D8 (fun i j=>decide (0<=j) && (decide (j<=1000) && decide (i.natAbs < 2 ^ 64))) fun i j=>.int (i ^ j.toNat)
def oX:uC X (binaryOp .Sub) AD:=oW Lj (fun i j H Q _ q=>⟨i,j,rfl,rfl,q⟩) fun _ _=>rfl
def p9:uC X (compareOp .Lt) KH:=oW Ou (fun i j H Q _ q=>⟨i,j,rfl,rfl,q⟩) fun _ _=>rfl
def qb:uC X (compareOp .LtE) LG:=oW Ov (fun i j H Q _ q=>⟨i,j,rfl,rfl,q⟩) fun _ _=>rfl
def kG:uC X (compareOp .Gt) HC:=oW Ow (fun i j H Q _ q=>⟨i,j,rfl,rfl,q⟩) fun _ _=>rfl
def sC:uC X (compareOp .GtE) LH:=oW Ox (fun i j H Q _ q=>⟨i,j,rfl,rfl,q⟩) fun _ _=>rfl
def wW:uC X (binaryOp .FloorDiv) IA:=oW HV (fun i j H Q c q=>⟨i,j,rfl,rfl,by simpa[Ot] using c,q⟩) fun _ _=>rfl
def mS:uC X (binaryOp .Mod) AE:=oW Ll (fun i j H Q c q=>⟨i,j,rfl,rfl,by simpa using c,q⟩) fun _ _=>rfl
def IB:uC X (binaryOp .Pow) OZ:=oW Lm (fun i j H Q c q=>⟨i,j,rfl,rfl,by
 simp only[Yr,ZU] at c
 exact⟨c.1,Int.le_trans c.2.1 (by decide),c.2.2⟩,q⟩) fun _ _=>rfl
def Sub.jf {F:Hp}{v:V}(s:Sub F H) (r:Rep F v (.tup ds)):∃a vs,v= .ref a/\F a=some (.tup vs)/\Rd H a (.tup vs)/\bz F vs ds:=by
 cases r with
 | tup e rs=>exact⟨_,_,rfl,e,Rd.of (s _ _ e),rs⟩
def Sub.iy {F:Hp}{v:V}(s:Sub F H) (r:Rep F v (.lst ds)):∃a vs,v= .ref a/\Rd F a (.lst vs)/\Rd H a (.lst vs)/\bz F vs ds:=by
 cases r with
 | lst e rs=>exact⟨_,_,rfl,e,e.imp (s _ _) fun⟨o,h⟩=>⟨o,s _ _ h⟩,rs⟩
def _root_.L2.Rd.EN {pins:AAD}{s:Shared}(I:Inv X pins σ H s){l:Addr}(h:Rd H l (.lst xs)):
  xs.length<=sizeLine/\∃its n,Vals xs its/\xs.length=its.length/\s.heap.get? l=some {cls:=.type "list",data:=.seq its.toArray n}:=by
 obtain⟨z,its,n,r,e⟩:=(h.ok I.hok:c7 X.prog X.w H s.heap l (.lst xs))
 exact⟨z,its,n,r,r.length,e⟩
noncomputable def cB:List D->Option U
 | [.int i,.int j]=>some (.t (.int (i+j)))
 | [.str i,.str j]=>if i.length+j.length<=100000 then some (.t (.str (i++j))) else none
 | [.tup i,.tup j]=>if i.length+j.length<=100000 then some (.t (.tup (i++j))) else none
 | [.lst i,.lst j]=>if i.length+j.length<=100000 then some (.m (.lst (i++j))) else none
 | _=>none
def bG:uC X (binaryOp .Add) cB:=by
 intro pins s σ H x y v u Q I rx ry ⟨F,ds,w,sb,rs,hw,q⟩
 obtain⟨d,e,rfl,r1,r2⟩:=qO rs
 cases d <;> cases e <;> try (cases hw;done)
 ·rename_i i j
  cases hw
  cases r1
  cases r2
  exact Li pins s σ H _ _ v u Q I rx ry ⟨i,j,rfl,rfl,q _ F H (fH.refl ..) sb (.int _)⟩
 ·rename_i i j
  obtain⟨hl,rfl⟩:=bh hw
  cases r1
  cases r2
  exact Ai pins s σ H _ _ v u Q I rx ry ⟨i,j,rfl,rfl,iT hl,q _ F H (fH.refl ..) sb (.str _)⟩
 ·rename_i i j
  obtain⟨hl,rfl⟩:=bh hw
  have Ws:=r2
  have Wt:=r1
  obtain⟨a,xs,rfl,fa,ha,sD⟩:=sb.jf r1
  obtain⟨b,ys,rfl,fb,hb,KJ⟩:=sb.jf r2
  by_cases hx:xs=[]
  ·subst hx
   cases sD
   cases rx
   cases ry
   obtain⟨its,r1',p1,_⟩:=I.tuple (.inl ha)
   obtain⟨its2,r2',p2,_⟩:=I.tuple (.inl hb)
   cases r1'
   obtain⟨⟨cls,dd,data,sl⟩,ho,hc,n,hd⟩:=id p1
   obtain⟨⟨Sl,dd2,data2,sl2⟩,ho2,hc2,n2,hd2⟩:=id p2
   simp only at hc hd hc2 hd2
   subst hc hd hc2 hd2
   exact concat_meets ⟨_,ho,rfl⟩ ⟨_,ho2,rfl⟩ aaD seq_tuple_add ZW ZR (ZL _ _)
    (tuple_addW0 a b _ _ n n2 dd dd2 sl sl2 (by simp)) ⟨ho,ho2,⟨.ref b,H,I,rfl,q _ F H (fH.refl ..) sb Ws⟩⟩
  ·refine Ij pins s σ H (.ref a) (.ref b) v u Q I rx ry ⟨a,b,xs,ys,rfl,rfl,.inl ha,.inl hb,hx,?_,fun hy=>?_,fun hy p hp=>?_⟩
   ·rw[sD.length,KJ.length];exact iT hl
   ·subst hy
    cases KJ
    exact q _ F H (fH.refl ..) sb (by show Rep F (.ref a) (.tup (i++[]));rw[Zr];exact Wt)
   ·exact q _ _ _ (fH.root sb hp _) (sb.pZ hp) (.tup aH ((sD.append KJ).le (iJ (sb.fresh hp))))
 ·rename_i i j
  obtain⟨hl,rfl⟩:=bh hw
  obtain⟨a,xs,rfl,fa,ha,sD⟩:=sb.iy r1
  obtain⟨b,ys,rfl,fb,hb,KJ⟩:=sb.iy r2
  cases rx
  cases ry
  obtain⟨z,its,n,r,hl1,e⟩:=Rd.EN I ha
  obtain⟨z2,its2,n2,r2,hl2,e2⟩:=Rd.EN I hb
  have hlen:xs.length+ys.length<=sizeLine:=by rw[sD.length,KJ.length];exact iT hl
  refine PySem.P.add_list e e2 ?_ (by rw[X0,X0];lia)
  have ea:its.toArray++its2.toArray=(its++its2).toArray:=by simp
  rw[ea]
  have hp:H s.heap.objs.size=none:=I.fresh
  refine⟨.ref _,_,I.Su (t':=s.toks) (r.append r2) (by rw[Yy];lia),rfl,?_⟩
  exact q _ F _ (fH.obj hp _) (sb.same (fH.obj (F:=F) hp _).same) ⟨_,rfl,hp,sb.fresh hp,_,aH,sD.append KJ⟩
def AF:List D->Option U:=D8 (fun i j=>(decide (-(2 ^ 64) < i) && decide (i < 2 ^ 64)) || (decide (-(2 ^ 64) < j) && decide (j < 2 ^ 64))) fun i j=>.int (i * j)
def oY:uC X (binaryOp .Mult) AF:=oW Lk (fun i j H Q c q=>⟨i,j,rfl,rfl,by
 simp only[Bool.or_eq_true,Yr,ZU] at c
 exact c,q⟩) fun _ _=>rfl
noncomputable def yH:List D->Option U
 | [.int i]=>some (.t (.int (-i)))
 | _=>none
def mT:Ol X (unaryOp .USub) (fun x H Q=>rP yH [x] H Q):=by
 intro pins s σ H x v Q I rx ⟨F,ds,w,sb,rs,hw,q⟩
 obtain⟨d,rfl,r1⟩:=E4 rs
 cases r1 <;> try (cases hw;done)
 rename_i i
 cases hw
 exact Ln pins s σ H _ v Q I rx ⟨i,rfl,q _ F H (fH.refl ..) sb (.int _)⟩
def E5:List D->Option U
 | [.tup ds,.int i]=>(gR ds i).map .t
 | [.lst ds,.int i]=>(gR ds i).map .t
 | [.str z,.int i]=>if z.length<=100000 then(gR z.cps.toList i).map fun c=>.t (.str ⟨#[c]⟩) else none
 | _=>none
def E6:EI X (fun x y H Q=>rP E5 [x,y] H Q):=by
 intro value slice pins s σ H x y v u Q I rx ry ⟨F,ds,w,sb,rs,hw,q⟩ hsb
 obtain⟨d,e,rfl,r1,r2⟩:=qO rs
 cases d <;> cases e <;> try (cases hw;done)
 ·rename_i z i
  obtain⟨hl,hw⟩:=vo hw
  obtain⟨c,hc,hw⟩:=ao hw
  subst hw
  cases r1
  cases r2
  exact EL value slice pins s σ H _ _ v u Q I rx ry ⟨z,i,c,rfl,rfl,iT hl,hc,q _ F H (fH.refl ..) sb (.str _)⟩ hsb
 ·rename_i ds i
  obtain⟨c,hc,hw⟩:=ao (show(gR ds i).map U.t=some w from hw)
  subst hw
  obtain⟨a,xs,rfl,fa,ha,sD⟩:=sb.jf r1
  cases r2
  obtain⟨w',h1,h2⟩:=sD.gR hc
  exact EK value slice pins s σ H _ _ v u Q I rx ry ⟨a,xs,i,w',rfl,rfl,.inl ha,h1,q _ F H (fH.refl ..) sb h2⟩ hsb
 ·rename_i ds i
  obtain⟨c,hc,hw⟩:=ao (show(gR ds i).map U.t=some w from hw)
  subst hw
  obtain⟨a,xs,rfl,fa,ha,sD⟩:=sb.iy r1
  cases r2
  obtain⟨w',h1,h2⟩:=sD.gR hc
  exact BQ value slice pins s σ H _ _ v u Q I rx ry ⟨a,xs,i,w',rfl,rfl,.inl ha,h1,q _ F H (fH.refl ..) sb h2⟩ hsb
noncomputable def AG:List D->Option U
 | [.tup ds]=>some (.t (.int ds.length))
 | [.lst ds]=>some (.t (.int ds.length))
 | [.str z]=>if z.length<=100000 then some (.t (.int z.length)) else none
 | _=>none
def De:dU X (.builtin "len") (rP AG):=by
 intro pins s σ H xs us Q I r ⟨F,ds,w,sb,rs,hw,q⟩
 match xs,ds,rs with
 | [],[],_=>exact absurd hw (by simp[AG])
 | [x],_,rs=>
  obtain⟨d,rfl,r1⟩:=E4 rs
  cases d <;> try (cases hw;done)
  ·rename_i z
   obtain⟨hl,rfl⟩:=bh hw
   cases r1
   exact oN pins s σ H _ us Q I r ⟨z,rfl,iT hl,q _ F H (fH.refl ..) sb (.int _)⟩
  ·cases hw
   obtain⟨a,xs,rfl,fa,ha,sD⟩:=sb.jf r1
   exact kE pins s σ H _ us Q I r ⟨a,xs,rfl,.inr (.inl ha),by rw[sD.length];exact q _ F H (fH.refl ..) sb (.int _)⟩
  ·cases hw
   obtain⟨a,xs,rfl,fa,ha,sD⟩:=sb.iy r1
   exact kE pins s σ H _ us Q I r ⟨a,xs,rfl,.inl (.inl ha),by rw[sD.length];exact q _ F H (fH.refl ..) sb (.int _)⟩
 | _ :: _ :: _,[],rs=>cases rs
 | _ :: _ :: _,[_],rs=>cases rs with | cons _ rs=>cases rs
 | _ :: _ :: _,_ :: _ :: _,_=>exact absurd hw (by simp[AG])
end
noncomputable def jZ (i:Nat) (u:U) (S:SS):Option SS:=match S[i]? with
 | some (some (.b _))=>none
 | some _=>some (S.set i (some u))
 | none=>none
def vp (h:jZ i u S=some S'):S'=S.set i (some u)/\i < S.length/\∀o,S[i]?≠some (some (.b o)):=by
 unfold jZ at h
 cases e:S[i]? with
 | none=>rw[e] at h;cases h
 | some w=>
  have hl:i < S.length:=(Ye.mp e).1
  rw[e] at h
  cases w with
  | none=>cases h;exact⟨rfl,hl,fun o z=>by cases z⟩
  | some w=>
   cases w with
   | b o=>cases h
   | t d=>cases h;exact⟨rfl,hl,fun o z=>by cases z⟩
   | m d=>cases h;exact⟨rfl,hl,fun o z=>by cases z⟩
   | v d=>cases h;exact⟨rfl,hl,fun o z=>by cases z⟩
   | s d=>cases h;exact⟨rfl,hl,fun o z=>by cases z⟩
   | f d=>cases h;exact⟨rfl,hl,fun o z=>by cases z⟩
   | x cx kx=>cases h;exact⟨rfl,hl,fun o z=>by cases z⟩
def KL (B:Base) (S:SS) (σ:St) (F H:Hp) (v:V):U->Prop
 | .t d=>Rep F v d
 | .m o=>∃a,v= .ref a/\F a=none/\At F H a o/\¬cY S σ a/\B.H a=none
 | .x C k=>m8 F v C k
 | _=>False
def Rel.put {F:Hp}{v:V}(R:Rel K B S σ F H) (h:jZ i u S=some S') (p:KL B S σ F H v u):Rel K B S' (σ.set i (some v)) F H:=by
 obtain⟨rfl,hl,nb⟩:=vp h
 have hl':i < σ.length:=by rw[<-R.len];exact hl
 have out:∀{j:Nat},i≠j->(σ.set i (some v))[j]? =σ[j]?:=fun ne=>Yl ne
 have Dg:(σ.set i (some v))[i]? =some (some v):=Yw hl'
 have KN:∀j w a,i≠j->S[j]? =some (some w)->eu w=true->eu u=true->σ[j]? =some (some (.ref a))->v≠.ref a:=fun j w a ne hj hm hu hv z=>by
  cases u with
  | t d=>cases hu
  | v k=>cases hu
  | s k=>cases hu
  | f k=>cases hu
  | x cx kx=>cases hu
  | b o=>exact p
  | m o=>
   obtain⟨c,e,_,_,nm,_⟩:=p
   rw[z] at e
   cases e
   exact nm ⟨j,w,hj,hm,hv⟩
 refine⟨R.sub,by rw[Y0,Y0];exact R.len,fun j w hj=>?_,fun j k w1 w2 a h1 m1 h2 m2 v1 v2=>?_,fun j o a hj hv=>?_,fun j o a hj hv=>?_,fun j a hj=>?_,R.ext⟩
 ·rcases get_set hj with⟨rfl,q,_⟩ | ⟨ne,q⟩
  ·cases q
   refine⟨v,Dg,?_⟩
   cases u with
   | t d=>exact p
   | m o=>obtain⟨a,e,f,h,_⟩:=p;exact⟨a,e,f,h⟩
   | b o=>cases p
   | v k=>cases p
   | s k=>cases p
   | f k=>cases p
   | x cx kx=>exact p
  ·rw[out ne];exact R.rep j w q
 ·rcases get_set h1 with⟨rfl,q1,_⟩ | ⟨ne1,q1⟩
  ·rcases get_set h2 with⟨rfl,q2,_⟩ | ⟨ne2,q2⟩
   ·rfl
   ·cases q1
    rw[Dg] at v1
    rw[out ne2] at v2
    cases v1
    exact absurd rfl (KN k w2 a ne2 q2 m2 m1 v2)
  ·rcases get_set h2 with⟨rfl,q2,_⟩ | ⟨ne2,q2⟩
   ·cases q2
    rw[Dg] at v2
    rw[out ne1] at v1
    cases v2
    exact absurd rfl (KN j w1 a ne1 q1 m1 m2 v1)
   ·rw[out ne1] at v1
    rw[out ne2] at v2
    exact R.Az j k w1 w2 a q1 m1 q2 m2 v1 v2
 ·rcases get_set hj with⟨rfl,q,_⟩ | ⟨ne,q⟩
  ·cases q
   rw[Dg] at hv
   cases hv
   obtain⟨c,e,_,_,_,hB⟩:=p
   cases e
   exact hB
  ·rw[out ne] at hv;exact R.own j o a q hv
 ·rcases get_set hj with⟨rfl,q,_⟩ | ⟨ne,q⟩
  ·cases q;cases p
  ·rw[out ne] at hv;exact R.bor j o a q hv
 ·obtain⟨h1,o,h2⟩:=R.par j a hj
  have ne:i≠j:=fun z=>by subst z;exact nb o h2
  exact⟨by rw[out ne];exact h1,o,by rw[Yl ne];exact h2⟩
noncomputable def dO:GS:=fun S=>some (.nx S)
noncomputable def aJ (a b:GS):GS:=fun S=>(a S).bind fun o=>match o with
 | .nx S1=>b S1
 | o=>some o
def bL (i:Nat) (g:GE):GS:=fun S=>(g S).bind fun p=>match p.1 with
 | .m o=>(jZ i (.m o) p.2).map .nx
 | u=>(fz u p.2).bind fun q=>(jZ i (.t q.1) q.2).map .nx
noncomputable def qP (g:GE):GS:=fun S=>(g S).map fun p=>.nx p.2
noncomputable def cI (g:GE):GS:=fun S=>(g S).bind fun p=>match p.1 with
 | .v i=>match p.2[i]? with
  | some (some (.t d))=>some (.rt (.t d) p.2)
  | some (some (.m o))=>some (.rt (.m o) (p.2.set i none))
  | _=>none
 | .s _=>none
 | .f _=>none
 | .x _ _=>none
 | u=>some (.rt u p.2)
noncomputable def kH (q:GT) (a b:GS):GS:=fun S=>(q S).bind fun p=>if p.1 then a p.2 else b p.2
theorem BV.mono {F:Hp}{D:Ends}(g:∀b o,F b=some o->F1 b=some o):∀{o:Out},BV K B F D o->BV K B F1 D o
 | .nx _,h=>fun σ' F' H' R le=>h σ' F' H' R fun b o z=>le b o (g b o z)
 | .bk _,h=>fun σ' F' H' R le=>h σ' F' H' R fun b o z=>le b o (g b o z)
 | .ct _,h=>fun σ' F' H' R le=>h σ' F' H' R fun b o z=>le b o (g b o z)
 | .rt _ _,h=>fun v σ' F' H' R le=>h v σ' F' H' R fun b o z=>le b o (g b o z)
section
variable {X:Cx}{a b c e:Expr}{pos p p2:Pos}{x:Str}{st:Stmt}{rest b1 b2 body:List Stmt}{g:GE}{s1 s2:GS}{q1:GT}
def cD:JB X [] dO:=⟨fun B=>HQ.imp fun D σ H ⟨S,F,o,R,h,k⟩=>by cases h;exact k σ F H R fun _ _ z=>z⟩
def au (h1:JS X st s1) (h2:JB X rest s2):JB X (st :: rest) (aJ s1 s2):=⟨fun B=>(Em (h1.h B) (h2.h B)).imp fun D σ H hh=>by
 obtain⟨S,F,o,R,h,k⟩:=hh
 obtain⟨o1,e1,h⟩:=ah h
 refine⟨S,F,o1,R,e1,?_⟩
 cases o1 with
 | nx S1=>exact fun σ' F' H' R' le=>⟨S1,F',o,R',h,k.mono le⟩
 | rt u S1=>cases h;exact k
 | bk S1=>cases h;exact k
 | ct S1=>cases h;exact k⟩
def aN (h1:JS X st s1):JB X [st] s1:=⟨fun B=>BD (h1.h B)⟩
def iI.put {F:Hp}{v:V}{o:MO}(r:iI K B S σ H0 F H v (.m o)):KL B S σ F H v (.m o):=by
 obtain⟨a,e,_,f,h,n,hB⟩:=r
 exact⟨a,e,f,h,n,hB⟩
def IC {D:Ends}(h:tO K B (bL i g) D σ H):Ld (tE K B g) (BE i) D σ H:=by
 obtain⟨S,F,o,R,h,k⟩:=h
 obtain⟨⟨u,S1⟩,h1,h⟩:=ah h
 refine⟨S,F,u,S1,R,h1,fun v F1 H1 R1 st1 r1=>?_⟩
 have go:(∀o',u≠.m o')->(fz u S1).bind (fun q=>(jZ i (.t q.1) q.2).map Out.nx)=some o->D.nx (σ.set i (some v)) H1:=fun _ h=>by
  obtain⟨⟨d,S2⟩,h2,h⟩:=ah h
  obtain⟨S3,h3,h⟩:=ao h
  subst h
  obtain⟨F2,R2,st2,r2⟩:=E2 R1 st1 r1 h2
  exact k _ F2 H1 (R2.put h3 r2) st2.ext.le
 cases u with
 | m o'=>
  obtain⟨S3,h3,h⟩:=ao (show(jZ i (.m o') S1).map Out.nx=some o from h)
  subst h
  exact k _ F1 H1 (R1.put h3 r1.put) st1.ext.le
 | t d=>exact go (fun _ z=>by cases z) h
 | b d=>exact go (fun _ z=>by cases z) h
 | s d=>exact go (fun _ z=>by cases z) h
 | f d=>exact go (fun _ z=>by cases z) h
 | x cx kx=>exact go (fun _ z=>by cases z) h
 | v d=>exact go (fun _ z=>by cases z) h
def LI (hN:X.N.Nodup) (hi:X.N[i]? =some x) (hx:Loc X.env.scope x) (he:JE X e g) (hs:swapsWith e (some (.Name x pos')) pos.line X.env=pure false:=by rfl)
  (hf:X.fn x=true\/X.env.scope.names.lookup x=some .local:=by first | exact .inl rfl | exact .inr rfl | assumption):JS X (.Assign [.Name x pos'] e pos) (bL i g):=
 ⟨fun B=>(Ep hN hi hx (he.h B) hs hf).imp fun D σ H h=>IC h⟩
def mU (he:JE X e g) (hs:swapsWith e none pos.line X.env=pure false:=by rfl):JS X (.Expr e pos) (qP g):=⟨fun B=>(HR (he.h B) hs).imp fun D σ H hh=>by
 obtain⟨S,F,o,R,h,k⟩:=hh
 obtain⟨⟨u,S1⟩,h1,h⟩:=ao h
 subst h
 exact⟨S,F,u,S1,R,h1,fun v F1 H1 R1 st1 r1=>k σ F1 H1 R1 st1.ext.le⟩⟩
def Rel.drop {F:Hp}{o:MO}(R:Rel K B S σ F H) (h:S[i]? =some (some (.m o))):Rel K B (S.set i none) σ F H:=by
 have back:∀{j w},(S.set i none)[j]? =some (some w)->i≠j/\S[j]? =some (some w):=fun {j w} z=>by
  rcases get_set z with⟨_,q,_⟩ | q
  ·cases q
  ·exact q
 refine⟨R.sub,by rw[Y0];exact R.len,fun j w z=>R.rep j w (back z).2,fun j k w1 w2 a h1 m1 h2 m2=>R.Az j k w1 w2 a (back h1).2 m1 (back h2).2 m2,fun j o a z=>R.own j o a (back z).2,fun j o a z=>R.bor j o a (back z).2,fun j a z=>?_,R.ext⟩
 obtain⟨k1,o',k2⟩:=R.par j a z
 have ne:i≠j:=fun z=>by subst z;rw[h] at k2;cases k2
 exact⟨k1,o',by rw[Yl ne];exact k2⟩
def bB (he:JE X e g):JS X (.Return (some e) pos) (cI g):=⟨fun B=>(La (he.h B)).imp fun D σ H hh=>by
 obtain⟨S,F,o,R,h,k⟩:=hh
 obtain⟨⟨u,S1⟩,h1,h⟩:=ah h
 refine⟨S,F,u,S1,R,h1,fun v F1 H1 R1 st1 r1=>?_⟩
 cases u with
 | t d=>cases h;exact k v σ F1 H1 R1 st1.ext.le r1
 | b d=>cases h;cases r1
 | s d=>cases h
 | f d=>cases h
 | x cx kx=>cases h
 | m o'=>cases h;exact k v σ F1 H1 R1 st1.ext.le (by obtain⟨a,e,h0,f,h,n,hB⟩:=r1;exact⟨a,e,hB,f,h,n,hB⟩)
 | v i=>
  obtain⟨hv,w,hw⟩:=r1
  dsimp only at h
  rw[hw] at h
  obtain⟨v',z1,z2⟩:=R1.rep i w hw
  rw[hv] at z1
  cases z1
  cases w with
  | t d=>cases h;exact k v σ F1 H1 R1 st1.ext.le z2
  | b d=>cases h
  | v d=>cases h
  | s d=>cases h
  | f d=>cases h
  | x cx kx=>cases h
  | m o'=>
   cases h
   obtain⟨a,rfl,f,ha⟩:=z2
   have hB:=R1.own i o' a hw hv
   refine k _ σ F1 H1 (R1.drop hw) st1.ext.le ⟨a,rfl,hB,f,ha,fun hh=>?_,hB⟩
   obtain⟨j,w,z,hm,hj⟩:=hh
   rcases get_set z with⟨_,q,_⟩ | ⟨ne,q⟩
   ·cases q
   ·exact ne (R1.Az i j _ w a hw rfl q hm hv hj)⟩
def c9 (hc:JT X c q1) (ha:JB X b1 s1) (hb:JB X b2 s2):JS X (.If c b1 b2 pos) (kH q1 s1 s2):=⟨fun B=>(Of (hc.h B) (ha.h B) (hb.h B)).imp fun D σ H hh=>by
 obtain⟨S,F,o,R,h,k⟩:=hh
 obtain⟨⟨d,S1⟩,h1,h⟩:=ah h
 refine⟨S,F,d,S1,R,h1,fun F1 H1 R1 st1=>?_⟩
 cases d with
 | true=>exact wR ⟨S1,F1,o,R1,h,k.mono st1.ext.le⟩
 | false=>exact wQ ⟨S1,F1,o,R1,h,k.mono st1.ext.le⟩⟩
abbrev GB:=D->SS->Option SS
inductive Wu (K:AAA) (B:Base) (bd:GB) (v:V) (σ:St) (H:Hp) (Q:St->Hp->Prop):Prop
 | mk (S:SS) (F:Hp) (d:D) (S':SS) (R:Rel K B S σ F H) (r:Rep F v d) (hg:bd d S=some S') (q:∀σ',Rel K B S' σ' F H->Q σ' H)
structure JG (X:Cx) (tg:Expr) (bd:GB):Prop where
 h:∀B,PG X tg (Wu X.K B bd)
abbrev HD:=List D->SS->Option SS
inductive SR (K:AAA) (B:Base) (bd:HD) (vs:List V) (σ:St) (H:Hp) (Q:St->Hp->Prop):Prop
 | mk (S:SS) (F:Hp) (ds:List D) (S':SS) (R:Rel K B S σ F H) (r:bz F vs ds) (hg:bd ds S=some S') (q:∀σ',Rel K B S' σ' F H->Q σ' H)
structure QM (X:Cx) (E7:List Expr) (bd:HD):Prop where
 h:∀B,Kq X E7 (SR X.K B bd)
def PG.imp {t t':TG}(h:PG X tg t) (k:∀v σ H Q,t' v σ H Q->t v σ H Q):PG X tg t':=fun pins s σ H v u Q I r q=>h pins s σ H v u Q I r (k v σ H Q q)
def Kq.imp {tg:List Expr}{t t':Kp}(h:Kq X tg t) (k:∀v σ H Q,t' v σ H Q->t v σ H Q):Kq X tg t':=fun pins s σ H v u Q I r q=>h pins s σ H v u Q I r (k v σ H Q q)
def bName (i:Nat):GB:=fun d S=>jZ i (.t d) S
def ID (hN:X.N.Nodup) (hi:X.N[i]? =some x) (hx:Loc X.env.scope x) (hf:X.fn x=true\/X.env.scope.names.lookup x=some .local:=by first | exact .inl rfl | exact .inr rfl | assumption):JG X (.Name x pos) (bName i):=
 ⟨fun B=>(rG hN hi hx hf).imp fun v σ H Q ⟨S,F,d,S',R,r,h,k⟩=>k _ (R.put h r)⟩
noncomputable def lM:HD:=fun ds S=>match ds with
 | []=>some S
 | _=>none
noncomputable def dc (b:GB) (bs:HD):HD:=fun ds S=>match ds with
 | d :: r=>(b d S).bind fun S1=>bs r S1
 | []=>none
def oZ:QM X [] lM:=⟨fun B=>BF.imp fun vs σ H Q hh=>by
 obtain⟨S,F,ds,S',R,r,h,k⟩:=hh
 cases r with
 | nil=>cases h;exact⟨rfl,k σ R⟩
 | cons _ _=>cases h⟩
def fJ {O0:HD}(h1:JG X tg bd) (h2:QM X E7 O0) (hs:(assignEach (tg :: E7) X.env).map (·.2)=assign tg X.env :: (assignEach E7 X.env).map (·.2):=by rfl):QM X (tg :: E7) (dc bd O0):=
 ⟨fun B=>(se (h1.h B) (h2.h B) hs).imp fun vs σ H Q hh=>by
 obtain⟨S,F,ds,S',R,r,h,k⟩:=hh
 cases r with
 | nil=>cases h
 | cons r rs=>
  obtain⟨S1,e1,h⟩:=ah h
  exact⟨_,_,rfl,S,F,_,S1,R,r,e1,fun σ1 R1=>⟨S1,F,_,S',R1,rs,h,k⟩⟩⟩
noncomputable def lN (n:Nat) (bs:HD):GB:=fun d S=>match d with
 | .tup ds=>if ds.length=n then bs ds S else none
 | _=>none
def sE {k0:Nat}{O0:HD}(hc:X.calm=true) (h:QM X E7 O0) (hn:(assignEach E7 X.env).length=n:=by rfl) (hst:(assignEach E7 X.env).findIdx? (·.1)=none:=by rfl):JG X (.Tuple E7 k0 pos) (lN n O0):=
 ⟨fun B=>(En hc (h.h B) hn hst).imp fun v σ H Q hh=>by
 obtain⟨S,F,d,S',R,r,h,k⟩:=hh
 cases d <;> try (cases h)
 rename_i ds
 unfold lN at h
 dsimp only at h
 split at h
 ·rename_i hl
  obtain⟨a,vs,rfl,fa,ha,rs⟩:=R.sub.jf r
  exact⟨a,vs,rfl,.inl ha,by rw[rs.length];exact hl,S,F,ds,S',R,rs,h,k⟩
 ·cases h⟩
noncomputable def LJ (bd:GB) (g:GD):GS:=fun S=>(g S).bind fun p=>(bd p.1 p.2).map .nx
def LK (he:JD X e gd) (hg:JG X tg bd) (hs:swapsWithSole [tg] e pos.line X.env=pure false:=by rfl) (hw:swappedStores [tg] e X.env=pure none:=by rfl)
  (h1:(assignEach [tg] X.env).map (·.2)=[assign tg X.env]:=by rfl):JS X (.Assign [tg] e pos) (LJ bd gd):=
 ⟨fun B=>(Eo (he.h B) (hg.h B) hs hw h1).imp fun D σ H hh=>by
 obtain⟨S,F,o,R,h,k⟩:=hh
 obtain⟨⟨d,S1⟩,e1,h⟩:=ah h
 obtain⟨S2,e2,h⟩:=ao h
 subst h
 exact⟨S,F,d,S1,R,e1,fun v F1 H1 R1 st1 r1=>⟨S1,F1,d,S2,R1,r1,e2,fun σ' R2=>k σ' F1 H1 R2 st1.ext.le⟩⟩⟩
def Walk (J:It) (F:Hp) (ds:List D):Prop:=∀F' H',(∀b o,F b=some o->F' b=some o)->Sub F' H'->∀i,(∀d,ds[i]? =some d->J.go i H'/\∀x H2,J.HS i H' x H2->H2=H'/\Rep F' x d)/\(ds.length<=i->J.stop i H')
abbrev GI:=SS->Option (List D×SS)
inductive SV (K:AAA) (B:Base) (gi:GI) (σ:St) (H:Hp) (Q:It->Hp->Prop):Prop
 | mk (S:SS) (F:Hp) (ds:List D) (S':SS) (R:Rel K B S σ F H) (hg:gi S=some (ds,S')) (q:∀J F' H',Rel K B S' σ F' H'->Step S S' σ F H F' H'->Walk J F' ds->Q J H')
structure JI (X:Cx) (tg e:Expr) (gi:GI):Prop where
 h:∀B,PI X tg e (SV X.K B gi)
def PI.orelse {wi:TI}(h:∀σ H R,wi σ H R->∃wi',PI X tg e wi'/\wi' σ H R):PI X tg e wi:=fun pins s σ H R I q=>let⟨_,h1,h2⟩:=h σ H R q;h1 pins s σ H R I h2
noncomputable def IE (g:GD):GI:=fun S=>(g S).bind fun p=>match p.1 with
 | .tup ds=>some (ds,p.2)
 | .lst ds=>some (ds,p.2)
 | _=>none
noncomputable def qc (g:GD):GI:=fun S=>(g S).bind fun p=>match p.1 with
 | .tup ds=>some (ds,p.2)
 | .lst ds=>some (ds,p.2)
 | .str z=>some (z.cps.toList.map fun c=>.str ⟨#[c]⟩,p.2)
 | _=>none
def vq {F:Hp}{a:Addr}(fa:Rd F a (.lst vs)) (rs:bz F vs ds):Walk (R7 K a) F ds:=fun F' H' le sb i=>by
 have ha:k7 K H' a vs:=.inl (fa.imp (fun z=>sb a _ (le _ _ z)) fun⟨o,z⟩=>⟨o,sb a _ (le _ _ z)⟩)
 refine⟨fun d hd=>?_,fun hl=>⟨vs,ha,by rw[rs.length];exact hl⟩⟩
 obtain⟨v,h1,h2⟩:=rs.get hd
 refine⟨⟨vs,v,ha,h1⟩,fun x H2 y=>⟨y.1,?_⟩⟩
 have:=y.2 vs ha
 rw[h1] at this
 cases this
 exact h2.le le
def yI {F:Hp}{a:Addr}(fa:F a=some (.tup vs)) (rs:bz F vs ds):Walk (R8 K a) F ds:=fun F' H' le sb i=>by
 have ha:q8 K H' a vs:=.inl (Rd.of (sb a _ (le _ _ fa)))
 refine⟨fun d hd=>?_,fun hl=>⟨vs,ha,by rw[rs.length];exact hl⟩⟩
 obtain⟨v,h1,h2⟩:=rs.get hd
 refine⟨⟨vs,v,ha,h1⟩,fun x H2 y=>⟨y.1,?_⟩⟩
 have:=y.2 vs ha
 rw[h1] at this
 cases this
 exact h2.le le
def E8 {F:Hp}:Walk (SN z) F (z.cps.toList.map fun c=>.str ⟨#[c]⟩):=fun F' H' le sb i=>by
 refine⟨fun d hd=>?_,fun hl=>(show z.cps.size<=i by simpa using hl)⟩
 rw[Yu] at hd
 obtain⟨c,hc,rfl⟩:=ao hd
 have hc':z.cps[i]? =some c:=by rw[<-Array.getElem?_toList];exact hc
 refine⟨(YJ.mp hc').1,fun x H2 y=>⟨y.1,?_⟩⟩
 obtain⟨c2,k1,rfl⟩:=y.2
 rw[hc'] at k1
 cases k1
 exact .str _
def LL (h:JD X e gd):JI X tg e (IE gd):=⟨fun B=>PI.orelse fun σ H R0 hh=>by
 obtain⟨S,F,ds,S',R,hg,k⟩:=hh
 obtain⟨⟨d,S1⟩,h1,hg⟩:=ah hg
 cases d <;> try (cases hg)
 ·refine⟨_,Et (h.h B),S,F,_,_,R,h1,fun v F1 H1 R1 st1 r1=>?_⟩
  obtain⟨a,vs,rfl,fa,ha,rs⟩:=R1.sub.jf r1
  exact⟨a,rfl,⟨vs,.inl ha⟩,k _ F1 H1 R1 st1 (yI fa rs)⟩
 ·refine⟨_,wD (h.h B),S,F,_,_,R,h1,fun v F1 H1 R1 st1 r1=>?_⟩
  obtain⟨a,vs,rfl,fa,ha,rs⟩:=R1.sub.iy r1
  exact⟨a,rfl,⟨vs,.inl ha⟩,k _ F1 H1 R1 st1 (vq fa rs)⟩⟩
def qd (h:JD X e gd):JI X (.Name x pos) e (qc gd):=⟨fun B=>PI.orelse fun σ H R0 hh=>by
 obtain⟨S,F,ds,S',R,hg,k⟩:=hh
 obtain⟨⟨d,S1⟩,h1,hg⟩:=ah hg
 cases d <;> try (cases hg)
 ·refine⟨_,LA (h.h B),S,F,_,_,R,h1,fun v F1 H1 R1 st1 r1=>?_⟩
  exact⟨_,BW r1,k _ F1 H1 R1 st1 E8⟩
 ·refine⟨_,Et (h.h B),S,F,_,_,R,h1,fun v F1 H1 R1 st1 r1=>?_⟩
  obtain⟨a,vs,rfl,fa,ha,rs⟩:=R1.sub.jf r1
  exact⟨a,rfl,⟨vs,.inl ha⟩,k _ F1 H1 R1 st1 (yI fa rs)⟩
 ·refine⟨_,wD (h.h B),S,F,_,_,R,h1,fun v F1 H1 R1 st1 r1=>?_⟩
  obtain⟨a,vs,rfl,fa,ha,rs⟩:=R1.sub.iy r1
  exact⟨a,rfl,⟨vs,.inl ha⟩,k _ F1 H1 R1 st1 (vq fa rs)⟩⟩
noncomputable def pT (lo:Int) (n:Nat):List D:=(List.range n).map fun(k:Nat)=>D.int (lo+(k:Int))
def j4 (gA:GA):GI:=fun S=>(gA S).bind fun p=>match p.1 with
 | [.int j]=>if j < 1000000/\-1000000 < j then some (pT 0 j.toNat,p.2) else none
 | _=>none
def E9 {F:Hp}{lo:Int}:Walk (QE lo n) F (pT lo n):=fun F' H' le sb i=>by
 refine⟨fun d hd=>?_,fun hl=>(show n<=i by simpa[pT] using hl)⟩
 unfold pT at hd
 rw[Yu] at hd
 obtain⟨c,hc,rfl⟩:=ao hd
 obtain⟨hl,e⟩:=Ye.mp hc
 rw[List.getElem_range] at e
 subst e
 refine⟨show i < n by simpa using hl,fun x H2 y=>⟨y.1,?_⟩⟩
 rw[y.2]
 exact .int _
def j6 {gA:GA}(hg:Gl X "range") (hm:X.mg "range" =none) (ha:JA X [a] gA) (hs:starEach [a] X.env=[(false,eval a X.env)]:=by rfl):JI X tg (.Call (.Name "range" p) [a] [] pos) (j4 gA):=
 ⟨fun B=>PI.orelse fun σ H R0 hh=>by
 obtain⟨S,F,ds,S',R,hg',k⟩:=hh
 obtain⟨⟨d,S1⟩,h1,hg'⟩:=ah hg'
 refine⟨_,CL hg hm (ha.h B) hs,S,F,d,S1,R,h1,fun vs F1 H1 R1 st1 r1=>?_⟩
 dsimp only at hg'
 split at hg'
 ·split at hg'
  ·rename_i j hj
   cases hg'
   cases r1 with
   | cons r rs=>
    cases rs
    exact⟨j,by rw[fj r],by omega,by omega,k _ F1 H1 R1 st1 E9⟩
  ·cases hg'
 ·cases hg'⟩
noncomputable def loop (bd:GB) (body:GS):List D->SS->Option Out
 | [],S=>some (.nx S)
 | d :: ds,S=>(bd d S).bind fun S1=>(body S1).bind fun o=>match o with
  | .nx S2=>loop bd body ds S2
  | .ct S2=>loop bd body ds S2
  | .bk S2=>some (.nx S2)
  | .rt u S2=>some (.rt u S2)
def lq (bd:GB) (gi:GI) (body:GS):GS:=fun S=>(gi S).bind fun p=>loop bd body p.1 p.2
def nU (hp:PassesOwn (model X.prog X.w) X.A X.env X.xe) (hc:X.calm=true) (hi:JI X tg iter gi) (hg:JG X tg bd) (hb:JB X body s1) (hs:∀x,foldedSetIterable iter X.env x=pure x:=by intro _;rfl):
  JS X (.For tg iter body [] pos) (lq bd gi s1):=⟨fun B=>(Ew hp hc (hi.h B) (hg.h B) (hb.h B) hs).imp fun D σ H hh=>by
 obtain⟨S,F,o,R,h,k⟩:=hh
 obtain⟨⟨ds,S1⟩,h1,h⟩:=ah h
 refine⟨S,F,ds,S1,R,h1,fun J F1 H1 R1 st1 w=>?_⟩
 refine⟨fun i m σ' H'=>∃S' F',Rel X.K B S' σ' F' H'/\(∀b o,F1 b=some o->F' b=some o)/\i<=ds.length/\m=ds.length - i/\loop bd s1 (ds.drop i) S'=some o,⟨_,S1,F1,R1,fun _ _ z=>z,Y4 _,rfl,h⟩,?_⟩
 rintro i m σ' H' ⟨S',F',R',le,hl,rfl,cJ⟩
 have w':=w F' H' le R'.sub i
 by_cases hlt:i < ds.length
 ·have hd:ds[i]? =some ds[i]:=Yo hlt
  obtain⟨go,yl⟩:=w'.1 _ hd
  rw[YC hlt] at cJ
  obtain⟨S2,e2,cJ⟩:=ah cJ
  obtain⟨o2,e3,cJ⟩:=ah cJ
  refine .inr ⟨go,_,fun σ2 H2 n=>⟨ds.length - (i+1),by omega,n⟩,fun x H2 y=>?_⟩
  obtain⟨rfl,rx⟩:=yl x H2 y
  refine⟨S',F',_,S2,R',rx,e2,fun σ3 R3=>⟨S2,F',o2,R3,e3,?_⟩⟩
  cases o2 with
  | nx S3=>exact fun AH F4 H4 R4 uK=>⟨S3,F4,R4,fun b o z=>uK b o (le b o z),hlt,rfl,cJ⟩
  | ct S3=>exact fun AH F4 H4 R4 uK=>⟨S3,F4,R4,fun b o z=>uK b o (le b o z),hlt,rfl,cJ⟩
  | bk S3=>cases cJ;exact fun AH F4 H4 R4 uK=>k AH F4 H4 R4 fun b o z=>uK b o (le b o (st1.ext.le b o z))
  | rt u S3=>cases cJ;exact fun v AH F4 H4 R4 uK=>k v AH F4 H4 R4 fun b o z=>uK b o (le b o (st1.ext.le b o z))
 ·have e:i=ds.length:=by omega
  subst e
  rw[Zm] at cJ
  cases cJ
  exact .inl ⟨w'.2 (X6 _),k σ' F' H' R' fun b o z=>le b o (st1.ext.le b o z)⟩⟩
end
noncomputable def Nz:U->MO->Option U
 | .m _,o=>some (.m o)
 | .b _,o=>some (.b o)
 | _,_=>none
noncomputable def NC:U->Option MO
 | .m o=>some o
 | .b o=>some o
 | _=>none
noncomputable def AI (S:SS) (i:Nat) (f:MO->Option (D×MO)):Option (D×SS):=match S[i]? with
 | some (some (.m o))=>(f o).map fun r=>(r.1,S.set i (some (.m r.2)))
 | some (some (.b o))=>(f o).map fun r=>(r.1,S.set i (some (.b r.2)))
 | _=>none
def At.O1 {F:Hp}{o:MO}{ob:Obj}{u:HO}(h:At F H a o):H a≠some (.iN ob u):=fun z=>by
 cases o with
 | lst ds=>obtain⟨vs,e,_⟩:=h;rw[z] at e;cases e
 | dct ds=>obtain⟨vs,e,_⟩:=h;rw[z] at e;cases e
 | Ab ds=>obtain⟨vs,e,_⟩:=h;rw[z] at e;cases e
 | ins C ds=>obtain⟨vs,⟨dx,e⟩,_⟩:=h;rw[z] at e;cases e
def yE.cY {F:Hp}{v:V}(r:yE K F H v u) (hm:eu u=true):∃a o,v= .ref a/\F a=none/\NC u=some o/\At F H a o:=by
 cases u with
 | t d=>cases hm
 | v d=>cases hm
 | s d=>cases hm
 | f d=>cases hm
 | x cx kx=>cases hm
 | m o=>obtain⟨a,e,f,h⟩:=r;exact⟨a,o,e,f,rfl,h⟩
 | b o=>obtain⟨a,e,f,h⟩:=r;exact⟨a,o,e,f,rfl,h⟩
def Rel.write {F:Hp}{u':U}{ho:HO}{o:MO}(R:Rel K B S σ F H) (hS:S[i]? =some (some u)) (hu:Nz u o=some u') (hv:σ[i]? =some (some (.ref a))) (ha:At F (upd H a ho) a o):
  Rel K B (S.set i (some u')) σ F (upd H a ho)/\Step S (S.set i (some u')) σ F H F (upd H a ho):=by
 have hm:eu u=true/\eu u'=true:=by cases u <;> cases hu <;> exact⟨rfl,rfl⟩
 have O2:F a=none/\∀b ob w,H b=some (.iN ob w)->b≠a:=by
  obtain⟨v,h1,h2⟩:=R.rep i u hS
  rw[hv] at h1
  cases h1
  obtain⟨b,_,e,f,_,k⟩:=h2.cY hm.1
  cases e
  exact⟨f,fun b ob w z e=>k.O1 (by rw[e] at z;exact z)⟩
 have O3:=O2.1
 have ND:∀b ob w,H b=some (.iN ob w)->upd H a ho b=some (.iN ob w):=fun b ob w z=>by rw[aE (O2.2 b ob w z)];exact z
 have Wv:L2.cY S σ a:=⟨i,u,hS,hm.1,hv⟩
 have hl:i < S.length:=(Ye.mp hS).1
 have kb:∀{j w},(S.set i (some u'))[j]? =some (some w)->(i=j/\u'=w)\/(i≠j/\S[j]? =some (some w)):=fun {j w} z=>by
  rcases get_set z with⟨e,q,_⟩ | q
  ·exact .inl ⟨e,Yn q⟩
  ·exact .inr q
 have orig:∀{j w},(S.set i (some u'))[j]? =some (some w)->eu w=true->∃w0,S[j]? =some (some w0)/\eu w0=true:=fun {j w} z hw=>by
  rcases kb z with⟨rfl,rfl⟩ | ⟨_,q⟩
  ·exact⟨u,hS,hm.1⟩
  ·exact⟨w,q,hw⟩
 have keepR:∀b o,b≠a->Rd H b o->Rd (upd H a ho) b o:=fun b o ne r=>by
  rcases r with r | ⟨ob,r⟩
  ·exact .inl (by rw[aE ne];exact r)
  ·exact .inr ⟨ob,by rw[aE ne];exact r⟩
 refine⟨⟨fun b o z=>by rw[aE (fun e=>by rw[e,O3] at z;cases z)];exact R.sub b o z,by rw[Y0];exact R.len,fun j w z=>?_,fun j k w1 w2 c z1 m1 z2 m2=>?_,fun j o' c z hc=>?_,fun j o' c z hc=>?_,fun j c z=>?_,?_⟩,⟨?_,fun c ⟨j,w,z,hw,hc⟩=>?_,fun j w z=>?_⟩⟩
 ·rcases kb z with⟨rfl,rfl⟩ | ⟨ne,q⟩
  ·refine⟨.ref a,hv,?_⟩
   cases u <;> cases hu
   ·exact⟨a,rfl,O3,ha⟩
   ·exact⟨a,rfl,O3,ha⟩
  ·obtain⟨v,h1,h2⟩:=R.rep j w q
   refine⟨v,h1,?_⟩
   by_cases hw:eu w=true
   ·obtain⟨c,o',rfl,f,e,h⟩:=h2.cY hw
    have hca:c≠a:=fun z=>ne (R.Az i j u w a hS hm.1 q hw hv (by rw[h1,z]))
    have h':At F (upd H a ho) c o':=h.le (fun _ _ z=>z) fun o z=>by rw[aE hca];exact z
    cases w <;> cases hw <;> cases e
    ·exact⟨c,rfl,f,h'⟩
    ·exact⟨c,rfl,f,h'⟩
   ·cases w with
    | t d=>exact h2
    | v d=>exact h2
    | s d=>obtain⟨c,e,h⟩:=h2;exact⟨c,e,h.le ND⟩
    | f d=>exact h2
    | x cx kx=>exact h2
    | m o=>exact absurd rfl hw
    | b o=>exact absurd rfl hw
 ·obtain⟨SW,q1,n1⟩:=orig z1 m1
  obtain⟨SX,q2,n2⟩:=orig z2 m2
  exact R.Az j k SW SX c q1 n1 q2 n2
 ·rcases kb z with⟨rfl,rfl⟩ | ⟨_,q⟩
  ·cases u <;> cases hu
   exact R.own _ _ c hS hc
  ·exact R.own j o' c q hc
 ·rcases kb z with⟨rfl,rfl⟩ | ⟨_,q⟩
  ·cases u <;> cases hu
   exact R.bor _ _ c hS hc
  ·exact R.bor j o' c q hc
 ·obtain⟨k1,o',k2⟩:=R.par j c z
  refine⟨k1,?_⟩
  by_cases e:i=j
  ·subst e
   rw[hS] at k2
   cases k2
   cases hu
   exact⟨o,Yw hl⟩
  ·exact⟨o',by rw[Yl e];exact k2⟩
 ·refine⟨R.ext.le,fun b o z n=>?_,R.ext.i9,fun b o z=>?_,fun b o w z=>ND b o w (R.ext.iN b o w z)⟩
  ·have hb:b≠a:=fun e=>by
    subst e
    cases u with
    | m o'=>rw[R.own i o' b hS hv] at z;cases z
    | b o'=>exact n (R.bor i o' b hS hv)
    | t d=>cases hu
    | v d=>cases hu
    | s d=>cases hu
    | f d=>cases hu
    | x cx kx=>cases hu
   rw[aE hb]
   exact R.ext.keep b o z n
  ·by_cases hb:b=a
   ·exact⟨ho,by rw[hb,aH]⟩
   ·rw[aE hb];exact R.ext.there b o z
 ·refine⟨fun _ _ z=>z,fun b o z n=>?_,fun _ _ _ _ z=>z,fun b o z=>?_,ND⟩
  ·rw[aE (fun e=>n (by rw[e];exact Wv))];exact z
  ·by_cases hb:b=a
   ·exact⟨ho,by rw[hb,aH]⟩
   ·exact⟨o,by rw[aE hb];exact z⟩
 ·obtain⟨w0,q,n⟩:=orig z hw
  exact⟨j,w0,q,n,hc⟩
 ·by_cases e:i=j
  ·subst e;exact⟨u',Yw hl⟩
  ·exact⟨w,by rw[Yl e];exact z⟩
def vt {f:MO->Option (D×MO)}{d:D}(h:AI S i f=some (d,S')):∃u u' o o',S[i]? =some (some u)/\eu u=true/\NC u=some o/\f o=some (d,o')/\Nz u o'=some u'/\S'=S.set i (some u'):=by
 unfold AI at h
 split at h
 ·rename_i o e
  obtain⟨⟨d',o'⟩,h1,h⟩:=ao h
  cases h
  exact⟨_,_,o,o',e,rfl,rfl,h1,rfl,rfl⟩
 ·rename_i o e
  obtain⟨⟨d',o'⟩,h1,h⟩:=ao h
  cases h
  exact⟨_,_,o,o',e,rfl,rfl,h1,rfl,rfl⟩
 ·cases h
def SY (r:V->List V->Hp->VK->Prop) (h:List D->MO->Option (D×MO)):Prop:=
 ∀F H a vs xs ds args res o',Sub F H->H a=some (.lst vs)->F a=none->bz F vs ds->bz F xs args->h args (.lst ds)=some (res,o')->
  ∀Q:VK,(∀rv ho,Rep F rv res->At F (upd H a ho) a o'->Q rv (upd H a ho))->r (.ref a) xs H Q
noncomputable def dB:MO->Bool
 | .lst _=>true
 | _=>false
noncomputable def O4 (S:SS) (i:Nat):Bool:=match S[i]? with
 | some (some (.m (.lst _)))=>true
 | some (some (.b (.lst _)))=>true
 | _=>false
def LM {F:Hp}(R:Rel K B S σ F H) (h:O4 S i=true):∃u a vs ds,S[i]? =some (some u)/\eu u=true/\NC u=some (.lst ds)/\σ[i]? =some (some (.ref a))/\F a=none/\H a=some (.lst vs)/\bz F vs ds:=by
 unfold O4 at h
 split at h
 ·rename_i ds e
  obtain⟨v,k1,a,rfl,f,vs,k2,k3⟩:=R.rep i _ e
  exact⟨_,a,vs,ds,e,rfl,rfl,k1,f,k2,k3⟩
 ·rename_i ds e
  obtain⟨v,k1,a,rfl,f,vs,k2,k3⟩:=R.rep i _ e
  exact⟨_,a,vs,ds,e,rfl,rfl,k1,f,k2,k3⟩
 ·cases h
def eM (i:Nat) (h:List D->MO->Option (D×MO)) (gA:GA):GD:=fun S=>if O4 S i then(gA S).bind fun p=>AI p.2 i (h p.1) else none
def Fb {F:Hp}(R:Rel K B S σ F H) (hS:S[i]? =some (some u)) (hm:eu u=true) (hi:NC u=some (.lst ds)) (hv:σ[i]? =some (some (.ref a))):F a=none/\∃vs,H a=some (.lst vs)/\bz F vs ds:=by
 obtain⟨v,k1,k2⟩:=R.rep i u hS
 rw[hv] at k1
 cases k1
 obtain⟨b,o2,e1,f,e2,k⟩:=k2.cY hm
 cases e1
 rw[hi] at e2
 cases e2
 exact⟨f,k⟩
section
variable {X:Cx}{a b c e:Expr}{es:List Expr}{pos p p2 apos cpos px:Pos}{x name:Str}{g ga gb gc:GD}{gA:GA}{id:String}
def kJ {r:V->List V->Hp->VK->Prop}{h:List D->MO->Option (D×MO)}(slot:Slot "list" name id) (hty:typeOf (.builtin id)=pure (.type "method_descriptor")) (hm:Vf X id r) (hh:SY r h) (hl:∀args o,dB o=false->h args o=none) (ha:JA X (e :: es) gA)
  (hN:X.N[i]? =some x:=by rfl) (hv:wu X.env.scope x:=by first | exact Or.inl rfl | exact Or.inr (Or.inl rfl) | exact Or.inr (Or.inr rfl))
  (hbase:attributeBase (.Name x px) name X.env (eval (.Name x px) X.env)=eval (.Name x px) X.env:=by rfl)
  (hfew:((backTo cpos (starEach (e :: es) X.env)).all (fun x=>!x.1) && (backToKw cpos (keywordEach [] X.env)).all (fun x=>x.1.isSome)
   && decide ((e :: es).length+([]:List Keyword).length+(if([]:List Keyword).isEmpty then 0 else 1) < 30))=true:=by rfl)
  (hline:(apos.endLine == cpos.line)=true:=by rfl) (hs:starEach (e :: es) X.env=(false,eval e X.env) :: starEach es X.env:=by rfl) (hplain:(backTo cpos (starEach es X.env)).any (·.1)=false:=by rfl)
  (hd:(x == ("__debug__":Str))=false:=by decide) (hcd:(x == ("__classdict__":Str))=false:=by decide):
  JD X (.Call (.Attribute (.Name x px) name apos) (e :: es) [] cpos) (eM i h gA):=
 ⟨fun B=>(ON PySem.F.plainAttrs_list slot hty hm (fG hN hv hd hcd) (ha.h B) hbase hfew hline hs hplain).imp fun σ H Q hh=>by
 obtain⟨S,F,d,S',R,hg,q⟩:=hh
 unfold eM at hg
 split at hg
 ·rename_i hL
  obtain⟨⟨args,S1⟩,h1,hg⟩:=ah hg
  obtain⟨u,u',o,o',hS,O5,hio,hf,O6,rfl⟩:=vt hg
  obtain⟨u0,a,QI,Xz,_,_,_,hv0,_,hH,_⟩:=LM R hL
  cases o with
  | dct kvs=>rw[hl _ _ rfl] at hf;cases hf
  | Ab kvs=>rw[hl _ _ rfl] at hf;cases hf
  | ins C kvs=>rw[hl _ _ rfl] at hf;cases hf
  | lst ds=>
   refine⟨.ref a,hv0,.inl ⟨rfl,QI,k7.of hH⟩,S,F,args,S1,R,h1,fun xs F1 H1 R1 st1 r1=>?_⟩
   obtain⟨hf1,vs,Ww,rs⟩:=Fb R1 hS O5 hio hv0
   refine hh F1 H1 a vs xs ds args d o' R1.sub Ww hf1 rs r1 hf Q fun rv ho rr ha=>?_
   obtain⟨R2,st2⟩:=R1.write hS O6 hv0 ha
   exact q rv F1 _ R2 (st1.trans st2) rr
 ·cases hg⟩
noncomputable def hAppend:List D->MO->Option (D×MO)
 | [d],.lst ds=>if ds.length < 100000 then some (.cz,.lst (ds++[d])) else none
 | _,_=>none
def iX:SY BS hAppend:=by
 intro F H a vs xs ds args res o' sb hH fa rs rx hw Q q
 unfold hAppend at hw
 split at hw
 ·rename_i d ds' e2
  cases e2
  split at hw
  ·rename_i hl
   cases hw
   cases rx with
   | cons r rr=>
    cases rr
    exact⟨a,vs,_,rfl,rfl,hH,by rw[rs.length];exact X7 hl (by decide),q .cz _ .cz ⟨_,aH,rs.append (.cons r .nil)⟩⟩
  ·cases hw
 ·cases hw
noncomputable def lO:List D->MO->Option (D×MO)
 | [.int i],.lst ds=>if -(2 ^ 63)<=i/\i < 2 ^ 63 then(seqIndex? i ds.length).bind fun k=>(ds[k]?).map fun d=>(d,.lst (ds.eraseIdx k)) else none
 | _,_=>none
theorem bz.eraseIdx {F:Hp}:∀{vs:List V}{ds:List D}(k:Nat),bz F vs ds->bz F (vs.eraseIdx k) (ds.eraseIdx k)
 | _,_,_,.nil=>.nil
 | _,_,0,.cons _ rs=>rs
 | _,_,k+1,.cons r rs=>.cons r (bz.eraseIdx k rs)
def Fc:SY EO lO:=by
 intro F H a vs xs ds args res o' sb hH fa rs rx hw Q q
 unfold lO at hw
 split at hw
 ·rename_i i ds' e2
  cases e2
  split at hw
  ·rename_i hb
   obtain⟨k,hk,hw⟩:=ah hw
   obtain⟨d,hd,hw⟩:=ao hw
   cases hw
   cases rx with
   | cons r rr=>
    cases rr
    obtain⟨v,k1,k2⟩:=rs.get hd
    exact⟨a,vs,i,k,v,rfl,by rw[fj r],hH,hb.1,hb.2,by rw[rs.length];exact hk,k1,q v _ k2 ⟨_,aH,rs.eraseIdx k⟩⟩
  ·cases hw
 ·cases hw
end
def iI.step {F:Hp}{v:V}(r:iI K B S σ H0 F H v u) (st:Step S S' σ F H F' H'):iI K B S' σ H0 F' H' v u:=by
 cases u with
 | t d=>exact r.le st.ext.le
 | b o=>exact r
 | v i=>obtain⟨h1,u,h2⟩:=r;exact⟨h1,st.slots i u h2⟩
 | s i=>obtain⟨a,e,h⟩:=r;exact⟨a,e,h.le st.ext.iN⟩
 | f i=>exact r
 | x cx kx=>exact m8.le st.ext.le r
 | m o=>
  obtain⟨a,e,h0,f,h,n,hB⟩:=r
  obtain⟨ho,hh⟩:=h.has
  exact⟨a,e,h0,st.ext.i9 a ho hh n f,h.le st.ext.le fun o z=>st.ext.keep a o z n,fun m=>n (st.mu a m),hB⟩
abbrev GU:=SS->Option (List U×SS)
inductive Wx (K:AAA) (B:Base) (gu:GU) (σ:St) (H:Hp) (Q:List V->Hp->Prop):Prop
 | mk (S:SS) (F:Hp) (us:List U) (S':SS) (R:Rel K B S σ F H) (hg:gu S=some (us,S')) (q:∀vs F' H',Rel K B S' σ F' H'->Step S S' σ F H F' H'->Paired (fun v u=>iI K B S' σ H F' H' v u) vs us->Q vs H')
structure JU (X:Cx) (es:List Expr) (gu:GU):Prop where
 h:∀B,PA X es (Wx X.K B gu)
 len:∀S us S',gu S=some (us,S')->us.length=es.length
noncomputable def bT:GU:=fun S=>some ([],S)
noncomputable def bC (g:GD) (gu:GU):GU:=fun S=>(g S).bind fun p=>(gu p.2).map fun q=>(.t p.1 :: q.1,q.2)
noncomputable def d9 (g:GE) (gu:GU):GU:=fun S=>(g S).bind fun p=>(gu p.2).map fun q=>(p.1 :: q.1,q.2)
section
variable {X:Cx}{e:Expr}{es:List Expr}{g:GD}{ge:GE}{gu:GU}
def bq:JU X [] bT:=⟨fun B=>nN.imp fun σ H Q hh=>by
 obtain⟨S,F,us,S',R,hg,q⟩:=hh
 cases hg
 exact q [] F H R (Step.refl ..) .nil,fun S us S' h=>by cases h;rfl⟩
def aR (h:JD X e g) (hr:JU X es gu) (hs:starEach (e :: es) X.env=(false,eval e X.env) :: starEach es X.env:=by rfl):JU X (e :: es) (bC g gu):=
 ⟨fun B=>(gm (h.h B) (hr.h B) hs).imp fun σ H Q hh=>by
 obtain⟨S,F,us,S',R,hg,q⟩:=hh
 obtain⟨⟨d,S1⟩,h1,hg⟩:=ah hg
 obtain⟨⟨LN,S2⟩,h2,hg⟩:=ao hg
 cases hg
 exact⟨S,F,d,S1,R,h1,fun v F1 H1 R1 st1 r1=>⟨S1,F1,LN,S2,R1,h2,fun vs F2 H2 R2 st2 r2=>q _ F2 H2 R2 (st1.trans st2) (.cons (r1.le st2.ext.le) (Paired.CF r2 fun _ _ z=>z.weak st1.ext.there))⟩⟩,
 fun S us S' hg=>by
  obtain⟨⟨d,S1⟩,h1,hg⟩:=ah hg
  obtain⟨⟨LN,S2⟩,h2,hg⟩:=ao hg
  cases hg
  show LN.length+1=es.length+1
  rw[hr.len _ _ _ h2]⟩
def dG (h:JE X e ge) (hr:JU X es gu) (hs:starEach (e :: es) X.env=(false,eval e X.env) :: starEach es X.env:=by rfl):JU X (e :: es) (d9 ge gu):=
 ⟨fun B=>(gm (h.h B) (hr.h B) hs).imp fun σ H Q hh=>by
 obtain⟨S,F,us,S',R,hg,q⟩:=hh
 obtain⟨⟨d,S1⟩,h1,hg⟩:=ah hg
 obtain⟨⟨LN,S2⟩,h2,hg⟩:=ao hg
 cases hg
 exact⟨S,F,d,S1,R,h1,fun v F1 H1 R1 st1 r1=>⟨S1,F1,LN,S2,R1,h2,fun vs F2 H2 R2 st2 r2=>q _ F2 H2 R2 (st1.trans st2) (.cons (r1.step st2) (Paired.CF r2 fun _ _ z=>z.weak st1.ext.there))⟩⟩,
 fun S us S' hg=>by
  obtain⟨⟨d,S1⟩,h1,hg⟩:=ah hg
  obtain⟨⟨LN,S2⟩,h2,hg⟩:=ao hg
  cases hg
  show LN.length+1=es.length+1
  rw[hr.len _ _ _ h2]⟩
end
noncomputable def resolve (S:SS):U->Option U
 | .t d=>some (.t d)
 | .v i=>match S[i]? with
  | some (some (.m o))=>some (.b o)
  | some (some (.b o))=>some (.b o)
  | _=>none
 | .m o=>some (.b o)
 | .b _=>none
 | .s ns=>some (.s ns)
 | .f a=>some (.f a)
 | .x C k=>some (.x C k)
def b7 (S:SS):List U->Option (List U)
 | []=>some []
 | u :: us=>(resolve S u).bind fun w=>(b7 S us).map fun ws=>w :: ws
noncomputable def slotsOf:List U->List Nat
 | []=>[]
 | .v i :: us=>i :: slotsOf us
 | _ :: us=>slotsOf us
noncomputable def b6:List U->Nat
 | []=>0
 | .m _ :: us=>b6 us+1
 | _ :: us=>b6 us
noncomputable def wb:List U->List MO->SS->Option SS
 | [],[],S=>some S
 | .v i :: us,o :: outs,S=>match S[i]? with
  | some (some (.m _))=>wb us outs (S.set i (some (.m o)))
  | some (some (.b _))=>wb us outs (S.set i (some (.b o)))
  | _=>none
 | .m _ :: us,_ :: outs,S=>wb us outs S
 | .t _ :: us,outs,S=>wb us outs S
 | .s _ :: us,outs,S=>wb us outs S
 | .f _ :: us,outs,S=>wb us outs S
 | .x _ _ :: us,outs,S=>wb us outs S
 | _,_,_=>none
abbrev FM:=List U->Option (U×List MO)
def aX (f:FM) (gu:GU):GE:=fun S=>(gu S).bind fun p=>
 if(slotsOf p.1).Nodup/\b6 p.1<=1 then(b7 p.2 p.1).bind fun us=>(f us).bind fun r=>(wb p.1 r.2 p.2).map fun S2=>(r.1,S2) else none
def Dh (K:AAA) (F H:Hp) (v:V):U->Prop
 | .s ns=>∃a,v= .ref a/\Iz K H a ns
 | .f a=>v= .ref a
 | .x C k=>m8 F v C k
 | .t d=>Rep F v d
 | .b o=>∃a,v= .ref a/\F a=none/\At F H a o
 | _=>False
noncomputable def addrs:List V->List U->List Addr
 | .ref a :: vs,.b _ :: us=>a :: addrs vs us
 | _ :: vs,_ :: us=>addrs vs us
 | _,_=>[]
structure Post (F H F' H':Hp) (as:List Addr) (outs:List MO):Prop where
 sub:Sub F' H'
 ext:Ext (fun a=>a∈as) F H F' H'
 out:Paired (fun a o=>F' a=none/\At F' H' a o) as outs
def spT (K:AAA) (n:Nat) (f:FM):Sp:=fun vs H Q _=>vs.length=n/\∃F us r outs,Sub F H/\Paired (Dh K F H) vs us/\(addrs vs us).Nodup/\f us=some (r,outs)/\∀v F' H',Post F H F' H' (addrs vs us) outs->C9 H F' H' v r->Q v H'
section
variable {K:AAA}{B:Base}{S S1 S2:SS}{σ:St}{H0 F H F' H':Hp}
def mV {w:U}(h:resolve S (.v i)=some w):∃u o,S[i]? =some (some u)/\eu u=true/\NC u=some o/\w= .b o:=by
 unfold resolve at h
 dsimp only at h
 split at h
 ·rename_i o e;cases h;exact⟨_,o,e,rfl,rfl,rfl⟩
 ·rename_i o e;cases h;exact⟨_,o,e,rfl,rfl,rfl⟩
 ·cases h
theorem mW (R:Rel K B S σ F H):∀{vs:List V}{us ws:List U},Paired (fun v u=>iI K B S σ H0 F H v u) vs us->b7 S us=some ws->Paired (Dh K F H) vs ws
 | _,_,_,.nil,h=>by cases h;exact .nil
 | _,_,_,@Paired.cons _ _ _ v u vs us r rs,h=>by
  obtain⟨w,h1,h⟩:=ah h
  obtain⟨ws,h2,h⟩:=ao h
  subst h
  refine .cons ?_ (mW R rs h2)
  cases u with
  | t d=>cases h1;exact r
  | s d=>cases h1;exact r
  | f d=>cases h1;exact r
  | x cx kx=>cases h1;exact r
  | b o=>cases h1
  | m o=>cases h1;obtain⟨a,e,_,f,k,_⟩:=r;exact⟨a,e,f,k⟩
  | v i=>
   obtain⟨u,o,hu,hm,hi,rfl⟩:=mV h1
   obtain⟨hv,_⟩:=r
   obtain⟨v',k1,k2⟩:=R.rep i u hu
   rw[hv] at k1
   cases k1
   obtain⟨a,o2,e,f,e2,k⟩:=k2.cY hm
   rw[hi] at e2
   cases e2
   exact⟨a,e,f,k⟩
def S4 {v:V}{d:D}:addrs (v :: vs) (.t d :: us)=addrs vs us:=by cases v <;> rfl
def S5 {v:V}{d:List Int}:addrs (v :: vs) (.s d :: us)=addrs vs us:=by cases v <;> rfl
def S6 {v:V}{C:Addr}{k:List (Str×D)}:addrs (v :: vs) (.x C k :: us)=addrs vs us:=by cases v <;> rfl
def S7 {v:V}{d:Addr}:addrs (v :: vs) (.f d :: us)=addrs vs us:=by cases v <;> rfl
theorem o7 (R:Rel K B S σ F H):∀{vs:List V}{us ws:List U},Paired (fun v u=>iI K B S σ H0 F H v u) vs us->b7 S us=some ws->∀a∈addrs vs ws,
  (∃i u,i∈slotsOf us/\S[i]? =some (some u)/\eu u=true/\σ[i]? =some (some (.ref a)))\/(0 < b6 us/\H0 a=none/\B.H a=none/\¬cY S σ a)
 | _,_,_,.nil,h,a,ha=>by cases h;cases ha
 | _,_,_,@Paired.cons _ _ _ v u vs us r rs,h,a,ha=>by
  obtain⟨w,h1,h⟩:=ah h
  obtain⟨ws,h2,h⟩:=ao h
  subst h
  have ih:=o7 R rs h2
  cases u with
  | t d=>
   cases h1
   exact ih a (S4▸ha)
  | s d=>
   cases h1
   exact ih a (S5▸ha)
  | f d=>
   cases h1
   exact ih a (S7▸ha)
  | x cx kx=>
   cases h1
   exact ih a (S6▸ha)
  | b o=>cases h1
  | m o=>
   cases h1
   obtain⟨c,rfl,k0,f,k,n,hB⟩:=r
   rcases Yi.mp (show a∈c :: addrs vs ws from ha) with rfl | ha
   ·exact .inr ⟨Nat.succ_pos _,k0,hB,n⟩
   ·rcases ih a ha with z | ⟨_,z⟩
    ·exact .inl z
    ·exact .inr ⟨Nat.succ_pos _,z⟩
  | v i=>
   obtain⟨u,o,hu,hm,hi,rfl⟩:=mV h1
   obtain⟨hv,_⟩:=r
   obtain⟨v',k1,k2⟩:=R.rep i u hu
   rw[hv] at k1
   cases k1
   obtain⟨c,o2,rfl,f,e2,k⟩:=k2.cY hm
   rcases Yi.mp (show a∈c :: addrs vs ws from ha) with rfl | ha
   ·exact .inl ⟨i,u,Yg,hu,hm,hv⟩
   ·rcases ih a ha with⟨j,w,z,z2⟩ | z
    ·exact .inl ⟨j,w,Yb _ z,z2⟩
    ·exact .inr z
theorem cN (R:Rel K B S σ F H):∀{vs:List V}{us ws:List U},Paired (fun v u=>iI K B S σ H0 F H v u) vs us->b7 S us=some ws->(slotsOf us).Nodup->b6 us<=1->(addrs vs ws).Nodup
 | _,_,_,.nil,h,_,_=>by cases h;exact ZP
 | _,_,_,@Paired.cons _ _ _ v u vs us r rs,h,nd,fr=>by
  obtain⟨w,h1,h⟩:=ah h
  obtain⟨ws,h2,h⟩:=ao h
  subst h
  cases u with
  | t d=>
   cases h1
   rw[S4]
   exact cN R rs h2 nd fr
  | s d=>
   cases h1
   rw[S5]
   exact cN R rs h2 nd fr
  | f d=>
   cases h1
   rw[S7]
   exact cN R rs h2 nd fr
  | x cx kx=>
   cases h1
   rw[S6]
   exact cN R rs h2 nd fr
  | b o=>cases h1
  | m o=>
   cases h1
   have XA:b6 us=0:=by have:b6 us+1<=1:=fr;lia
   obtain⟨c,rfl,k0,f,k,n,hB⟩:=r
   refine YZ.mpr ⟨fun hc=>?_,cN R rs h2 nd (by lia)⟩
   rcases o7 R rs h2 c hc with⟨j,w,_,z1,z2,z3⟩ | ⟨z,_⟩
   ·exact n ⟨j,w,z1,z2,z3⟩
   ·lia
  | v i=>
   obtain⟨u,o,hu,hm,hi,rfl⟩:=mV h1
   obtain⟨hv,_⟩:=r
   obtain⟨v',k1,k2⟩:=R.rep i u hu
   rw[hv] at k1
   cases k1
   obtain⟨c,o2,rfl,f,e2,k⟩:=k2.cY hm
   obtain⟨S8,NF⟩:=YZ.mp (show(i :: slotsOf us).Nodup from nd)
   refine YZ.mpr ⟨fun hc=>?_,cN R rs h2 NF fr⟩
   rcases o7 R rs h2 c hc with⟨j,w,z0,z1,z2,z3⟩ | ⟨_,_,_,z⟩
   ·have:=R.Az i j u w c hu hm z1 z2 hv z3
    subst this
    exact S8 z0
   ·exact z ⟨i,u,hu,hm,hv⟩
theorem kK (R:Rel K B S σ F H) (P:Addr->MO->Prop):∀{vs:List V}{us ws:List U}{outs:List MO}{S1 S2:SS},Paired (fun v u=>iI K B S σ H0 F H v u) vs us->b7 S us=some ws->wb us outs S1=some S2->(slotsOf us).Nodup->Paired P (addrs vs ws) outs->
  S2.length=S1.length/\(∀j,j∉slotsOf us->S2[j]? =S1[j]?)/\∀j∈slotsOf us,∃u u' o a,S1[j]? =some (some u)/\Nz u o=some u'/\S2[j]? =some (some u')/\σ[j]? =some (some (.ref a))/\P a o
 | _,_,_,_,_,_,.nil,h,hw,_,hp=>by
  cases h
  cases hp
  cases hw
  exact⟨rfl,fun _ _=>rfl,fun j hj=>by cases hj⟩
 | _,_,_,outs,S1,S2,@Paired.cons _ _ _ v u vs us r rs,h,hw,nd,hp=>by
  obtain⟨w,h1,h⟩:=ah h
  obtain⟨ws,h2,h⟩:=ao h
  subst h
  cases u with
  | t d=>
   cases h1
   rw[S4] at hp
   have ih:=kK R P rs h2 (show wb us outs S1=some S2 by cases outs <;> exact hw) nd hp
   exact ih
  | s d=>
   cases h1
   rw[S5] at hp
   have ih:=kK R P rs h2 (show wb us outs S1=some S2 by cases outs <;> exact hw) nd hp
   exact ih
  | f d=>
   cases h1
   rw[S7] at hp
   have ih:=kK R P rs h2 (show wb us outs S1=some S2 by cases outs <;> exact hw) nd hp
   exact ih
  | x cx kx=>
   cases h1
   rw[S6] at hp
   have ih:=kK R P rs h2 (show wb us outs S1=some S2 by cases outs <;> exact hw) nd hp
   exact ih
  | b o=>cases h1
  | m o=>
   cases h1
   obtain⟨c,rfl,k0,f,k,n,hB⟩:=r
   cases hp with
   | cons p1 p2=>
    have ih:=kK R P rs h2 (show wb us _ S1=some S2 from hw) nd p2
    exact ih
  | v i=>
   obtain⟨u0,o0,hu,hm,hi,rfl⟩:=mV h1
   obtain⟨hv,_⟩:=r
   obtain⟨v',k1,k2⟩:=R.rep i u0 hu
   rw[hv] at k1
   cases k1
   obtain⟨c,o2,rfl,f,e2,k⟩:=k2.cY hm
   obtain⟨S8,NF⟩:=YZ.mp (show(i :: slotsOf us).Nodup from nd)
   cases hp with
   | @cons _ o _ outs p1 p2=>
    have go:∀u u',S1[i]? =some (some u)->Nz u o=some u'->wb us outs (S1.set i (some u'))=some S2->S2.length=S1.length/\(∀j,j∉i :: slotsOf us->S2[j]? =S1[j]?)/\∀j∈i :: slotsOf us,∃u u' o a,S1[j]? =some (some u)/\Nz u o=some u'/\S2[j]? =some (some u')/\σ[j]? =some (some (.ref a))/\P a o:=fun u u' e1 e2 hw=>by
     obtain⟨l,out,Dg⟩:=kK R P rs h2 hw NF p2
     refine⟨by rw[l,Y0],fun j hj=>?_,fun j hj=>?_⟩
     ·rw[out j fun z=>hj (Yb _ z),Yl fun z=>hj (by rw[z];exact Yg)]
     ·by_cases e:i=j
      ·subst e
       exact⟨u,u',o,c,e1,e2,by rw[out i S8];exact Yw (Ye.mp e1).1,hv,p1⟩
      ·rcases Yi.mp hj with z | z
       ·exact absurd z.symm e
       ·obtain⟨w,w',o',a',q1,q2,q3,q4,q5⟩:=Dg j z
        rw[Yl e] at q1
        exact⟨w,w',o',a',q1,q2,q3,q4,q5⟩
    unfold wb at hw
    split at hw
    ·rename_i o' e;exact go _ _ e rfl hw
    ·rename_i o' e;exact go _ _ e rfl hw
    ·cases hw
end
def gW {S2:SS}{F:Hp}{outs:List MO}(R:Rel K B S σ F H) (st:Step S0 S σ F0 H0 F H) (rr:Paired (fun v u=>iI K B S σ H0 F H v u) vs us) (hr:b7 S us=some ws) (hw:wb us outs S=some S2) (nd:(slotsOf us).Nodup) (p:Post F H F' H' (addrs vs ws) outs):
  Rel K B S2 σ F' H'/\Step S0 S2 σ F0 H0 F' H'/\∀a,cY S2 σ a->cY S σ a:=by
 obtain⟨hl,out,Dg⟩:=kK R (fun a o=>F' a=none/\At F' H' a o) rr hr hw nd p.out
 have Wy:∀{u:U}{o:MO}{u':U},Nz u o=some u'->eu u=true/\eu u'=true/\NC u'=some o:=fun {u o u'} h=>by cases u <;> cases h <;> exact⟨rfl,rfl,rfl⟩
 have orig:∀{j w},S2[j]? =some (some w)->eu w=true->∃w0,S[j]? =some (some w0)/\eu w0=true:=fun {j w} z hm=>by
  by_cases hj:j∈slotsOf us
  ·obtain⟨u,u',o,a,q1,q2,q3,q4,q5⟩:=Dg j hj
   exact⟨u,q1,(Wy q2).1⟩
  ·rw[out j hj] at z;exact⟨w,z,hm⟩
 have mu:∀a,cY S2 σ a->cY S σ a:=fun a ⟨j,w,z,hm,hv⟩=>let⟨w0,q,n⟩:=orig z hm;⟨j,w0,q,n,hv⟩
 have BY:=o7 R rr hr
 refine⟨⟨p.sub,by rw[hl];exact R.len,fun j w z=>?_,fun j k w1 w2 c z1 m1 z2 m2=>?_,fun j o a z hv=>?_,fun j o a z hv=>?_,fun j a z=>?_,?_⟩,⟨⟨?_,?_,?_,?_,fun b o u z=>p.ext.iN b o u (st.ext.iN b o u z)⟩,fun a m=>st.mu a (mu a m),fun j u z=>?_⟩,mu⟩
 ·by_cases hj:j∈slotsOf us
  ·obtain⟨u,u',o,a,q1,q2,q3,q4,q5,q6⟩:=Dg j hj
   rw[q3] at z
   cases z
   refine⟨.ref a,q4,?_⟩
   cases u <;> cases q2
   ·exact⟨a,rfl,q5,q6⟩
   ·exact⟨a,rfl,q5,q6⟩
  ·rw[out j hj] at z
   obtain⟨v,h1,h2⟩:=R.rep j w z
   refine⟨v,h1,h2.le p.ext.le p.ext.iN fun a hm ha=>?_⟩
   have hna:a∉addrs vs ws:=fun hc=>by
    rcases BY a hc with⟨i,u,q0,q1,q2,q3⟩ | ⟨_,_,_,q⟩
    ·have:=R.Az i j u w a q1 q2 z hm q3 (by rw[h1,ha])
     subst this
     exact hj q0
    ·exact q ⟨j,w,z,hm,by rw[h1,ha]⟩
   obtain⟨c,o,e,f,_,k⟩:=h2.cY hm
   rw[ha] at e
   cases e
   obtain⟨ho,hh⟩:=k.has
   exact⟨fun o q=>p.ext.keep a o q hna,p.ext.i9 a ho hh hna f⟩
 ·obtain⟨SW,q1,n1⟩:=orig z1 m1
  obtain⟨SX,q2,n2⟩:=orig z2 m2
  exact R.Az j k SW SX c q1 n1 q2 n2
 ·by_cases hj:j∈slotsOf us
  ·obtain⟨u,u',o',a',q1,q2,q3,q4,q5⟩:=Dg j hj
   rw[q3] at z
   cases z
   cases u <;> cases q2
   exact R.own j _ a q1 hv
  ·rw[out j hj] at z;exact R.own j o a z hv
 ·by_cases hj:j∈slotsOf us
  ·obtain⟨u,u',o',a',q1,q2,q3,q4,q5⟩:=Dg j hj
   rw[q3] at z
   cases z
   cases u <;> cases q2
   exact R.bor j _ a q1 hv
  ·rw[out j hj] at z;exact R.bor j o a z hv
 ·obtain⟨k1,o,k2⟩:=R.par j a z
  refine⟨k1,?_⟩
  by_cases hj:j∈slotsOf us
  ·obtain⟨u,u',o',a',q1,q2,q3,q4,q5⟩:=Dg j hj
   rw[k2] at q1
   cases q1
   cases q2
   exact⟨_,q3⟩
  ·exact⟨o,by rw[out j hj];exact k2⟩
 ·refine R.ext.trans p.ext fun b hb=>?_
  rcases BY b hb with⟨i,u,q0,q1,q2,q3⟩ | ⟨_,_,q,_⟩
  ·cases u with
   | t d=>cases q2
   | v d=>cases q2
   | s d=>cases q2
   | f d=>cases q2
   | x cx kx=>cases q2
   | m o=>exact .inr (R.own i o b q1 q3)
   | b o=>exact .inl (R.bor i o b q1 q3)
  ·exact .inr q
 ·exact fun b o h=>p.ext.le b o (st.ext.le b o h)
 ·intro b o h n
  refine p.ext.keep b o (st.ext.keep b o h n) fun hb=>?_
  rcases BY b hb with⟨i,u,q0,q1,q2,q3⟩ | ⟨_,q,_⟩
  ·exact n (st.mu b ⟨i,u,q1,q2,q3⟩)
  ·rw[h] at q;cases q
 ·intro b o h n f
  refine p.ext.i9 b o (st.ext.keep b o h n) (fun hb=>?_) (st.ext.i9 b o h n f)
  rcases BY b hb with⟨i,u,q0,q1,q2,q3⟩ | ⟨_,q,_⟩
  ·exact n (st.mu b ⟨i,u,q1,q2,q3⟩)
  ·rw[h] at q;cases q
 ·intro b o h
  obtain⟨o',h'⟩:=st.ext.there b o h
  exact p.ext.there b o' h'
 ·obtain⟨u',h'⟩:=st.slots j u z
  by_cases hj:j∈slotsOf us
  ·obtain⟨_,u2,_,_,_,_,q3,_⟩:=Dg j hj
   exact⟨u2,q3⟩
  ·exact⟨u',by rw[out j hj];exact h'⟩
section
variable {X:Cx}{e:Expr}{es:List Expr}{gu:GU}{x:Str}{p pos:Pos}{f:FM}{fa:Addr}{fd:FuncData}{ps:List Str}{k n:Nat}
def IF (F:gU X.prog X.w X.K X.mg X.base uI k fa fd ps (spT X.K n f)) (hr:dN k X.A) (hg:Gl X x) (hm:X.mg x=some (.ref fa)) (hk:PySem.W.keepIn X.K (.ref fa)=true) (hb:Binds X.K fd ps []) (ha:JU X (e :: es) gu) (hn:(e :: es).length=n:=by rfl)
  (hdb:(x == ("__debug__":Str))=false:=by decide) (he:starEach (e :: es) X.env=(false,eval e X.env) :: starEach es X.env:=by rfl) (hpl:(backTo pos (starEach es X.env)).any (·.1)=false:=by rfl):
  JE X (.Call (.Name x p) (e :: es) [] pos) (aX f gu):=⟨fun B=>(HY F hr hg hm hk hb .nil KG (ha.h B) hdb he hpl).imp fun σ H Q hh=>by
 obtain⟨S,F0,u,S',R,hg,q⟩:=hh
 obtain⟨⟨us,S1⟩,h1,hg⟩:=ah hg
 dsimp only at hg
 split at hg
 ·rename_i hc
  obtain⟨ws,h2,hg⟩:=ah hg
  obtain⟨⟨r,outs⟩,h3,hg⟩:=ah hg
  obtain⟨S2,h4,hg⟩:=ao hg
  cases hg
  refine⟨S,F0,us,S1,R,h1,fun vs F1 H1 R1 st1 rr=>?_⟩
  show spT X.K n f (vs++[]) H1 Q E0
  rw[Zr]
  have hlen:vs.length=n:=by rw[rr.length,ha.len _ _ _ h1];exact hn
  refine⟨hlen,F1,ws,r,outs,R1.sub,mW R1 rr h2,cN R1 rr h2 hc.1 hc.2,h3,fun v F2 H2 po rn=>?_⟩
  obtain⟨R2,st2,mu⟩:=gW R1 st1 rr h2 h4 hc.1 po
  refine q v F2 H2 R2 st2 ?_
  cases r with
  | t d=>exact rn
  | b o=>cases rn
  | v i=>cases rn
  | s i=>cases rn
  | f i=>cases rn
  | x cx kx=>cases rn
  | m o=>
   obtain⟨a,e,h0,f,h⟩:=rn
   refine⟨a,e,none_of st1.ext.there h0,f,h,fun m=>?_,none_of R1.ext.there h0⟩
   obtain⟨o',ho⟩:=R1.has (mu a m)
   rw[h0] at ho
   cases ho
 ·cases hg⟩
end
noncomputable def aL:List U->SS->Option (List MO)
 | [],_=>some []
 | .b _ :: us,some (.b o) :: S=>(aL us S).map fun os=>o :: os
 | .b _ :: _,_=>none
 | _ :: us,_ :: S=>aL us S
 | _ :: _,[]=>none
def bM (n:Nat) (g:GS):FM:=fun us=>(g (us.map some++List.replicate (n - us.length) none)).bind fun o=>match o with
 | .rt (.t d) S=>(aL us S).map fun os=>(.t d,os)
 | .rt (.m o) S=>(aL us S).map fun os=>(.m o,os)
 | .nx S=>(aL us S).map fun os=>(.t .cz,os)
 | _=>none
noncomputable def lent:List V->List U->List (Option Addr)
 | .ref a :: vs,.b _ :: us=>some a :: lent vs us
 | _ :: vs,_ :: us=>none :: lent vs us
 | _,_=>[]
theorem lP:∀(vs:List V) (us:List U) (a:Addr),some a∈lent vs us↔a∈addrs vs us
 | [],us,a=>by cases us <;> simp[lent,addrs]
 | v :: vs,[],a=>by cases v <;> simp[lent,addrs]
 | v :: vs,u :: us,a=>by
  have ih:=lP vs us a
  cases v <;> cases u <;> simp[lent,addrs,ih]
theorem yJ:∀{vs:List V}{us:List U}{i:Nat}{a:Addr},(lent vs us)[i]? =some (some a)->vs[i]? =some (.ref a)/\∃o,us[i]? =some (.b o)
 | [],us,i,a,h=>by cases us <;> simp[lent] at h
 | v :: vs,[],i,a,h=>by cases v <;> simp[lent] at h
 | v :: vs,u :: us,0,a,h=>by
  cases v <;> cases u <;> simp[lent] at h
  subst h
  exact⟨rfl,_,rfl⟩
 | v :: vs,u :: us,i+1,a,h=>by
  have h':(lent vs us)[i]? =some (some a):=by cases v <;> cases u <;> simpa[lent] using h
  simpa using yJ h'
theorem wX {K:AAA}:∀{F H:Hp}{vs:List V}{us:List U}{i:Nat}{o:MO},Paired (Dh K F H) vs us->us[i]? =some (.b o)->∃a,vs[i]? =some (.ref a)/\(lent vs us)[i]? =some (some a)/\F a=none/\At F H a o
 | _,_,_,_,_,_,.nil,h=>by simp at h
 | _,_,_,_,0,o,@Paired.cons _ _ _ v u vs us r rs,h=>by
  simp at h
  subst h
  obtain⟨a,rfl,f,k⟩:=r
  exact⟨a,rfl,rfl,f,k⟩
 | _,_,_,_,i+1,o,@Paired.cons _ _ _ v u vs us r rs,h=>by
  obtain⟨a,h1,h2,h3⟩:=wX (i:=i) rs (by simpa using h)
  refine⟨a,by simpa using h1,?_,h3⟩
  cases v <;> cases u <;> simpa[lent] using h2
theorem vv:∀{vs:List V}{us:List U}{i j:Nat}{a:Addr},(addrs vs us).Nodup->(lent vs us)[i]? =some (some a)->(lent vs us)[j]? =some (some a)->i=j
 | [],us,i,j,a,_,h,_=>by cases us <;> simp[lent] at h
 | v :: vs,[],i,j,a,_,h,_=>by cases v <;> simp[lent] at h
 | v :: vs,u :: us,i,j,a,nd,h1,h2=>by
  have ih:∀{i j},(addrs vs us).Nodup->(lent vs us)[i]? =some (some a)->(lent vs us)[j]? =some (some a)->i=j:=fun {i j}=>vv (i:=i) (j:=j)
  by_cases S9:∃c o,v= .ref c/\u= .b o
  ·obtain⟨c,o,rfl,rfl⟩:=S9
   obtain⟨n1,n2⟩:=YZ.mp (show(c :: addrs vs us).Nodup from nd)
   cases i with
   | zero=>
    cases j with
    | zero=>rfl
    | succ j=>
     have e1:c=a:=by simpa[lent] using h1
     have e2:(lent vs us)[j]? =some (some a):=by simpa[lent] using h2
     subst e1
     exact absurd ((lP vs us c).mp (YH e2)) n1
   | succ i=>
    have e1:(lent vs us)[i]? =some (some a):=by simpa[lent] using h1
    cases j with
    | zero=>
     have e2:c=a:=by simpa[lent] using h2
     subst e2
     exact absurd ((lP vs us c).mp (YH e1)) n1
    | succ j=>exact congrArg Nat.succ (ih n2 e1 (by simpa[lent] using h2))
  ·have e1:lent (v :: vs) (u :: us)=none :: lent vs us:=by cases v <;> cases u <;> first | rfl | exact absurd ⟨_,_,rfl,rfl⟩ S9
   have e2:addrs (v :: vs) (u :: us)=addrs vs us:=by cases v <;> cases u <;> first | rfl | exact absurd ⟨_,_,rfl,rfl⟩ S9
   rw[e1] at h1 h2
   rw[e2] at nd
   cases i with
   | zero=>simp at h1
   | succ i=>
    cases j with
    | zero=>simp at h2
    | succ j=>exact congrArg Nat.succ (ih nd (by simpa using h1) (by simpa using h2))
theorem nW {α β:Type}{P:α->β->Prop}:∀{l:List α}{r:List β}{i:Nat}{y:β},Paired P l r->r[i]? =some y->∃x,l[i]? =some x/\P x y
 | _,_,_,_,.nil,h=>by simp at h
 | _,_,0,_,.cons p _,h=>by simp at h;subst h;exact⟨_,rfl,p⟩
 | _,_,i+1,_,.cons _ ps,h=>by
  obtain⟨x,h1,h2⟩:=nW (i:=i) ps (by simpa using h)
  exact⟨x,by simpa using h1,h2⟩
def j7 {F:Hp}(sb:Sub F H) (ar:Paired (Dh K F H) vs us) (nd:(addrs vs us).Nodup) (N:List Str) (hN:N.length=n):
  Rel K ⟨lent vs us,F,H⟩ (us.map some++List.replicate (n - us.length) none) (start N vs) F H:=by
 have hl:vs.length=us.length:=ar.length
 have gS:∀{i:Nat}{u:U},(us.map some++List.replicate (n - us.length) none)[i]? =some (some u)->us[i]? =some u:=fun {i u} h=>by
  rw[List.getElem?_append] at h
  split at h
  ·rw[Yu] at h
   obtain⟨w,h1,h2⟩:=ao h
   cases h2
   exact h1
  ·rw[aaI] at h
   split at h <;> cases h
 have Tc:∀{i:Nat}{v:V},vs[i]? =some v->(start N vs)[i]? =some (some v):=fun {i v} h=>by
  unfold start
  have hi:=(Ye.mp h).1
  rw[Zk (by simpa using hi),Yu,h]
  rfl
 have vb:∀{i:Nat}{v w:V},vs[i]? =some v->(start N vs)[i]? =some (some w)->v=w:=fun {i v w} h k=>by
  rw[Tc h] at k
  cases k
  rfl
 have IG:∀{i:Nat}{u:U},us[i]? =some u->eu u=true->∃o a,u= .b o/\vs[i]? =some (.ref a)/\(lent vs us)[i]? =some (some a)/\F a=none/\At F H a o:=fun {i u} h hm=>by
  obtain⟨v,h1,h2⟩:=nW ar h
  cases u with
  | t d=>cases hm
  | v d=>cases hm
  | s d=>cases hm
  | f d=>cases hm
  | x cx kx=>cases hm
  | m o=>cases h2
  | b o=>obtain⟨a,k1,k2,k3,k4⟩:=wX ar h;exact⟨o,a,rfl,k1,k2,k3,k4⟩
 refine⟨sb,?_,fun i u h=>?_,fun i j u w a h1 m1 h2 m2 v1 v2=>?_,fun i o a h hv=>?_,fun i o a h hv=>?_,fun i a h=>?_,Ext.refl ..⟩
 ·unfold start;simp[hl,hN]
 ·obtain⟨v,h1,h2⟩:=nW ar (gS h)
  refine⟨v,Tc h1,?_⟩
  cases u with
  | t d=>exact h2
  | s d=>exact h2
  | f d=>exact h2
  | x cx kx=>exact h2
  | v d=>cases h2
  | m o=>cases h2
  | b o=>exact h2
 ·obtain⟨_,a1,_,k1,k2,_⟩:=IG (gS h1) m1
  obtain⟨_,a2,_,l1,l2,_⟩:=IG (gS h2) m2
  have e1:=vb k1 v1
  have e2:=vb l1 v2
  cases e1
  cases e2
  exact vv nd k2 l2
 ·obtain⟨_,_,e,_⟩:=IG (gS h) rfl
  cases e
 ·obtain⟨_,a1,_,k1,k2,_⟩:=IG (gS h) rfl
  have e1:=vb k1 hv
  cases e1
  exact YH k2
 ·obtain⟨k1,o,k2⟩:=yJ h
  refine⟨Tc k1,o,?_⟩
  have hi:=(Ye.mp k2).1
  rw[Zk (by simpa using hi),Yu,k2]
  rfl
def O7 {v:V}(hu:¬∃o,u= .b o):addrs (v :: vs) (u :: us)=addrs vs us/\lent (v :: vs) (u :: us)=none :: lent vs us/\(∀s S os,aL (u :: us) (s :: S)=some os->aL us S=some os)/\∀os,¬aL (u :: us) []=some os:=by
 cases v <;> cases u <;> first | exact⟨rfl,rfl,fun _ _ _ h=>h,fun _ h=>by cases h⟩ | exact absurd ⟨_,rfl⟩ hu
theorem wY {F' H':Hp}:∀{vs:List V}{us:List U}{S:SS}{os:List MO},aL us S=some os->vs.length=us.length->(∀(i:Nat) (o:MO) (a:Addr),(lent vs us)[i]? =some (some a)->S[i]? =some (some (.b o))->F' a=none/\At F' H' a o)->(∀(i:Nat) (o:MO),us[i]? =some (.b o)->∃a,vs[i]? =some (.ref a))->
  Paired (fun a o=>F' a=none/\At F' H' a o) (addrs vs us) os
 | [],[],S,os,h,_,_,_=>by cases S <;> (simp[aL] at h;subst h;exact .nil)
 | [],_ :: _,_,_,_,l,_,_=>by cases l
 | _ :: _,[],_,_,_,l,_,_=>by cases l
 | v :: vs,u :: us,S,os,h,l,k,kb=>by
  have l':vs.length=us.length:=by simpa using l
  have kb':∀(i:Nat) (o:MO),us[i]? =some (.b o)->∃a,vs[i]? =some (.ref a):=fun i o z=>kb (i+1) o z
  by_cases hu:∃o,u= .b o
  ·obtain⟨o,rfl⟩:=hu
   obtain⟨a,ha⟩:=kb 0 o rfl
   have ha:v= .ref a:=by simpa using ha
   subst ha
   cases S with
   | nil=>cases h
   | cons s S=>
    cases s with
    | none=>cases h
    | some s=>
     cases s with
     | b o'=>
      obtain⟨os',h1,h2⟩:=ao (show(aL us S).map (fun os=>o' :: os)=some os from h)
      subst h2
      exact .cons (k 0 o' a rfl rfl) (wY h1 l' (fun i o a z1 z2=>k (i+1) o a z1 z2) kb')
     | t d=>cases h
     | m d=>cases h
     | v d=>cases h
     | s d=>cases h
     | f d=>cases h
     | x cx kx=>cases h
  ·obtain⟨e2,e1,e3⟩:=O7 (v:=v) (vs:=vs) (us:=us) hu
   rw[e2]
   cases S with
   | nil=>exact absurd h (e3.2 os)
   | cons s S=>exact wY (e3.1 s S os h) l' (fun i o a z1 z2=>k (i+1) o a (by rw[e1];exact z1) z2) kb'
def post_of (ar:Paired (Dh K F0 H) vs us) (S':SS) (σ':St) (F' H':Hp) (os:List MO) (R':Rel K ⟨lent vs us,F0,H⟩ S' σ' F' H') (ho':aL us S'=some os):Post F0 H F' H' (addrs vs us) os:=by
 refine⟨R'.sub,⟨R'.ext.le,fun b o z n=>R'.ext.keep b o z fun m=>n ((lP vs us b).mp m),fun b o z n=>R'.ext.i9 b o z fun m=>n ((lP vs us b).mp m),R'.ext.there,R'.ext.iN⟩,wY ho' ar.length (fun i o a z1 z2=>?_) fun i o z=>?_⟩
 ·obtain⟨k1,o2,k2⟩:=R'.par i a z1
  obtain⟨v,j1,j2⟩:=R'.rep i _ z2
  rw[k1] at j1
  cases j1
  obtain⟨c,e,f,k⟩:=j2
  cases e
  exact⟨f,k⟩
 ·obtain⟨a,h1,_⟩:=wX ar z
  exact⟨a,h1⟩
section
variable {P:Program}{w:World}{K:AAA}{mg:AAC}{base:Heap}
def Vs {x qual:Str}{st:Stmt}{f:Addr}{fd:FuncData}{N ps:List Str}{k:Nat}{fm:FM}{g:GS}(F:C3 K x qual st f fd) (Sc:bF N ps (aF st))
  (hb:∀(cdv:Value) (A:Around) (outer:List Env) (s:Shared) (H:Hp) (E:XK),dN k (A.deeper (envOfC qual (aF st) s.heap.objs.size f cdv))->JB (pW uI P w K mg base N qual (aF st) f cdv A outer s H E).HA (dD st) g)
  (hf:∀us r,fm us=some r->bM N.length g us=some r):gU P w K mg base uI (k+1) f fd ps (spT K ps.length fm):=by
 refine F.ok Sc (fun vs H Q E h=>h.1) fun cdv A outer s H vs Q E hr h=>?_
 obtain⟨hlen,F0,us,r,outs,sb,ar,nd,hfm,q⟩:=h
 have hrun:=hf us (r,outs) hfm
 have J:=hb cdv A outer s H E hr
 refine⟨_,J.h ⟨lent vs us,F0,H⟩,?_⟩
 have R0:=j7 sb ar nd N rfl
 obtain⟨o,ho,hrun⟩:=ah hrun
 refine⟨_,F0,o,R0,ho,?_⟩
 have post:=post_of ar
 cases o with
 | bk S'=>cases hrun
 | ct S'=>cases hrun
 | nx S'=>
  obtain⟨os,h1,h2⟩:=ao (show(aL us S').map _=some (r,outs) from hrun)
  cases h2
  exact fun σ' F' H' R' le=>q .cz F' H' (post S' σ' F' H' outs R' h1) .cz
 | rt u S'=>
  cases u with
  | b o=>cases hrun
  | v i=>cases hrun
  | s i=>cases hrun
  | f i=>cases hrun
  | x cx kx=>cases hrun
  | t d=>
   obtain⟨os,h1,h2⟩:=ao (show(aL us S').map _=some (r,outs) from hrun)
   cases h2
   exact fun v σ' F' H' R' le rr=>q v F' H' (post S' σ' F' H' outs R' h1) rr
  | m o=>
   obtain⟨os,h1,h2⟩:=ao (show(aL us S').map _=some (r,outs) from hrun)
   cases h2
   exact fun v σ' F' H' R' le rr=>q v F' H' (post S' σ' F' H' outs R' h1) (by obtain⟨a,e,h0,f,h,n,hB⟩:=rr;exact⟨a,e,hB,f,h⟩)
end
noncomputable def sF (S:SS) (i:Nat):Option U:=match S[i]? with
 | some (some (.t d))=>some (.t d)
 | some (some (.s d))=>some (.s d)
 | some (some (.f d))=>some (.f d)
 | some (some (.m _))=>some (.v i)
 | some (some (.b _))=>some (.v i)
 | _=>none
def gw (S:SS):List Nat->Option (List U)
 | []=>some []
 | i :: cap=>(sF S i).bind fun u=>(gw S cap).map fun us=>u :: us
noncomputable def nB:GT:=fun S=>some (true,S)
def iP (cap:List Nat) (q:GT) (g:GD):List D->SS->List D->Option (List D×SS)
 | [],S,acc=>some (acc,S)
 | d :: ds,S,acc=>(gw S cap).bind fun us=>
  if(slotsOf us).Nodup/\b6 us<=1 then(b7 S us).bind fun ws=>(q (XU d :: ws.map some)).bind fun p=>
   if p.1 then(g p.2).bind fun r=>(aL (.t d :: ws) r.2).bind fun outs=>(wb us outs S).bind fun S'=>iP cap q g ds S' (acc++[r.1])
   else(aL (.t d :: ws) p.2).bind fun outs=>(wb us outs S).bind fun S'=>iP cap q g ds S' acc
  else none
def sG (cap:List Nat) (gi:GI) (q:GT) (g:GD):GE:=fun S=>(gi S).bind fun p=>if p.1.length<=100000 then(iP cap q g p.1 p.2 []).map fun r=>(.m (.lst r.1),r.2) else none
structure O8 (X:Cx) (es:List Expr) (q:GT):Prop where
 h:∀B,Im X es (tQ X.K B q)
def mX :O8 X [] nB:=⟨fun B pins s σ H Q I ⟨S,F,b,S',R,hg,q⟩=>by cases hg;exact Io pins s σ H Q I (q F H R (Step.refl ..))⟩
def BZ {c:Expr}(h:JT X c q):O8 X [c] q:=⟨fun B=>Ip (h.h B)⟩
theorem AJ {K:AAA}{B:Base}{S:SS}{σ:St}{F H:Hp}(R:Rel K B S σ F H):∀{cap:List Nat}{us:List U},gw S cap=some us->∃vs:List V,c8 cap σ=vs.map some/\Paired (fun v u=>iI K B S σ H F H v u) vs us
 | [],us,h=>by cases h;exact⟨[],rfl,.nil⟩
 | i :: cap,us,h=>by
  obtain⟨u,h1,h⟩:=ah h
  obtain⟨us',h2,h⟩:=ao h
  subst h
  obtain⟨vs,k1,k2⟩:=AJ R h2
  have one:∀w,S[i]? =some (some w)->∃v,σ[i]? =some (some v)/\yE K F H v w:=R.rep i
  unfold sF at h1
  have fin:∀v,σ[i]? =some (some v)->iI K B S σ H F H v u->∃vs:List V,c8 (i :: cap) σ=vs.map some/\Paired (fun v u=>iI K B S σ H F H v u) vs (u :: us'):=fun v e r=>
   ⟨v :: vs,by show(σ[i]?).join :: c8 cap σ=_;rw[e,k1];rfl,.cons r k2⟩
  split at h1
  ·rename_i d e
   cases h1
   obtain⟨v,e1,r⟩:=one _ e
   exact fin v e1 r
  ·rename_i d e
   cases h1
   obtain⟨v,e1,r⟩:=one _ e
   exact fin v e1 r
  ·rename_i d e
   cases h1
   obtain⟨v,e1,r⟩:=one _ e
   exact fin v e1 r
  ·rename_i o e
   cases h1
   obtain⟨v,e1,r⟩:=one _ e
   exact fin v e1 ⟨e1,_,e⟩
  ·rename_i o e
   cases h1
   obtain⟨v,e1,r⟩:=one _ e
   exact fin v e1 ⟨e1,_,e⟩
  ·cases h1
def o8 {F:Hp}(R:Rel K B S σ F H) (d:D)(h:b7 S us=some ws):b7 S (.t d :: us)=some (.t d :: ws):=by
 show(some (U.t d)).bind _=_
 show(b7 S us).map _=_
 rw[h]
 rfl
inductive KO (K:AAA) (B:Base) (S:SS) (σ:St) (F H F1:Hp) (lp:List D->SS->List D->Option (List D×SS)) (ds:List D) (r:List D×SS) (i m:Nat) (ys:List V) (H':Hp):Prop
 | mk (S2:SS) (F2:Hp) (acc:List D) (R:Rel K B S2 σ F2 H') (st:Step S S2 σ F H F2 H') (le:∀b o,F1 b=some o->F2 b=some o) (ry:bz F2 ys acc) (ha:acc.length<=i) (hl:i<=ds.length) (hm:m=ds.length - i) (e:lp (ds.drop i) S2 acc=some r)
def Fd {Q:VK}(h:tE K B (sG cap gi q g) σ H Q):OQ (SV K B gi) cap (fun σ H Q=>∃B,tQ K B q σ H Q) (fun σ H Q=>∃B,tD K B g σ H Q) σ H Q:=by
 obtain⟨x,_⟩:∃x:Str,True:=⟨"",trivial⟩
 obtain⟨S,F,u,S',R,hg,k⟩:=h
 obtain⟨⟨ds,S1⟩,h1,hg⟩:=ah hg
 dsimp only at hg
 split at hg
 ·rename_i hlen
  obtain⟨⟨res,Sf⟩,h2,hg⟩:=ao hg
  cases hg
  refine⟨S,F,ds,S1,R,h1,fun J F1 H1 R1 st1 w=>?_⟩
  refine⟨KO K B S σ F H F1 (iP cap q g) ds (res,Sf),
   ⟨_,S1,F1,[],R1,st1,fun _ _ z=>z,.nil,X6 _,Y4 _,rfl,h2⟩,?_⟩
  rintro i m ys H' ⟨S2,F2,acc,R2,st2,le,ry,ha,hl,rfl,cJ⟩
  refine⟨by rw[ry.length];exact ZM (Yc ha (Yc hl hlen)) (by decide),?_⟩
  have w':=w F2 H' le R2.sub i
  by_cases hlt:i < ds.length
  ·have hd:ds[i]? =some ds[i]:=Yo hlt
   obtain⟨go,yl⟩:=w'.1 _ hd
   rw[YC hlt] at cJ
   refine .inr ⟨go,fun xv H3 y=>?_⟩
   obtain⟨rfl,rx⟩:=yl xv H3 y
   obtain⟨us,e1,cJ⟩:=ah cJ
   skip
   split at cJ
   ·rename_i hnd
    obtain⟨ws,e2,cJ⟩:=ah cJ
    obtain⟨⟨bk,T1⟩,e3,cJ⟩:=ah cJ
    obtain⟨vs,k1,k2⟩:=AJ R2 e1
    have rr:Paired (fun v u=>iI K B S2 σ H3 F2 H3 v u) (xv :: vs) (.t ds[i] :: us):=.cons rx k2
    have er:=o8 R2 ds[i] e2
    have ar:=mW R2 rr er
    have nd:=cN R2 rr er hnd.1 hnd.2
    have R3:=j7 (n:=ws.length+1) R2.sub ar nd (List.replicate (ws.length+1) x) (by simp)
    have hvl:vs.length=ws.length:=by have:=ar.length;simpa using this
    have es:start (List.replicate (ws.length+1) x) (xv :: vs)=some xv :: c8 cap σ:=by
     unfold start;rw[k1];simp[hvl]
    have eS:(U.t ds[i] :: ws).map some++List.replicate (ws.length+1 - (U.t ds[i] :: ws).length) none=some (U.t ds[i]) :: ws.map some:=by simp
    rw[es,eS] at R3
    have back:∀(T2:SS) (F3 H4:Hp) (outs:List MO) (S3:SS),Rel K ⟨lent (xv :: vs) (U.t ds[i] :: ws),F2,H3⟩ T2 (some xv :: c8 cap σ) F3 H4->aL (U.t ds[i] :: ws) T2=some outs->wb us outs S2=some S3->Rel K B S3 σ F3 H4/\Step S S3 σ F H F3 H4/\(∀b o,F2 b=some o->F3 b=some o):=fun T2 F3 H4 outs S3 RT ho hw=>by
     have po:=post_of ar T2 _ F3 H4 outs RT ho
     obtain⟨Ra,vA,_⟩:=gW (S0:=S2) (F0:=F2) (H0:=H3) R2 (Step.refl ..) rr er (show wb (U.t ds[i] :: us) outs S2=some S3 by cases outs <;> exact hw) hnd.1 po
     exact⟨Ra,st2.trans vA,vA.ext.le⟩
    refine⟨_,_,F2,bk,T1,R3,e3,fun F3 H4 KP O9=>?_⟩
    cases bk with
    | true=>
     obtain⟨⟨yd,T2⟩,e4,cJ⟩:=ah (show(g T1).bind _=_ from cJ)
     obtain⟨outs,e5,cJ⟩:=ah cJ
     obtain⟨S3,e6,cJ⟩:=ah cJ
     refine wR ⟨_,T1,F3,yd,T2,KP,e4,fun yv F4 H5 Pa Pb Pc=>?_⟩
     obtain⟨Ra,vA,AK⟩:=back T2 F4 H5 outs S3 Pa e5 e6
     refine⟨ds.length - (i+1),by lia,S3,F4,acc++[yd],Ra,vA,fun b o z=>AK b o (le b o z),(ry.le AK).append (.cons Pc .nil),by simp;lia,hlt,rfl,cJ⟩
    | false=>
     obtain⟨outs,e5,cJ⟩:=ah (show(aL (U.t ds[i] :: ws) T1).bind _=_ from cJ)
     obtain⟨S3,e6,cJ⟩:=ah cJ
     obtain⟨Ra,vA,AK⟩:=back T1 F3 H4 outs S3 KP e5 e6
     exact wQ ⟨ds.length - (i+1),by lia,S3,F3,acc,Ra,vA,fun b o z=>AK b o (le b o z),ry.le AK,by lia,hlt,rfl,cJ⟩
   ·cases cJ
  ·have e:i=ds.length:=by lia
   subst e
   rw[Zm] at cJ
   cases cJ
   refine .inl ⟨w'.2 (X6 _),fun p hp=>?_⟩
   have n:=fH.obj (F:=F2) hp (.lst ys)
   refine k (.ref p) F2 _ (R2.new n (R2.sub.same n.same)) (st2.trans n.step) ⟨p,rfl,none_of st2.ext.there hp,R2.sub.fresh hp,⟨ys,aH,ry⟩,fun m=>?_,none_of R2.ext.there hp⟩
   obtain⟨o,ho⟩:=R2.has m
   rw[hp] at ho
   cases ho
 ·cases hg
def rJ {elt:Expr}{ifs:List Expr}{x:Str}{px pos:Pos}(T:fh X x bX cap scope cl) (hc:X.calm=true) (hi:JI X (.Name x px) iter gi)
  (ht:∀C s H fp,O8 (cV X (x :: bX) scope cl C s H fp) ifs q) (he:∀C s H fp,JD (cV X (x :: bX) scope cl C s H fp) elt g)
  (hs:∀x,foldedSetIterable iter X.env x=pure x:=by intro _;rfl):JE X (.ListComp elt [⟨.Name x px,iter,ifs,0⟩] scope pos) (sG cap gi q g):=⟨fun B=>by
 exact(yz (tc:=fun σ H Q=>∃B,tQ X.K B q σ H Q) (te:=fun σ H Q=>∃B,tD X.K B g σ H Q) T hc (hi.h B) (fun C s H fp pins s' σ H' Q I ⟨B',z⟩=>(ht C s H fp).h B' pins s' σ H' Q I z) (fun C s H fp pins s' σ H' Q I ⟨B',z⟩=>(he C s H fp).h B' pins s' σ H' Q I z) hs).imp fun σ H Q h=>Fd h⟩
mutual
noncomputable def kL:D->D->Bool
 | .cz,.cz=>true
 | .bl a,.bl b=>a == b
 | .int a,.int b=>a == b
 | .bl a,.int b=>(if a then 1 else 0) == b
 | .int a,.bl b=>a == (if b then 1 else 0)
 | .str a,.str b=>a == b
 | .tup a,.tup b=>nY a b
 | .lst a,.lst b=>nY a b
 | _,_=>false
noncomputable def nY:List D->List D->Bool
 | [],[]=>true
 | a :: as,b :: bs=>kL a b && nY as bs
 | _,_=>false
end
mutual
noncomputable def lz:D->Nat
 | .tup ds=>cy ds+1
 | .lst ds=>cy ds+1
 | _=>0
noncomputable def cy:List D->Nat
 | []=>0
 | d :: ds=>max (lz d) (cy ds)
end
mutual
theorem yK:∀d:D,kL d d=true
 | .cz=>rfl
 | .bl a=>by simp[kL]
 | .int a=>by simp[kL]
 | .str a=>by simp[kL]
 | .tup a=>by unfold kL;exact j8 a
 | .lst a=>by unfold kL;exact j8 a
theorem j8:∀ds:List D,nY ds ds=true
 | []=>rfl
 | d :: ds=>by unfold nY;rw[yK d,j8 ds];rfl
end
def nC (as bs:List D) (j:Nat):Bool:=match as[j]?,bs[j]? with
 | some a,some b=>kL a b
 | _,_=>true
def sH (n:Nat) (e:Nat->Bool):(List.range (n+1)).all e=(e 0 && (List.range n).all fun j=>e (j+1)):=by
 rw[ZV,YU,List.all_map]
 rfl
theorem lQ:∀{as bs:List D},as.length≠bs.length->nY as bs=false
 | [],[],h=>absurd rfl h
 | [],_ :: _,_=>rfl
 | _ :: _,[],_=>rfl
 | a :: as,b :: bs,h=>by
  unfold nY
  rw[lQ (as:=as) (bs:=bs) (fun z=>h (by simp[z])),aaM]
theorem jg:∀{as bs:List D},as.length=bs.length->(List.range as.length).all (nC as bs)=nY as bs
 | [],[],_=>rfl
 | [],_ :: _,h=>by cases h
 | _ :: _,[],h=>by cases h
 | a :: as,b :: bs,h=>by
  have h':as.length=bs.length:=by simpa using h
  show(List.range (as.length+1)).all _=_
  rw[sH]
  unfold nY
  have ih:=jg h'
  have e:(fun j=>nC (a :: as) (b :: bs) (j+1))=nC as bs:=by funext j;kernel_rfl
  rw[e,ih]
  rfl
def II {F:Hp}{ws:List V}(h:Rd F a (.lst vs)) (h':Rd F a (.lst ws)):vs=ws:=by
 rcases h with e1 | ⟨o,e1⟩ <;> rcases h' with e2 | ⟨o',e2⟩ <;> (rw[e1] at e2;cases e2) <;> rfl
mutual
theorem Rep.uniq {F:Hp}:∀{v:V}{d e:D},Rep F v d->Rep F v e->d=e
 | _,_,_,.cz,r=>by cases r;rfl
 | _,_,_,.bl b,r=>by cases r;rfl
 | _,_,_,.int b,r=>by cases r;rfl
 | _,_,_,.str b,r=>by cases r;rfl
 | _,_,_,.tup e1 r1,r=>by
  cases r with
  | tup e2 r2=>rw[e1] at e2;cases e2;rw[bz.uniq r1 r2]
  | lst e2 r2=>rcases e2 with e2 | ⟨o,e2⟩ <;> (rw[e1] at e2;cases e2)
 | _,_,_,.lst e1 r1,r=>by
  cases r with
  | tup e2 r2=>rcases e1 with e1 | ⟨o,e1⟩ <;> (rw[e1] at e2;cases e2)
  | lst e2 r2=>rcases e1 with e1 | ⟨o,e1⟩ <;> rcases e2 with e2 | ⟨o',e2⟩ <;> (rw[e1] at e2;cases e2) <;> rw[bz.uniq r1 r2]
theorem bz.uniq {F:Hp}:∀{vs:List V}{ds es:List D},bz F vs ds->bz F vs es->ds=es
 | _,_,_,.nil,r=>by cases r;rfl
 | _,_,_,.cons r1 s1,r=>by
  cases r with
  | cons r2 s2=>rw[Rep.uniq r1 r2,bz.uniq s1 s2]
end
section
variable {X:Cx}{pins:AAD}{σ:St}{F H:Hp}{s:Shared}
def Sub.isTup (I:Inv X pins σ H s) (sb:Sub F H)(h:F a=some (.tup vs)):∃its:List Value,Vals vs its/\s.heap.IsTuple a its.toArray:=by
 obtain⟨its,rv,p,_⟩:=I.tuple (.inl (Rd.of (sb a _ h)))
 exact⟨its,rv,p⟩
def Sub.dB (I:Inv X pins σ H s) (sb:Sub F H)(h:Rd F a (.lst vs)):∃its:List Value,Vals vs its/\s.heap.IsList a its.toArray:=by
 obtain⟨its,rv,p,_⟩:=I.list (.inl (h.imp (sb a _) fun⟨o,z⟩=>⟨o,sb a _ z⟩))
 exact⟨its,rv,p.isList⟩
def ig (A:Around) (s:Shared) (its bZ:AAI) (ds es:List D):Prop:=∀j (h1:j < its.toArray.size) (h2:j < bZ.toArray.size),SeqAt.EqAt A.in1 s its.toArray[j] bZ.toArray[j] (nC ds es j)
def B6 {m:Nat}(h:n=m) (e:Nat->Bool):((List.range (min n m)).all e && n == m)=(List.range n).all e:=by
 subst h;simp
def o9 (hu:A.units < cLine) (pa:s.heap.IsTuple ca dZ.toArray) (pb:s.heap.IsTuple cb bZ.toArray) (la:dZ.length=ds.length) (lb:bZ.length=es.length) (h:ig A s dZ bZ ds es):
  SeqAt.RcAt A s (.ref ca) (.ref cb) (nY ds es):=by
 have q:=SeqAt.RcAt.tuples (e:=nC ds es) pa pb hu h
 rw[X0,X0,la,lb] at q
 by_cases hl:ds.length=es.length
 ·rw[B6 hl,jg hl] at q;exact q
 ·rw[lQ hl]
  have:(ds.length == es.length)=false:=by simpa using hl
  rw[this,aaM] at q
  exact q
def sJ (hu:A.units < cLine) (pa:s.heap.IsTuple ca dZ.toArray) (pb:s.heap.IsTuple cb bZ.toArray) (la:dZ.length=ds.length) (lb:bZ.length=es.length) (h:ig A s dZ bZ ds es):
  SeqAt.RcNeAt A s (.ref ca) (.ref cb) (!nY ds es):=by
 have q:=SeqAt.RcNeAt.tuples (e:=nC ds es) pa pb hu h
 rw[X0,X0,la,lb] at q
 by_cases hl:ds.length=es.length
 ·rw[B6 hl,jg hl] at q;exact q
 ·rw[lQ hl]
  have:(ds.length == es.length)=false:=by simpa using hl
  rw[this,aaM] at q
  exact q
def qQ (hu:A.units < cLine) (pa:s.heap.IsList ca dZ.toArray) (pb:s.heap.IsList cb bZ.toArray) (la:dZ.length=ds.length) (lb:bZ.length=es.length) (h:ig A s dZ bZ ds es):
  SeqAt.RcAt A s (.ref ca) (.ref cb) (nY ds es):=by
 by_cases hl:ds.length=es.length
 ·have q:=SeqAt.RcAt.lists (e:=nC ds es) pa pb (by rw[X0,X0,la,lb];exact hl) hu h
  rw[X0,la,jg hl] at q;exact q
 ·rw[lQ hl]
  exact SeqAt.RcAt.lists_lengths pa pb (by rw[X0,X0,la,lb];simpa using hl) hu
def uL (hu:A.units < cLine) (pa:s.heap.IsList ca dZ.toArray) (pb:s.heap.IsList cb bZ.toArray) (la:dZ.length=ds.length) (lb:bZ.length=es.length) (h:ig A s dZ bZ ds es):
  SeqAt.RcNeAt A s (.ref ca) (.ref cb) (!nY ds es):=by
 by_cases hl:ds.length=es.length
 ·have q:=SeqAt.RcNeAt.lists (e:=nC ds es) pa pb (by rw[X0,X0,la,lb];exact hl) hu h
  rw[X0,la,jg hl] at q;exact q
 ·rw[lQ hl]
  exact SeqAt.RcNeAt.lists_lengths pa pb (by rw[X0,X0,la,lb];simpa using hl) hu
def cZ (l:List α) (j:Nat) (h:j < l.toArray.size):l[j]? =some l.toArray[j]:=by
 have z:j < l.length:=by simpa using h
 simp[z]
mutual
theorem KQ (I:Inv X pins σ H s) (sb:Sub F H):∀(d:D){e:D}{A:Around}{x y:V}{u w':Value},Rep F x d->Rep F y e->RelV x u->RelV y w'->A.units+lz d < cLine->SeqAt.EqAt A s u w' (kL d e):=fun d {e A x y u w'} r1 r2 rx ry hu=>by
 cases r1 with
 | cz=>
  cases rx
  cases r2 with
  | cz=>cases ry;exact Z6 _
  | bl b=>cases ry;exact SeqAt.EqAt.none_bool b
  | int b=>obtain⟨tb,rfl⟩:=ry;exact SeqAt.EqAt.none_int b tb
  | str b=>obtain⟨tb,rfl⟩:=ry;exact SeqAt.EqAt.none_str b tb
  | @tup cb lR j9 eb rb=>cases ry;obtain⟨bZ,jh,pb⟩:=sb.isTup I eb;exact SeqAt.EqAt.none_tuple pb (by lia)
  | @lst cb lR j9 eb rb=>cases ry;obtain⟨bZ,jh,pb⟩:=sb.dB I eb;exact SeqAt.EqAt.none_list pb (by lia)
 | bl a=>
  cases rx
  cases r2 with
  | cz=>cases ry;exact SeqAt.EqAt.bool_none a
  | bl b=>cases ry;exact Z5 a b
  | int b=>obtain⟨tb,rfl⟩:=ry;exact aah a b tb
  | str b=>obtain⟨tb,rfl⟩:=ry;exact aai a b tb
  | @tup cb lR j9 eb rb=>cases ry;obtain⟨bZ,jh,pb⟩:=sb.isTup I eb;exact SeqAt.EqAt.bool_tuple a pb (by lia)
  | @lst cb lR j9 eb rb=>cases ry;obtain⟨bZ,jh,pb⟩:=sb.dB I eb;exact SeqAt.EqAt.bool_list a pb (by lia)
 | int a=>
  obtain⟨ta,rfl⟩:=rx
  cases r2 with
  | cz=>cases ry;exact SeqAt.EqAt.int_none a ta
  | bl b=>cases ry;exact aag a ta b
  | int b=>obtain⟨tb,rfl⟩:=ry;exact SeqAt.EqAt.int_int a ta b tb
  | str b=>obtain⟨tb,rfl⟩:=ry;exact aap a ta b tb
  | @tup cb lR j9 eb rb=>cases ry;obtain⟨bZ,jh,pb⟩:=sb.isTup I eb;exact SeqAt.EqAt.int_tuple a ta pb (by lia)
  | @lst cb lR j9 eb rb=>cases ry;obtain⟨bZ,jh,pb⟩:=sb.dB I eb;exact SeqAt.EqAt.int_list a ta pb (by lia)
 | str a=>
  obtain⟨ta,rfl⟩:=rx
  cases r2 with
  | cz=>cases ry;exact SeqAt.EqAt.str_none a ta
  | bl b=>cases ry;exact aaj a ta b
  | int b=>obtain⟨tb,rfl⟩:=ry;exact aaq a ta b tb
  | str b=>obtain⟨tb,rfl⟩:=ry;exact SeqAt.EqAt.str_str a ta b tb
  | @tup cb lR j9 eb rb=>cases ry;obtain⟨bZ,jh,pb⟩:=sb.isTup I eb;exact SeqAt.EqAt.str_tuple a ta pb (by lia)
  | @lst cb lR j9 eb rb=>cases ry;obtain⟨bZ,jh,pb⟩:=sb.dB I eb;exact SeqAt.EqAt.str_list a ta pb (by lia)
 | @tup ca Pd m9 ea ra=>
  cases rx;obtain⟨dZ,yL,pa⟩:=sb.isTup I ea
  cases r2 with
  | cz=>cases ry;exact SeqAt.EqAt.tuple_none pa (by lia)
  | bl b=>cases ry;exact SeqAt.EqAt.tuple_bool b pa (by lia)
  | int b=>obtain⟨tb,rfl⟩:=ry;exact SeqAt.EqAt.tuple_int b tb pa (by lia)
  | str b=>obtain⟨tb,rfl⟩:=ry;exact SeqAt.EqAt.tuple_str b tb pa (by lia)
  | @tup cb lR j9 eb rb=>cases ry;obtain⟨bZ,jh,pb⟩:=sb.isTup I eb;exact(by
   have hd:A.units+(cy m9+1) < cLine:=hu
   have items:ig A s dZ bZ m9 j9:=fun j h1 h2=>ji I sb m9 (A:=A.in1) ra rb yL jh (by show A.units+1+cy m9 < cLine;lia) (cZ dZ j h1) (cZ bZ j h2)
   by_cases hc:ca=cb
   ·subst hc
    rw[ea] at eb
    cases eb
    obtain rfl:=bz.uniq ra rb
    show SeqAt.EqAt A s _ _ (nY m9 m9)
    rw[j8]
    exact Z6 _
   ·exact aar hc (o9 (by lia) pa pb (yL.length.symm.trans ra.length) (jh.length.symm.trans rb.length) items))
  | @lst cb lR j9 eb rb=>cases ry;obtain⟨bZ,jh,pb⟩:=sb.dB I eb;exact SeqAt.EqAt.tuple_list pa pb (by lia)
 | @lst ca Pd m9 ea ra=>
  cases rx;obtain⟨dZ,yL,pa⟩:=sb.dB I ea
  cases r2 with
  | cz=>cases ry;exact SeqAt.EqAt.list_none pa (by lia)
  | bl b=>cases ry;exact SeqAt.EqAt.list_bool b pa (by lia)
  | int b=>obtain⟨tb,rfl⟩:=ry;exact SeqAt.EqAt.list_int b tb pa (by lia)
  | str b=>obtain⟨tb,rfl⟩:=ry;exact SeqAt.EqAt.list_str b tb pa (by lia)
  | @tup cb lR j9 eb rb=>cases ry;obtain⟨bZ,jh,pb⟩:=sb.isTup I eb;exact SeqAt.EqAt.list_tuple pa pb (by lia)
  | @lst cb lR j9 eb rb=>cases ry;obtain⟨bZ,jh,pb⟩:=sb.dB I eb;exact(by
   have hd:A.units+(cy m9+1) < cLine:=hu
   have items:ig A s dZ bZ m9 j9:=fun j h1 h2=>ji I sb m9 (A:=A.in1) ra rb yL jh (by show A.units+1+cy m9 < cLine;lia) (cZ dZ j h1) (cZ bZ j h2)
   by_cases hc:ca=cb
   ·subst hc
    obtain rfl:=II ea eb
    obtain rfl:=bz.uniq ra rb
    show SeqAt.EqAt A s _ _ (nY m9 m9)
    rw[j8]
    exact Z6 _
   ·exact aar hc (qQ (by lia) pa pb (yL.length.symm.trans ra.length) (jh.length.symm.trans rb.length) items))
theorem ji (I:Inv X pins σ H s) (sb:Sub F H):∀(ds:List D){es:List D}{A:Around}{vs ws:List V}{us us':AAI}{j:Nat}{u w':Value},bz F vs ds->bz F ws es->Vals vs us->Vals ws us'->A.units+cy ds < cLine->us[j]? =some u->us'[j]? =some w'->SeqAt.EqAt A s u w' (nC ds es j):=fun ds {es A vs ws us us' j u w'} r1 r2 v1 v2 hu h1 h2=>by
 cases r1 with
 | nil=>cases v1;simp at h1
 | @cons v d vs ds r rs=>
  cases v1 with
  | cons q qs=>
   cases r2 with
   | nil=>cases v2;simp at h2
   | @cons w e ws es r' rs'=>
    cases v2 with
    | cons q' Wz=>
     have hd:A.units+max (lz d) (cy ds) < cLine:=hu
     cases j with
     | zero=>
      simp at h1 h2
      subst h1 h2
      exact KQ I sb d r r' q q' (by lia)
     | succ j=>
      simp at h1 h2
      have:=ji I sb ds (A:=A) rs rs' qs Wz (j:=j) (by lia) h1 h2
      simpa[nC] using this
end
end
section
variable {X:Cx}{pins:AAD}{σ:St}{F H:Hp}{s:Shared}
def Pe (I:Inv X pins σ H s) (sb:Sub F H){d e:D}{u w':Value}(r1:Rep F x d) (r2:Rep F y e) (rx:RelV x u) (ry:RelV y w') (hu:A.units+lz d < cLine):SeqAt.RcAt A s u w' (kL d e):=by
 cases r1 with
 | cz=>
  cases rx
  cases r2 with
  | cz=>cases ry;exact SeqAt.RcAt.none_none
  | bl b=>cases ry;exact SeqAt.RcAt.none_bool b
  | int b=>obtain⟨tb,rfl⟩:=ry;exact SeqAt.RcAt.none_int b tb
  | str b=>obtain⟨tb,rfl⟩:=ry;exact SeqAt.RcAt.none_str b tb
  | @tup cb lR j9 eb rb=>cases ry;obtain⟨bZ,jh,pb⟩:=sb.isTup I eb;exact SeqAt.RcAt.none_tuple pb (by lia)
  | @lst cb lR j9 eb rb=>cases ry;obtain⟨bZ,jh,pb⟩:=sb.dB I eb;exact SeqAt.RcAt.none_list pb (by lia)
 | bl a=>
  cases rx
  cases r2 with
  | cz=>cases ry;exact SeqAt.RcAt.bool_none a
  | bl b=>cases ry;exact SeqAt.RcAt.bool_bool a b
  | int b=>obtain⟨tb,rfl⟩:=ry;exact SeqAt.RcAt.bool_int a b tb
  | str b=>obtain⟨tb,rfl⟩:=ry;exact SeqAt.RcAt.bool_str a b tb
  | @tup cb lR j9 eb rb=>cases ry;obtain⟨bZ,jh,pb⟩:=sb.isTup I eb;exact SeqAt.RcAt.bool_tuple a pb (by lia)
  | @lst cb lR j9 eb rb=>cases ry;obtain⟨bZ,jh,pb⟩:=sb.dB I eb;exact SeqAt.RcAt.bool_list a pb (by lia)
 | int a=>
  obtain⟨ta,rfl⟩:=rx
  cases r2 with
  | cz=>cases ry;exact SeqAt.RcAt.int_none a ta
  | bl b=>cases ry;exact SeqAt.RcAt.int_bool a ta b
  | int b=>obtain⟨tb,rfl⟩:=ry;exact SeqAt.RcAt.int_int a ta b tb
  | str b=>obtain⟨tb,rfl⟩:=ry;exact SeqAt.RcAt.int_str a ta b tb
  | @tup cb lR j9 eb rb=>cases ry;obtain⟨bZ,jh,pb⟩:=sb.isTup I eb;exact SeqAt.RcAt.int_tuple a ta pb (by lia)
  | @lst cb lR j9 eb rb=>cases ry;obtain⟨bZ,jh,pb⟩:=sb.dB I eb;exact SeqAt.RcAt.int_list a ta pb (by lia)
 | str a=>
  obtain⟨ta,rfl⟩:=rx
  cases r2 with
  | cz=>cases ry;exact SeqAt.RcAt.str_none a ta
  | bl b=>cases ry;exact SeqAt.RcAt.str_bool a ta b
  | int b=>obtain⟨tb,rfl⟩:=ry;exact SeqAt.RcAt.str_int a ta b tb
  | str b=>obtain⟨tb,rfl⟩:=ry;exact SeqAt.RcAt.str_str a ta b tb
  | @tup cb lR j9 eb rb=>cases ry;obtain⟨bZ,jh,pb⟩:=sb.isTup I eb;exact SeqAt.RcAt.str_tuple a ta pb (by lia)
  | @lst cb lR j9 eb rb=>cases ry;obtain⟨bZ,jh,pb⟩:=sb.dB I eb;exact SeqAt.RcAt.str_list a ta pb (by lia)
 | @tup ca Pd m9 ea ra=>
  cases rx;obtain⟨dZ,yL,pa⟩:=sb.isTup I ea
  cases r2 with
  | cz=>cases ry;exact SeqAt.RcAt.tuple_none pa (by lia)
  | bl b=>cases ry;exact SeqAt.RcAt.tuple_bool b pa (by lia)
  | int b=>obtain⟨tb,rfl⟩:=ry;exact SeqAt.RcAt.tuple_int b tb pa (by lia)
  | str b=>obtain⟨tb,rfl⟩:=ry;exact SeqAt.RcAt.tuple_str b tb pa (by lia)
  | @tup cb lR j9 eb rb=>cases ry;obtain⟨bZ,jh,pb⟩:=sb.isTup I eb;exact(by
   have hd:A.units+(cy m9+1) < cLine:=hu
   have items:ig A s dZ bZ m9 j9:=fun j h1 h2=>ji I sb m9 (A:=A.in1) ra rb yL jh (by show A.units+1+cy m9 < cLine;lia) (cZ dZ j h1) (cZ bZ j h2)
   exact o9 (by lia) pa pb (yL.length.symm.trans ra.length) (jh.length.symm.trans rb.length) items)
  | @lst cb lR j9 eb rb=>cases ry;obtain⟨bZ,jh,pb⟩:=sb.dB I eb;exact SeqAt.RcAt.tuple_list pa pb (by lia)
 | @lst ca Pd m9 ea ra=>
  cases rx;obtain⟨dZ,yL,pa⟩:=sb.dB I ea
  cases r2 with
  | cz=>cases ry;exact SeqAt.RcAt.list_none pa (by lia)
  | bl b=>cases ry;exact SeqAt.RcAt.list_bool b pa (by lia)
  | int b=>obtain⟨tb,rfl⟩:=ry;exact SeqAt.RcAt.list_int b tb pa (by lia)
  | str b=>obtain⟨tb,rfl⟩:=ry;exact SeqAt.RcAt.list_str b tb pa (by lia)
  | @tup cb lR j9 eb rb=>cases ry;obtain⟨bZ,jh,pb⟩:=sb.isTup I eb;exact SeqAt.RcAt.list_tuple pa pb (by lia)
  | @lst cb lR j9 eb rb=>cases ry;obtain⟨bZ,jh,pb⟩:=sb.dB I eb;exact(by
   have hd:A.units+(cy m9+1) < cLine:=hu
   have items:ig A s dZ bZ m9 j9:=fun j h1 h2=>ji I sb m9 (A:=A.in1) ra rb yL jh (by show A.units+1+cy m9 < cLine;lia) (cZ dZ j h1) (cZ bZ j h2)
   exact qQ (by lia) pa pb (yL.length.symm.trans ra.length) (jh.length.symm.trans rb.length) items)
def IJ (I:Inv X pins σ H s) (sb:Sub F H){d e:D}{u w':Value}(r1:Rep F x d) (r2:Rep F y e) (rx:RelV x u) (ry:RelV y w') (hu:A.units+lz d < cLine):SeqAt.RcNeAt A s u w' (!kL d e):=by
 cases r1 with
 | cz=>
  cases rx
  cases r2 with
  | cz=>cases ry;exact SeqAt.RcNeAt.none_none
  | bl b=>cases ry;exact SeqAt.RcNeAt.none_bool b
  | int b=>obtain⟨tb,rfl⟩:=ry;exact SeqAt.RcNeAt.none_int b tb
  | str b=>obtain⟨tb,rfl⟩:=ry;exact SeqAt.RcNeAt.none_str b tb
  | @tup cb lR j9 eb rb=>cases ry;obtain⟨bZ,jh,pb⟩:=sb.isTup I eb;exact SeqAt.RcNeAt.none_tuple pb (by lia)
  | @lst cb lR j9 eb rb=>cases ry;obtain⟨bZ,jh,pb⟩:=sb.dB I eb;exact SeqAt.RcNeAt.none_list pb (by lia)
 | bl a=>
  cases rx
  cases r2 with
  | cz=>cases ry;exact SeqAt.RcNeAt.bool_none a
  | bl b=>cases ry;exact SeqAt.RcNeAt.bool_bool a b
  | int b=>obtain⟨tb,rfl⟩:=ry;exact SeqAt.RcNeAt.bool_int a b tb
  | str b=>obtain⟨tb,rfl⟩:=ry;exact SeqAt.RcNeAt.bool_str a b tb
  | @tup cb lR j9 eb rb=>cases ry;obtain⟨bZ,jh,pb⟩:=sb.isTup I eb;exact SeqAt.RcNeAt.bool_tuple a pb (by lia)
  | @lst cb lR j9 eb rb=>cases ry;obtain⟨bZ,jh,pb⟩:=sb.dB I eb;exact SeqAt.RcNeAt.bool_list a pb (by lia)
 | int a=>
  obtain⟨ta,rfl⟩:=rx
  cases r2 with
  | cz=>cases ry;exact SeqAt.RcNeAt.int_none a ta
  | bl b=>cases ry;exact SeqAt.RcNeAt.int_bool a ta b
  | int b=>obtain⟨tb,rfl⟩:=ry;exact SeqAt.RcNeAt.int_int a ta b tb
  | str b=>obtain⟨tb,rfl⟩:=ry;exact SeqAt.RcNeAt.int_str a ta b tb
  | @tup cb lR j9 eb rb=>cases ry;obtain⟨bZ,jh,pb⟩:=sb.isTup I eb;exact SeqAt.RcNeAt.int_tuple a ta pb (by lia)
  | @lst cb lR j9 eb rb=>cases ry;obtain⟨bZ,jh,pb⟩:=sb.dB I eb;exact SeqAt.RcNeAt.int_list a ta pb (by lia)
 | str a=>
  obtain⟨ta,rfl⟩:=rx
  cases r2 with
  | cz=>cases ry;exact SeqAt.RcNeAt.str_none a ta
  | bl b=>cases ry;exact SeqAt.RcNeAt.str_bool a ta b
  | int b=>obtain⟨tb,rfl⟩:=ry;exact SeqAt.RcNeAt.str_int a ta b tb
  | str b=>obtain⟨tb,rfl⟩:=ry;exact SeqAt.RcNeAt.str_str a ta b tb
  | @tup cb lR j9 eb rb=>cases ry;obtain⟨bZ,jh,pb⟩:=sb.isTup I eb;exact SeqAt.RcNeAt.str_tuple a ta pb (by lia)
  | @lst cb lR j9 eb rb=>cases ry;obtain⟨bZ,jh,pb⟩:=sb.dB I eb;exact SeqAt.RcNeAt.str_list a ta pb (by lia)
 | @tup ca Pd m9 ea ra=>
  cases rx;obtain⟨dZ,yL,pa⟩:=sb.isTup I ea
  cases r2 with
  | cz=>cases ry;exact SeqAt.RcNeAt.tuple_none pa (by lia)
  | bl b=>cases ry;exact SeqAt.RcNeAt.tuple_bool b pa (by lia)
  | int b=>obtain⟨tb,rfl⟩:=ry;exact SeqAt.RcNeAt.tuple_int b tb pa (by lia)
  | str b=>obtain⟨tb,rfl⟩:=ry;exact SeqAt.RcNeAt.tuple_str b tb pa (by lia)
  | @tup cb lR j9 eb rb=>cases ry;obtain⟨bZ,jh,pb⟩:=sb.isTup I eb;exact(by
   have hd:A.units+(cy m9+1) < cLine:=hu
   have items:ig A s dZ bZ m9 j9:=fun j h1 h2=>ji I sb m9 (A:=A.in1) ra rb yL jh (by show A.units+1+cy m9 < cLine;lia) (cZ dZ j h1) (cZ bZ j h2)
   exact sJ (by lia) pa pb (yL.length.symm.trans ra.length) (jh.length.symm.trans rb.length) items)
  | @lst cb lR j9 eb rb=>cases ry;obtain⟨bZ,jh,pb⟩:=sb.dB I eb;exact SeqAt.RcNeAt.tuple_list pa pb (by lia)
 | @lst ca Pd m9 ea ra=>
  cases rx;obtain⟨dZ,yL,pa⟩:=sb.dB I ea
  cases r2 with
  | cz=>cases ry;exact SeqAt.RcNeAt.list_none pa (by lia)
  | bl b=>cases ry;exact SeqAt.RcNeAt.list_bool b pa (by lia)
  | int b=>obtain⟨tb,rfl⟩:=ry;exact SeqAt.RcNeAt.list_int b tb pa (by lia)
  | str b=>obtain⟨tb,rfl⟩:=ry;exact SeqAt.RcNeAt.list_str b tb pa (by lia)
  | @tup cb lR j9 eb rb=>cases ry;obtain⟨bZ,jh,pb⟩:=sb.isTup I eb;exact SeqAt.RcNeAt.list_tuple pa pb (by lia)
  | @lst cb lR j9 eb rb=>cases ry;obtain⟨bZ,jh,pb⟩:=sb.dB I eb;exact(by
   have hd:A.units+(cy m9+1) < cLine:=hu
   have items:ig A s dZ bZ m9 j9:=fun j h1 h2=>ji I sb m9 (A:=A.in1) ra rb yL jh (by show A.units+1+cy m9 < cLine;lia) (cZ dZ j h1) (cZ bZ j h2)
   exact uL (by lia) pa pb (yL.length.symm.trans ra.length) (jh.length.symm.trans rb.length) items)
def rK:List D->Option U
 | [a,b]=>if lz a<=40 then some (.t (.bl (kL a b))) else none
 | _=>none
def HE:List D->Option U
 | [a,b]=>if lz a<=40 then some (.t (.bl (!kL a b))) else none
 | _=>none
def gz (hu:X.A.units+64 < cLine):uC X (compareOp .Eq) rK:=by
 intro pins s σ H x y v u Q I rx ry ⟨F,ds,w,sb,rs,hw,q⟩
 obtain⟨d,e,rfl,r1,r2⟩:=qO rs
 obtain⟨hd,rfl⟩:=bh (show(if lz d<=40 then some (U.t (.bl (kL d e))) else none)=some w from hw)
 exact Pe I sb r1 r2 rx ry (by lia) _ _ _ _ ⟨.bl _,H,I,rfl,q _ F H (fH.refl ..) sb (.bl _)⟩
def wZ (hu:X.A.units+64 < cLine):uC X (compareOp .NotEq) HE:=by
 intro pins s σ H x y v u Q I rx ry ⟨F,ds,w,sb,rs,hw,q⟩
 obtain⟨d,e,rfl,r1,r2⟩:=qO rs
 obtain⟨hd,rfl⟩:=bh (show(if lz d<=40 then some (U.t (.bl (!kL d e))) else none)=some w from hw)
 exact IJ I sb r1 r2 rx ry (by lia) _ _ _ _ ⟨.bl _,H,I,rfl,q _ F H (fH.refl ..) sb (.bl _)⟩
def inD (x:D) (ds:List D):Bool:=ds.any fun y=>kL y x
def IK:List D->Option U
 | [x,.tup ds]=>if cy ds<=40 then some (.t (.bl (inD x ds))) else none
 | [x,.lst ds]=>if cy ds<=40 then some (.t (.bl (inD x ds))) else none
 | [.str i,.str j]=>some (.t (.bl (!(Builtin.Str.occurrences j i 0 j.length 1).isEmpty)))
 | _=>none
def sL:List D->Option U
 | [x,.tup ds]=>if cy ds<=40 then some (.t (.bl (!inD x ds))) else none
 | [x,.lst ds]=>if cy ds<=40 then some (.t (.bl (!inD x ds))) else none
 | [.str i,.str j]=>some (.t (.bl (!(!(Builtin.Str.occurrences j i 0 j.length 1).isEmpty))))
 | _=>none
def RelV.uniq {v w':V}{u:Value}(a:RelV v u) (b:RelV w' u):v=w':=by
 cases v <;> cases w' <;> simp only[RelV] at a b <;> first
  | rfl
  | (subst a;cases b;done)
  | (subst a;cases b;rfl)
  | (obtain⟨t,rfl⟩:=a;obtain⟨t',e⟩:=b;cases e;done)
  | (obtain⟨t,rfl⟩:=a;obtain⟨t',e⟩:=b;cases e;rfl)
  | (obtain⟨t,rfl⟩:=a;cases b;done)
  | (obtain⟨t,rfl⟩:=b;cases a;done)
open Classical in
def w4 (F:Hp) (d:D) (y:Value):Bool:=if h:∃(v:V) (dd:D),RelV v y/\Rep F v dd then kL (Classical.choose (Z3 h)) d else false
def Fe {v:V}{dd d:D}{y:Value}(a:RelV v y) (r:Rep F v dd):w4 F d y=kL dd d:=by
 unfold w4
 have h:∃(v:V) (dd:D),RelV v y/\Rep F v dd:=⟨v,dd,a,r⟩
 rw[dif_pos h]
 have k:=Z3 (Z3 h)
 have e1:=RelV.uniq k.1 a
 have r':Rep F (Classical.choose h) dd:=by rw[e1];exact r
 rw[Rep.uniq k.2 r']
theorem kg (I:Inv X pins σ H s) (sb:Sub F H){A:Around}{x:V}{u:Value}{d:D}(r:Rep F x d) (rx:RelV x u):∀{vs:List V}{ds:List D}{its:AAI},bz F vs ds->Vals vs its->A.units+cy ds < cLine->
  (∀y∈its,SeqAt.EqAt A s y u (w4 F d y))/\its.any (w4 F d)=inD d ds
 | _,_,_,.nil,.nil,_=>⟨(fun y hy=>absurd hy (by simp)),rfl⟩
 | _,_,_,@bz.cons _ v dd vs ds r1 rs,.cons q qs,hu=>by
  have hd:A.units+max (lz dd) (cy ds) < cLine:=hu
  obtain⟨h1,h2⟩:=kg I sb (A:=A) r rx rs qs (by lia)
  refine⟨fun y hy=>?_,?_⟩
  ·rcases Yi.mp hy with rfl | hy
   ·rw[Fe q r1];exact KQ I sb dd r1 r q rx (by lia)
   ·exact h1 y hy
  ·rw[Zq,h2,Fe q r1]
   rfl
def w5 (hu:X.A.units+64 < cLine):uC X (compareOp .In) IK:=by
 intro pins s σ H x y v u Q I rx ry ⟨F,ds,w,sb,rs,hw,q⟩
 obtain⟨d,e,rfl,r1,r2⟩:=qO rs
 cases e with
 | tup ds=>
  obtain⟨hd,rfl⟩:=bh (show(if cy ds<=40 then some (U.t (.bl (inD d ds))) else none)=some w by cases d <;> exact hw)
  obtain⟨a,vs,rfl,fa,ha,rs⟩:=sb.jf r2
  cases ry
  obtain⟨its,rv,p⟩:=sb.isTup I fa
  obtain⟨h1,h2⟩:=kg I sb (A:=X.A.in1) r1 rx rs rv (by show X.A.units+1+cy ds < cLine;lia)
  refine SeqAt.in_tupleAt (w4 F d) p (fun y hy=>h1 y (by simpa using hy)) ⟨.bl _,H,I,rfl,?_⟩
  rw[show its.toArray.any (w4 F d)=its.any (w4 F d) by simp,h2]
  exact q _ F H (fH.refl ..) sb (.bl _)
 | lst ds=>
  obtain⟨hd,rfl⟩:=bh (show(if cy ds<=40 then some (U.t (.bl (inD d ds))) else none)=some w by cases d <;> exact hw)
  obtain⟨a,vs,rfl,fa,ha,rs⟩:=sb.iy r2
  cases ry
  obtain⟨its,rv,p⟩:=sb.dB I fa
  obtain⟨h1,h2⟩:=kg I sb (A:=X.A.in1) r1 rx rs rv (by show X.A.units+1+cy ds < cLine;lia)
  refine SeqAt.in_listAt (w4 F d) p (fun y hy=>h1 y (by simpa using hy)) ⟨.bl _,H,I,rfl,?_⟩
  rw[show its.toArray.any (w4 F d)=its.any (w4 F d) by simp,h2]
  exact q _ F H (fH.refl ..) sb (.bl _)
 | str j=>
  cases d <;> try (cases hw;done)
  rename_i i
  cases hw
  cases r1
  cases r2
  exact CN pins s σ H _ _ v u Q I rx ry ⟨i,j,rfl,rfl,q _ F H (fH.refl ..) sb (.bl _)⟩
 | cz=>cases d <;> (cases hw;done)
 | bl b=>cases d <;> (cases hw;done)
 | int b=>cases d <;> (cases hw;done)
def vB (hu:X.A.units+64 < cLine):uC X (compareOp .NotIn) sL:=by
 intro pins s σ H x y v u Q I rx ry ⟨F,ds,w,sb,rs,hw,q⟩
 obtain⟨d,e,rfl,r1,r2⟩:=qO rs
 cases e with
 | tup ds=>
  obtain⟨hd,rfl⟩:=bh (show(if cy ds<=40 then some (U.t (.bl (!inD d ds))) else none)=some w by cases d <;> exact hw)
  obtain⟨a,vs,rfl,fa,ha,rs⟩:=sb.jf r2
  cases ry
  obtain⟨its,rv,p⟩:=sb.isTup I fa
  obtain⟨h1,h2⟩:=kg I sb (A:=X.A.in1) r1 rx rs rv (by show X.A.units+1+cy ds < cLine;lia)
  refine SeqAt.notIn_tupleAt (w4 F d) p (fun y hy=>h1 y (by simpa using hy)) ⟨.bl _,H,I,rfl,?_⟩
  rw[show its.toArray.any (w4 F d)=its.any (w4 F d) by simp,h2]
  exact q _ F H (fH.refl ..) sb (.bl _)
 | lst ds=>
  obtain⟨hd,rfl⟩:=bh (show(if cy ds<=40 then some (U.t (.bl (!inD d ds))) else none)=some w by cases d <;> exact hw)
  obtain⟨a,vs,rfl,fa,ha,rs⟩:=sb.iy r2
  cases ry
  obtain⟨its,rv,p⟩:=sb.dB I fa
  obtain⟨h1,h2⟩:=kg I sb (A:=X.A.in1) r1 rx rs rv (by show X.A.units+1+cy ds < cLine;lia)
  refine SeqAt.notIn_listAt (w4 F d) p (fun y hy=>h1 y (by simpa using hy)) ⟨.bl _,H,I,rfl,?_⟩
  rw[show its.toArray.any (w4 F d)=its.any (w4 F d) by simp,h2]
  exact q _ F H (fH.refl ..) sb (.bl _)
 | str j=>
  cases d <;> try (cases hw;done)
  rename_i i
  cases hw
  cases r1
  cases r2
  exact wI pins s σ H _ _ v u Q I rx ry ⟨i,j,rfl,rfl,q _ F H (fH.refl ..) sb (.bl _)⟩
 | cz=>cases d <;> (cases hw;done)
 | bl b=>cases d <;> (cases hw;done)
 | int b=>cases d <;> (cases hw;done)
end
def lA (T:String) (d:D):Option Bool:=match T with
 | "tuple"=>some (Aw d)
 | "list"=>some (EY d)
 | "str"=>some (lJ d)
 | "bool"=>some (sy d)
 | "int"=>some (Ax d)
 | _=>none
def Ff {d:D}{b:Bool}(h:lA T d=some b):PySem.W.kitOne K (.type (LC d)) (.type T)=some b:=by
 unfold lA at h
 split at h
 ·cases h;exact Iu d
 ·cases h;exact Iv d
 ·cases h;exact EZ d
 ·cases h;exact LD d
 ·cases h;exact Iw d
 ·cases h
def iz:List String->D->Option Bool
 | [],_=>some false
 | T :: Ts,d=>match lA T d with
  | some true=>some true
  | some false=>iz Ts d
  | none=>none
section
variable {X:Cx}{pins:AAD}{σ:St}{F H:Hp}{s:Shared}
def IL (I:Inv X pins σ H s) (sb:Sub F H){u:Value}{d:D}{c:Value}{b:Bool}(r:Rep F x d) (rx:RelV x u) (e:PySem.W.kitOne X.K (.type (LC d)) c=some b) (h:∀tk,Q (.bool b) {s with toks:=tk}):
  wpAny (model X.prog X.w) A (call (.builtin "isinstance") [u,c]) Q E s:=by
 cases r with
 | cz=>cases rx;exact Zf PySem.W.kitx_none I.qK True.intro e (fun z=>nomatch z) h
 | bl y=>cases rx;exact Zf PySem.W.kitx_bool I.qK True.intro e (fun z=>nomatch z) h
 | int i=>obtain⟨t,rfl⟩:=rx;exact Zf PySem.W.kitx_int I.qK True.intro e (fun z=>nomatch z) h
 | str y=>obtain⟨t,rfl⟩:=rx;exact Zf PySem.W.kitx_str I.qK True.intro e (fun z=>nomatch z) h
 | tup ea _=>
  cases rx
  obtain⟨its,_,o,h1,h2,_⟩:=sb.isTup I ea
  exact Zf PySem.W.kitx_tuple I.qK ⟨o,h1,h2⟩ e (fun z=>nomatch z) h
 | lst ea _=>
  cases rx
  obtain⟨its,_,o,h1,h2,_⟩:=sb.dB I ea
  exact Zf PySem.W.kitx_list I.qK ⟨o,h1,h2⟩ e (fun z=>nomatch z) h
end
def HF (Ts:List String) (g:GD):GD:=fun S=>(g S).bind fun p=>(iz Ts p.1).map fun b=>(.bl b,p.2)
section
variable {X:Cx}{a b c e:Expr}{es:List Expr}{pos p p2 px:Pos}{x y:Str}{g ga gb gc:GD}{gA:GA}
def Di {d:D}{b:Bool}(h:iz [T] d=some b):lA T d=some b:=by
 unfold iz at h
 cases e:lA T d with
 | none=>rw[e] at h;cases h
 | some k=>rw[e] at h;cases k <;> exact h
def gX (hg:Gl X "isinstance") (hm:X.mg "isinstance" =none) (WA:Gl X y) (hm2:X.mg y=none) (hv2:bootBuiltins y=some (.type T)) (ha:JD X a ga) (hn2:y≠"__name__":=by decide) (hd2:(y == ("__debug__":Str))=false:=by decide)
  (hs:starEach [a,.Name y px] X.env=(false,eval a X.env) :: starEach [.Name y px] X.env:=by rfl) (hs2:starEach [.Name y px] X.env=(false,eval (.Name y px) X.env) :: starEach [] X.env:=by rfl) (hpl:(backTo pos (starEach [.Name y px] X.env)).any (·.1)=false:=by rfl):
  JD X (.Call (.Name "isinstance" p) [a,.Name y px] [] pos) (HF [T] ga):=⟨fun B=>
 (iw (r:=fun xs H Q=>∃x F d b,xs=[x,.ty T]/\Sub F H/\Rep F x d/\lA T d=some b/\Q (.bl b) H) (fun pins s σ H xs us Q I r hh=>by
   obtain⟨x,F,d,b,e1,sb,rd,hk,q⟩:=hh
   subst e1
   obtain⟨u,w',rfl,ru,rw'⟩:=vals2 r
   cases rw'
   exact IL I sb rd ru (Ff hk) fun tk=>⟨.bl b,H,I.tok tk,rfl,q⟩) hg hm Zw (gm (ha.h B) (gm (BC (v:=.ty T) WA hm2 hv2 rfl hn2 hd2) nN hs2) hs) (by decide) (by decide) hs hpl).imp fun σ H Q hh=>by
 obtain⟨S,F,d,S',R,hg,q⟩:=hh
 obtain⟨⟨d1,S1⟩,h1,hg⟩:=ah hg
 obtain⟨k,h2,hg⟩:=ao hg
 cases hg
 exact⟨S,F,d1,_,R,h1,fun v F1 H1 R1 st1 r1=>⟨v,F1,d1,k,rfl,R1.sub,r1,Di h2,q _ F1 H1 R1 st1 (.bl k)⟩⟩⟩
noncomputable def jj:List D->Option (List Bool)
 | []=>some []
 | .bl b :: ds=>(jj ds).map fun bs=>b :: bs
 | _=>none
theorem lT {F:Hp}:∀{vs:List V}{ds:List D}{bs:List Bool},bz F vs ds->jj ds=some bs->vs=bs.map V.bl
 | _,_,_,.nil,h=>by cases h;rfl
 | _,_,_,@bz.cons _ v d vs ds r rs,h=>by
  cases d <;> try (cases h;done)
  obtain⟨bs,h1,h2⟩:=ao (show(jj ds).map _=_ from h)
  subst h2
  rw[jO r,lT rs h1]
  rfl
def LO:List D->Option U
 | [.lst ds]=>(jj ds).map fun bs=>.t (.bl (bs.all id))
 | _=>none
def LP:List D->Option U
 | [.lst ds]=>(jj ds).map fun bs=>.t (.bl (bs.any id))
 | _=>none
def xg {P:D->Prop}{F:Hp}{f:List D->Option U}{w':U}(rs:bz F xs ds) (h:f ds=some w') (hn:f []=none) (h2:∀a b r,f (a :: b :: r)=none):∃x d,xs=[x]/\ds=[d]/\Rep F x d:=by
 cases rs with
 | nil=>rw[hn] at h;cases h
 | cons r rs=>
  cases rs with
  | nil=>exact⟨_,_,rfl,rfl,r⟩
  | cons _ _=>rw[h2] at h;cases h
def Dj (hc:X.calm=true):dU X (.builtin "all") (rP LO):=by
 intro pins s σ H xs us Q I r ⟨F,ds,w,sb,rs,hw,q⟩
 obtain⟨x,d,rfl,rfl,r1⟩:=xg (P:=fun _=>True) rs hw rfl (fun d _ _=>by cases d <;> rfl)
 cases d <;> try (cases hw;done)
 rename_i ds
 obtain⟨bs,h1,rfl⟩:=ao (show(jj ds).map _=some w from hw)
 obtain⟨a,vs,rfl,fa,ha,sD⟩:=sb.iy r1
 obtain rfl:=lT sD h1
 exact C5 hc pins s σ H _ us Q I r ⟨a,bs,rfl,.inl ha,q _ F H (fH.refl ..) sb (.bl _)⟩
def Dk (hc:X.calm=true):dU X (.builtin "any") (rP LP):=by
 intro pins s σ H xs us Q I r ⟨F,ds,w,sb,rs,hw,q⟩
 obtain⟨x,d,rfl,rfl,r1⟩:=xg (P:=fun _=>True) rs hw rfl (fun d _ _=>by cases d <;> rfl)
 cases d <;> try (cases hw;done)
 rename_i ds
 obtain⟨bs,h1,rfl⟩:=ao (show(jj ds).map _=some w from hw)
 obtain⟨a,vs,rfl,fa,ha,sD⟩:=sb.iy r1
 obtain rfl:=lT sD h1
 exact C6 hc pins s σ H _ us Q I r ⟨a,bs,rfl,.inl ha,q _ F H (fH.refl ..) sb (.bl _)⟩
noncomputable def B7:List D->Option U
 | [.int i,.int j,.int k]=>some (.t (.int (if j < i then(if k < j then k else j) else if k < i then k else i)))
 | _=>none
def AL (hc:X.calm=true):dU X (.builtin "min") (rP B7):=by
 intro pins s σ H xs us Q I r ⟨F,ds,w,sb,rs,hw,q⟩
 unfold B7 at hw
 split at hw
 ·rename_i i j k
  cases hw
  cases rs with
  | cons r1 rs=>cases rs with
   | cons r2 rs=>cases rs with
    | cons r3 rs=>
     cases rs
     rw[fj r1,fj r2,fj r3] at r
     exact C8 hc pins s σ H _ us Q I r ⟨i,j,k,rfl,q _ F H (fH.refl ..) sb (.int _)⟩
 ·cases hw
noncomputable def Pf:List D->Option U
 | [.int i,.int j]=>some (.t (.int (if j < i then j else i)))
 | _=>none
noncomputable def B8:List D->Option U
 | [.int i,.int j]=>some (.t (.int (if j > i then j else i)))
 | _=>none
def AM (hc:X.calm=true):dU X (.builtin "max") (rP B8):=by
 intro pins s σ H xs us Q I r ⟨F,ds,w,sb,rs,hw,q⟩
 unfold B8 at hw
 split at hw
 ·rename_i i j
  cases hw
  cases rs with
  | cons r1 rs=>cases rs with
   | cons r2 rs=>
    cases rs
    rw[fj r1,fj r2] at r
    exact CO hc pins s σ H _ us Q I r ⟨i,j,rfl,q _ F H (fH.refl ..) sb (.int _)⟩
 ·cases hw
noncomputable def KR:List D->Option U
 | [.tup ds]=>some (.m (.lst ds))
 | [.lst ds]=>some (.m (.lst ds))
 | _=>none
noncomputable def nZ:List D->Option U
 | [.tup ds]=>some (.t (.tup ds))
 | [.lst ds]=>some (.t (.tup ds))
 | _=>none
def qR:dU X (.type "tuple") (rP nZ):=by
 intro pins s σ H xs us Q I r ⟨F,ds,w,sb,rs,hw,q⟩
 obtain⟨x,d,rfl,rfl,r1⟩:=xg (P:=fun _=>True) rs hw rfl (fun d _ _=>by cases d <;> rfl)
 cases d <;> try (cases hw;done)
 ·cases hw
  have r0:=r1
  obtain⟨a,vs,rfl,fa,ha,sD⟩:=sb.jf r1
  exact nA pins s σ H _ us Q I r ⟨a,vs,rfl,.inr ⟨.inl ha,q _ F H (fH.refl ..) sb r0⟩⟩
 ·cases hw
  obtain⟨a,vs,rfl,fa,ha,sD⟩:=sb.iy r1
  exact nA pins s σ H _ us Q I r ⟨a,vs,rfl,.inl ⟨.inl ha,fun p hp=>q _ _ _ (fH.root sb hp _) (sb.pZ hp) (.tup aH (sD.le (iJ (sb.fresh hp))))⟩⟩
end
def wK.ky {k:Key}(e:H a=some (.dK kvs)) (h:Lu y k):wK H a y (pX kvs k):=.inl ⟨kvs,k,.inl e,h,rfl⟩
def yu.ky {k:Key}{v:V}(e:H a=some (.dK kvs)) (h:Lu y k) (hl:kvs.length < sizeLine):yu H a y v (upd H a (.dK (putK kvs k v))):=.inl ⟨kvs,k,e,h,hl,rfl⟩
def keyOf:D->Option Key
 | .bl b=>some (.inl (bI b))
 | .int i=>some (.inl i)
 | .str z=>some (.inr z)
 | _=>none
def vC {F:Hp}{v:V}{d:D}{k:Key}(r:Rep F v d) (h:keyOf d=some k):Lu v k:=by
 cases r <;> cases h <;> first | exact .inl rfl | exact .inr ⟨_,rfl,rfl⟩
noncomputable def iQ {κ:Type} [DecidableEq κ] (kvs:List (κ×D)) (k:κ):Option D:=(kvs.find? fun kv=>decide (kv.1=k)).map (·.2)
noncomputable def putD {κ:Type} [DecidableEq κ] (kvs:List (κ×D)) (k:κ) (d:D):List (κ×D):=
 if(kvs.any fun kv=>decide (kv.1=k))=true then kvs.map (fun kv=>if kv.1=k then(kv.1,d) else kv) else kvs++[(k,d)]
theorem qg {κ:Type} [DecidableEq κ] {F:Hp}{k:κ}{d:D}:∀{ws:List (κ×V)}{kvs:List (κ×D)},Paired (fC F) ws kvs->iQ kvs k=some d->∃v,pX ws k=some v/\Rep F v d
 | _,_,.nil,h=>by cases h
 | _,_,@Paired.cons _ _ _ p q ws kvs r rs,h=>by
  by_cases e:q.1=k
  ·have e':p.1=k:=r.1.trans e
   refine⟨p.2,oJ e',?_⟩
   have:iQ (q :: kvs) k=some q.2:=by simp[iQ,Y6,e]
   rw[this] at h
   cases h
   exact r.2
  ·have e':¬p.1=k:=fun z=>e (r.1.symm.trans z)
   have:iQ (q :: kvs) k=iQ kvs k:=by simp[iQ,Y6,e]
   rw[this] at h
   obtain⟨v,h1,h2⟩:=qg rs h
   exact⟨v,by rw[oK e'];exact h1,h2⟩
theorem yM {κ:Type} [DecidableEq κ] {F:Hp}{k:κ}:∀{ws:List (κ×V)}{kvs:List (κ×D)},Paired (fC F) ws kvs->(ws.any fun kv=>decide (kv.1=k))=(kvs.any fun kv=>decide (kv.1=k))
 | _,_,.nil=>rfl
 | _,_,.cons r rs=>by rw[Zq,Zq,yM rs,r.1]
theorem yN {κ:Type} [DecidableEq κ] {F:Hp}{k:κ}{v:V}{d:D}(r:Rep F v d):∀{ws:List (κ×V)}{kvs:List (κ×D)},Paired (fC F) ws kvs->Paired (fC F) (ws.map fun kv=>if kv.1=k then(kv.1,v) else kv) (kvs.map fun kv=>if kv.1=k then(kv.1,d) else kv)
 | _,_,.nil=>.nil
 | _,_,@Paired.cons _ _ _ p q ws kvs h hs=>by
  refine .cons ?_ (yN r hs)
  show fC F (if p.1=k then(p.1,v) else p) (if q.1=k then(q.1,d) else q)
  rw[h.1]
  by_cases e:q.1=k
  ·rw[if_pos e,if_pos e];exact⟨rfl,r⟩
  ·rw[if_neg e,if_neg e];exact h
theorem qT {α β:Type}{P:α->β->Prop}{x:α}{y:β}(p:P x y):∀{l:List α}{r:List β},Paired P l r->Paired P (l++[x]) (r++[y])
 | _,_,.nil=>.cons p .nil
 | _,_,.cons q qs=>.cons q (qT p qs)
def sM {κ:Type} [DecidableEq κ] {F:Hp}{k:κ}{v:V}{d:D}{ws:List (κ×V)}{kvs:List (κ×D)}(h:Paired (fC F) ws kvs) (r:Rep F v d):Paired (fC F) (putK ws k v) (putD kvs k d):=by
 unfold putK putD
 rw[yM h]
 by_cases e:(kvs.any fun kv=>decide (kv.1=k))=true
 ·rw[if_pos e,if_pos e];exact yN r h
 ·rw[if_neg e,if_neg e];exact qT ⟨rfl,r⟩ h
def Fg:D->Option D
 | .tup ds=>if gj 8 (.tup ds)=true then some (nf (.tup ds)) else none
 | _=>none
def yO {F:Hp}{v:V}{d:D}{ks:D}(sb:Sub F H) (r:Rep F v d) (h:Fg d=some ks):∃b,v= .ref b/\Kd H b ks:=by
 cases r with
 | @tup a vs ds e rs=>
  obtain⟨h1,h2⟩:=bh (show(if gj 8 (.tup ds)=true then some (nf (.tup ds)) else none)=some ks from h)
  subst h2
  exact⟨a,rfl,_,Rep.le sb (.tup e rs),h1,rfl⟩
 | cz=>cases h
 | bl _=>cases h
 | int _=>cases h
 | str _=>cases h
 | lst _ _=>cases h
def nD:U->D->Option D
 | .t (.tup ds),.int i=>gR ds i
 | .t (.lst ds),.int i=>gR ds i
 | .m (.lst ds),.int i=>gR ds i
 | .b (.lst ds),.int i=>gR ds i
 | .s ns,.int i=>(gR ns i).map D.int
 | .m (.dct kvs),k=>(keyOf k).bind (iQ kvs)
 | .b (.dct kvs),k=>(keyOf k).bind (iQ kvs)
 | .m (.Ab kvs),k=>(Fg k).bind (iQ kvs)
 | .b (.Ab kvs),k=>(Fg k).bind (iQ kvs)
 | _,_=>none
def cH (i:Nat) (gb:GD):GD:=fun S=>match S[i]? with
 | some (some _)=>(gb S).bind fun p=>match p.2[i]? with
  | some (some u)=>(nD u p.1).map fun d=>(d,p.2)
  | _=>none
 | _=>none
def B9 (f:α->β){l:List α}{i:Int}{x:α}(h:gR l i=some x):gR (l.map f) i=some (f x):=by
 unfold gR at h ⊢
 rw[Yh]
 obtain⟨j,h1,h2⟩:=ah h
 rw[h1]
 show(l.map f)[j]? =_
 rw[Yu,h2]
 rfl
section
variable {X:Cx}{a b c e value:Expr}{es:List Expr}{pos p p2 px pos':Pos}{x y:Str}{g ga gb gc gk gv:GD}{gA:GA}
def LQ (hu:X.A.units+20 < cLine) (hb:JD X b gb) (hs:rH b:=by first | (intro _ _;rfl)) (hN:X.N[i]? =some x:=by rfl) (hv:wu X.env.scope x:=by first | exact Or.inl rfl | exact Or.inr (Or.inl rfl) | exact Or.inr (Or.inr rfl))
  (hd:(x == ("__debug__":Str))=false:=by decide) (hcd:(x == ("__classdict__":Str))=false:=by decide):JD X (.Subscript (.Name x px) b pos) (cH i gb):=⟨fun B=>PE.orelse fun σ H Q hh=>by
 obtain⟨S,F,d,S',R,hg,q⟩:=hh
 unfold cH at hg
 split at hg
 ·rename_i u0 Pg
  obtain⟨v0,hv0,_⟩:=R.rep i u0 Pg
  obtain⟨⟨k,S1⟩,h1,hg⟩:=ah hg
  dsimp only at hg
  split at hg
  ·rename_i u hS
   obtain⟨d',hr,hg⟩:=ao hg
   cases hg
   have BY:∀F1 H1,Rel X.K B S' σ F1 H1->yE X.K F1 H1 v0 u:=fun F1 H1 R1=>by
    obtain⟨v,k1,k2⟩:=R1.rep i u hS
    rw[hv0] at k1
    cases k1
    exact k2
   have seq:∀(Y:V->V->Hp->VK->Prop),PE X (.Subscript (.Name x px) b pos) (Kr Y (ym i) (tD X.K B gb))->(∀v F1 H1,Rel X.K B S' σ F1 H1->Step S S' σ F H F1 H1->Rep F1 v k->Y v0 v H1 Q)->∃t',PE X (.Subscript (.Name x px) b pos) t'/\t' σ H Q:=fun Y hY h=>
    ⟨_,hY,v0,hv0,S,F,k,S',R,h1,fun v F1 H1 R1 st1 r1=>h v F1 H1 R1 st1 r1⟩
   have dict:∀kvs,(∀F1 H1,Rel X.K B S' σ F1 H1->∃a ws,v0= .ref a/\H1 a=some (.dK ws)/\Paired (fC F1) ws kvs)->(keyOf k).bind (iQ kvs)=some d->∃t',PE X (.Subscript (.Name x px) b pos) t'/\t' σ H Q:=fun kvs hat hr=>by
    obtain⟨kk,e1,e2⟩:=ah hr
    refine⟨_,BK hu (fG hN hv hd hcd) (hb.h B) hs,v0,hv0,S,F,k,S',R,h1,fun v F1 H1 R1 st1 r1=>?_⟩
    obtain⟨a,ws,rfl,ha,pr⟩:=hat F1 H1 R1
    obtain⟨w',z1,z2⟩:=qg pr e2
    exact⟨a,w',rfl,by rw[<-z1];exact wK.ky ha (vC r1 e1),q w' F1 H1 R1 st1 z2⟩
   have yP:∀kvs,(∀F1 H1,Rel X.K B S' σ F1 H1->∃a ws,v0= .ref a/\H1 a=some (.dT ws)/\Paired (fC F1) ws kvs)->(Fg k).bind (iQ kvs)=some d->∃t',PE X (.Subscript (.Name x px) b pos) t'/\t' σ H Q:=fun kvs hat hr=>by
    obtain⟨kk,e1,e2⟩:=ah hr
    refine⟨_,BK hu (fG hN hv hd hcd) (hb.h B) hs,v0,hv0,S,F,k,S',R,h1,fun v F1 H1 R1 st1 r1=>?_⟩
    obtain⟨a,ws,rfl,ha,pr⟩:=hat F1 H1 R1
    obtain⟨w',z1,z2⟩:=qg pr e2
    obtain⟨b',rfl,hb'⟩:=yO R1.sub r1 e1
    exact⟨a,w',rfl,by rw[<-z1];exact wK.t ha hb',q w' F1 H1 R1 st1 z2⟩
   have list:∀ds ii,k= .int ii->gR ds ii=some d->(∀F1 H1,Rel X.K B S' σ F1 H1->∃a vs,v0= .ref a/\(k7 X.K H1 a vs\/q8 X.K H1 a vs)/\bz F1 vs ds)->∃t',PE X (.Subscript (.Name x px) b pos) t'/\t' σ H Q:=fun ds ii ek hrr hat=>by
    subst ek
    refine seq _ (EJ EM (fG hN hv hd hcd) (hb.h B) hs) fun v F1 H1 R1 st1 r1=>?_
    obtain⟨a,vs,rfl,ha,rs⟩:=hat F1 H1 R1
    obtain⟨w',z1,z2⟩:=rs.gR hrr
    rw[fj r1]
    rcases ha with ha | ha
    ·exact .inl ⟨a,vs,ii,w',rfl,rfl,ha,z1,q w' F1 H1 R1 st1 z2⟩
    ·exact .inr (.inl ⟨a,vs,ii,w',rfl,rfl,ha,z1,q w' F1 H1 R1 st1 z2⟩)
   unfold nD at hr
   split at hr
   ·rename_i ds ii
    exact list ds ii rfl hr fun F1 H1 R1=>let⟨a,vs,e1,fa,ha,rs⟩:=R1.sub.jf (BY F1 H1 R1);⟨a,vs,e1,.inr (.inl ha),rs⟩
   ·rename_i ds ii
    exact list ds ii rfl hr fun F1 H1 R1=>let⟨a,vs,e1,fa,ha,rs⟩:=R1.sub.iy (BY F1 H1 R1);⟨a,vs,e1,.inl (.inl ha),rs⟩
   ·rename_i ds ii
    exact list ds ii rfl hr fun F1 H1 R1=>let⟨a,e1,fa,vs,ha,rs⟩:=BY F1 H1 R1;⟨a,vs,e1,.inl (k7.of ha),rs⟩
   ·rename_i ds ii
    exact list ds ii rfl hr fun F1 H1 R1=>let⟨a,e1,fa,vs,ha,rs⟩:=BY F1 H1 R1;⟨a,vs,e1,.inl (k7.of ha),rs⟩
   ·rename_i ns ii
    obtain⟨n,z1,z2⟩:=ao hr
    subst z2
    refine seq _ (EJ EM (fG hN hv hd hcd) (hb.h B) hs) fun v F1 H1 R1 st1 r1=>?_
    obtain⟨a,e1,ha⟩:=BY F1 H1 R1
    rw[fj r1]
    exact .inl ⟨a,ns.map V.int,ii,.int n,e1,rfl,ha.sq,B9 V.int z1,q _ F1 H1 R1 st1 (.int n)⟩
   ·rename_i kvs
    exact dict kvs (fun F1 H1 R1=>let⟨a,e1,fa,ws,ha,pr⟩:=BY F1 H1 R1;⟨a,ws,e1,ha,pr⟩) hr
   ·rename_i kvs
    exact dict kvs (fun F1 H1 R1=>let⟨a,e1,fa,ws,ha,pr⟩:=BY F1 H1 R1;⟨a,ws,e1,ha,pr⟩) hr
   ·rename_i kvs
    exact yP kvs (fun F1 H1 R1=>let⟨a,e1,fa,ws,ha,pr⟩:=BY F1 H1 R1;⟨a,ws,e1,ha,pr⟩) hr
   ·rename_i kvs
    exact yP kvs (fun F1 H1 R1=>let⟨a,e1,fa,ws,ha,pr⟩:=BY F1 H1 R1;⟨a,ws,e1,ha,pr⟩) hr
   ·cases hr
  ·cases hg
 ·cases hg⟩
noncomputable def qh:U->Option Nat
 | .t (.tup ds)=>some ds.length
 | .t (.lst ds)=>some ds.length
 | .t (.str z)=>if z.length<=100000 then some z.length else none
 | .m (.lst ds)=>some ds.length
 | .b (.lst ds)=>some ds.length
 | .m (.dct ds)=>some ds.length
 | .b (.dct ds)=>some ds.length
 | .m (.Ab ds)=>some ds.length
 | .b (.Ab ds)=>some ds.length
 | .s ns=>some ns.length
 | _=>none
def gB (i:Nat):GD:=fun S=>match S[i]? with
 | some (some u)=>(qh u).map fun n=>(.int (n:Nat),S)
 | _=>none
theorem cU {α β:Type}{P:α->β->Prop}:∀{l:List α}{r:List β},Paired P l r->l.length=r.length
 | _,_,.nil=>rfl
 | _,_,.cons _ ps=>congrArg Nat.succ (cU ps)
def AN {K:Type} [DecidableEq K] (knd:HeapKind prog w K) (d:Addr) (hd:(d == sysModules)=false):
  MeetsIn prog w (Builtin.«dict.__len__» ⟨[.ref d],[]⟩) (fun _ R s=>∃xs,s.heap.DictOfH knd d xs/\R (.ok (.ret (.int xs.length s.toks))) {s with toks:=s.toks+1}):=
 .of_wp fun A R s hh=>by
  obtain⟨xs,hm,h⟩:=hh
  obtain⟨o,es,ep,ho,hc,hdat,he,his,hn⟩:=hm
  show wpAny _ _ (dictSize d >>= _) _ _ s
  unfold dictSize
  refine XY (XY (wpAny_dictEntries ho hdat (XZ ?_)))
  show wpAny _ _ (Builtin.Dict.pendingCount d >>= _) _ _ s
  refine XY (wpAny_pendingCount_other hd ?_)
  refine wpAny_ret_mkInt ?_
  rw[Nat.add_zero,size_of_entries he];exact h
def Dl {K:Type} [DecidableEq K] {knd:HeapKind prog w K}{s:Shared}{d:Addr}{xs:List (K×Addr×Value)}(hd:(d == sysModules)=false) (hm:s.heap.DictOfH knd d xs) (hfit:(xs.length:Int) < 2 ^ 63)
  (h:Q (.int xs.length (s.toks+1)) {s with toks:=s.toks+1+1}):wpAny (model prog w) A (Builtin.«len» ⟨[.ref d],[]⟩) (fun fin s'=>∃r,fin= .done (.ret r)/\Q r s') E s:=by
 unfold Builtin.«len»
 refine XY (m:=oneArg "len" _) (XZ ?_)
 refine XY (m:=callSpecial? (.ref d) (Str.ofString "__len__")) (Za (name:=Str.ofString "__len__") hm.typeIs F.slot_dict_len
  (call_meetsIn F.slot_dict_len hm.typeIs F.entry_dict_len (F.args_dict_len_1 _) (AN knd d hd) ⟨xs,hm,?_⟩))
 show wpAny _ _ _ _ _ {s with toks:=s.toks+1}
 refine XY (YI (XZ ?_))
 refine XY (wpAny_letGo ?_)
 show wpAny _ _ (if((xs.length:Nat):Int) < 0 then _ else _) _ _ _
 rw[if_neg (by lia)]
 show wpAny _ _ (if((xs.length:Nat):Int)≥2 ^ 63 then _ else _) _ _ _
 rw[if_neg (by lia)]
 exact XY (wpAny_mkInt (XZ ⟨_,rfl,h⟩))
def AO:dU X (.builtin "len") (fun xs H Q=>∃a kvs,xs=[V.ref a]/\H a=some (.dT kvs)/\Q (.int kvs.length) H):=by
 intro pins s σ H xs us Q I r h
 obtain⟨a,kvs,rfl,ha,q⟩:=h
 obtain⟨u,rfl,ru⟩:=vals1 r
 cases ru
 obtain⟨z,hd,ys,rel,dd⟩:=KC I.hok ha
 have hl:kvs.length=ys.length:=aav rel
 refine Calls.call_function_entry kind_len plain_len entry_len (args_len1 _) (Dl hd dd (by rw[<-hl];rw[aan] at z;lia) ?_)
 rw[<-hl]
 exact⟨.int kvs.length,H,I.tok _,⟨_,rfl⟩,q⟩
def eB (hg:Gl X "len") (hm:X.mg "len" =none) (hN:X.N[i]? =some x:=by rfl) (hv:wu X.env.scope x:=by first | exact Or.inl rfl | exact Or.inr (Or.inl rfl) | exact Or.inr (Or.inr rfl))
  (hd:(x == ("__debug__":Str))=false:=by decide) (hcd:(x == ("__classdict__":Str))=false:=by decide) (he:starEach [.Name x px] X.env=(false,eval (.Name x px) X.env) :: starEach [] X.env:=by rfl) (hpl:(backTo pos (starEach [] X.env)).any (·.1)=false:=by rfl):
  JD X (.Call (.Name "len" p) [.Name x px] [] pos) (gB i):=⟨fun B=>PE.orelse fun σ H Q hh=>by
 obtain⟨S,F,d,S',R,hg',q⟩:=hh
 unfold gB at hg'
 split at hg'
 ·rename_i u hS
  obtain⟨n,hn,hg'⟩:=ao hg'
  cases hg'
  obtain⟨v0,hv0,r0⟩:=R.rep i u hS
  have fin:=q (.int n) F H R (Step.refl ..) (.int _)
  have arg:PA X [.Name x px] (Kv (ym i) Lp):=gm (fG hN hv hd hcd) nN he
  have list:∀a vs,v0= .ref a->(k7 X.K H a vs\/q8 X.K H a vs)->vs.length=n->∃t',PE X (.Call (.Name "len" p) [.Name x px] [] pos) t'/\t' σ H Q:=fun a vs e1 ha hl=>
   ⟨_,iw kE hg hm ZQ arg (by decide) (by decide) he hpl,v0,hv0,a,vs,by rw[e1],ha,by rw[hl];exact fin⟩
  have dict:∀a ws,v0= .ref a->H a=some (.dK ws)->ws.length=n->∃t',PE X (.Call (.Name "len" p) [.Name x px] [] pos) t'/\t' σ H Q:=fun a vs e1 ha hl=>
   ⟨_,iw C4 hg hm ZQ arg (by decide) (by decide) he hpl,v0,hv0,a,vs,by rw[e1],ha,by rw[hl];exact fin⟩
  have yP:∀a ws,v0= .ref a->H a=some (.dT ws)->ws.length=n->∃t',PE X (.Call (.Name "len" p) [.Name x px] [] pos) t'/\t' σ H Q:=fun a vs e1 ha hl=>
   ⟨_,iw AO hg hm ZQ arg (by decide) (by decide) he hpl,v0,hv0,a,vs,by rw[e1],ha,by rw[hl];exact fin⟩
  unfold qh at hn
  split at hn
  ·cases hn;obtain⟨a,vs,e1,fa,ha,rs⟩:=R.sub.jf r0;exact list a vs e1 (.inr (.inl ha)) rs.length
  ·cases hn;obtain⟨a,vs,e1,fa,ha,rs⟩:=R.sub.iy r0;exact list a vs e1 (.inl (.inl ha)) rs.length
  ·rename_i z
   obtain⟨hl,rfl⟩:=bh hn
   exact⟨_,iw oN hg hm ZQ arg (by decide) (by decide) he hpl,v0,hv0,z,by rw[BW r0],iT hl,fin⟩
  ·cases hn;obtain⟨a,e1,fa,vs,ha,rs⟩:=r0;exact list a vs e1 (.inl (k7.of ha)) rs.length
  ·cases hn;obtain⟨a,e1,fa,vs,ha,rs⟩:=r0;exact list a vs e1 (.inl (k7.of ha)) rs.length
  ·cases hn;obtain⟨a,e1,fa,ws,ha,pr⟩:=r0;exact dict a ws e1 ha (cU pr)
  ·cases hn;obtain⟨a,e1,fa,ws,ha,pr⟩:=r0;exact dict a ws e1 ha (cU pr)
  ·cases hn;obtain⟨a,e1,fa,ws,ha,pr⟩:=r0;exact yP a ws e1 ha (cU pr)
  ·cases hn;obtain⟨a,e1,fa,ws,ha,pr⟩:=r0;exact yP a ws e1 ha (cU pr)
  ·cases hn;obtain⟨a,e1,ha⟩:=r0;exact list a _ e1 (.inl ha.sq) (by simp)
  ·cases hn
 ·cases hg'⟩
end
def sN (o:MO) (k d:D):Option MO:=match o with
 | .dct kvs=>(keyOf k).bind fun kk=>if kvs.length < 100000 then some (.dct (putD kvs kk d)) else none
 | .Ab kvs=>(Fg k).bind fun kk=>if kvs.length < 10000000 then some (.Ab (putD kvs kk d)) else none
 | .ins _ _=>none
 | .lst ds=>match k with
  | .int i=>(CZ ds.length i).map fun j=>.lst (ds.set j d)
  | _=>none
def IM (i:Nat) (gk gv:GD):GS:=fun S=>(gv S).bind fun p=>match p.2[i]? with
 | some (some _)=>(gk p.2).bind fun r=>(AI r.2 i fun o=>(sN o r.1 p.1).map fun o'=>(.cz,o')).map fun z=>.nx z.2
 | _=>none
theorem bz.set {F:Hp}{v:V}{d:D}(r:Rep F v d):∀{vs:List V}{ds:List D}(j:Nat),bz F vs ds->bz F (vs.set j v) (ds.set j d)
 | _,_,_,.nil=>.nil
 | _,_,0,.cons _ rs=>.cons r rs
 | _,_,j+1,.cons q rs=>.cons q (bz.set r j rs)
section
variable {X:Cx}{a b c e value k:Expr}{es:List Expr}{pos p p2 px pos':Pos}{x y:Str}{g ga gb gc gk gv:GD}{gA:GA}
def Fi (hu:X.A.units+20 < cLine) (hk:JD X k gk) (hval:JD X value gv) (hN:X.N[i]? =some x:=by rfl) (hv:wu X.env.scope x:=by first | exact Or.inl rfl | exact Or.inr (Or.inl rfl) | exact Or.inr (Or.inr rfl))
  (hd:(x == ("__debug__":Str))=false:=by decide) (hcd:(x == ("__classdict__":Str))=false:=by decide)
  (hs:swapsWith value (some (.Subscript (.Name x px) k pos')) pos.line X.env=pure false:=by rfl)
  (hs1:swapsWithSole [.Subscript (.Name x px) k pos'] value pos.line X.env=pure false:=by rfl) (hs2:swappedStores [.Subscript (.Name x px) k pos'] value X.env=pure none:=by rfl)
  (WB:(assignEach [.Subscript (.Name x px) k pos'] X.env).map (·.2)=[assign (.Subscript (.Name x px) k pos') X.env]:=by rfl)
  (WC:∀v,assign (.Subscript (.Name x px) k pos') X.env v=(do
   let ov <-holding [v] (eval (.Name x px) X.env)
   let iv <-holding [v,ov] (eval k X.env)
   standAt pos'
   holding [v,ov,iv] (setItem ov iv v)
   release [v,ov,iv] []):=by intro _;rfl):
  JS X (.Assign [.Subscript (.Name x px) k pos'] value pos) (IM i gk gv):=⟨fun B=>PS.orelse fun D σ H hh=>by
 obtain⟨S,F,o,R,hg,q⟩:=hh
 obtain⟨⟨d,S1⟩,h1,hg⟩:=ah hg
 dsimp only at hg
 split at hg
 ·rename_i u0 Pg
  obtain⟨⟨kd,S2⟩,h2,hg⟩:=ah hg
  obtain⟨⟨nd,S3⟩,h3,hg⟩:=ao hg
  subst hg
  obtain⟨u,u',mo,mo',hS,O5,hio,hf,O6,rfl⟩:=vt h3
  obtain⟨XC,hw,hf2⟩:=ao hf
  cases hf2
  have hv0:∀F1 H1,Rel X.K B S1 σ F1 H1->∃v,σ[i]? =some (some v):=fun F1 H1 R1=>let⟨v,k1,_⟩:=R1.rep i u0 Pg;⟨v,k1⟩
  cases mo with
  | dct kvs=>
   obtain⟨kk,e1,hw⟩:=ah hw
   obtain⟨hl,rfl⟩:=bh hw
   refine⟨_,BL hu (fG hN hv hd hcd) (hk.h B) (hval.h B) hs,S,F,d,S1,R,h1,fun v F1 H1 R1 st1 r1=>?_⟩
   obtain⟨v0,hv0⟩:=hv0 F1 H1 R1
   refine⟨v0,hv0,S1,F1,kd,S2,R1,h2,fun y F2 H2 R2 st2 r2=>?_⟩
   obtain⟨v',k1,k2⟩:=R2.rep i u hS
   rw[hv0] at k1
   cases k1
   obtain⟨a,o2,rfl,fa,eo,k3⟩:=k2.cY O5
   rw[hio] at eo
   cases eo
   obtain⟨ws,ha,pr⟩:=k3
   refine⟨a,_,rfl,yu.ky ha (vC r2 e1) (by rw[cU pr];exact X7 hl (by decide)),?_⟩
   obtain⟨R3,st3⟩:=R2.write (ho:=.dK (putK ws kk v)) hS O6 hv0 ⟨_,aH,sM pr (r1.le st2.ext.le)⟩
   exact q σ F2 _ R3 fun b o z=>st2.ext.le b o (st1.ext.le b o z)
  | ins C kvs=>cases hw
  | Ab kvs=>
   obtain⟨kk,e1,hw⟩:=ah hw
   obtain⟨hl,rfl⟩:=bh hw
   refine⟨_,BL hu (fG hN hv hd hcd) (hk.h B) (hval.h B) hs,S,F,d,S1,R,h1,fun v F1 H1 R1 st1 r1=>?_⟩
   obtain⟨v0,hv0⟩:=hv0 F1 H1 R1
   refine⟨v0,hv0,S1,F1,kd,S2,R1,h2,fun y F2 H2 R2 st2 r2=>?_⟩
   obtain⟨v',k1,k2⟩:=R2.rep i u hS
   rw[hv0] at k1
   cases k1
   obtain⟨a,o2,rfl,fa,eo,k3⟩:=k2.cY O5
   rw[hio] at eo
   cases eo
   obtain⟨ws,ha,pr⟩:=k3
   obtain⟨b',rfl,hb'⟩:=yO R2.sub r2 e1
   refine⟨a,_,rfl,yu.t ha hb' (by rw[cU pr];exact X7 hl (by decide)),?_⟩
   obtain⟨R3,st3⟩:=R2.write (ho:=.dT (putK ws kk v)) hS O6 hv0 ⟨_,aH,sM pr (r1.le st2.ext.le)⟩
   exact q σ F2 _ R3 fun b o z=>st2.ext.le b o (st1.ext.le b o z)
  | lst ds=>
   unfold sN at hw
   dsimp only at hw
   split at hw
   ·rename_i ii
    obtain⟨j,e1,rfl⟩:=ao hw
    refine⟨_,Eo (hval.h B) (Lc (fG hN hv hd hcd) (hk.h B) set_list WC) hs1 hs2 WB,S,F,d,S1,R,h1,fun v F1 H1 R1 st1 r1=>?_⟩
    obtain⟨v0,hv0⟩:=hv0 F1 H1 R1
    refine⟨v0,hv0,S1,F1,_,S2,R1,h2,fun y F2 H2 R2 st2 r2=>?_⟩
    obtain⟨v',k1,k2⟩:=R2.rep i u hS
    rw[hv0] at k1
    cases k1
    obtain⟨a,o2,rfl,fa,eo,k3⟩:=k2.cY O5
    rw[hio] at eo
    cases eo
    obtain⟨vs,ha,rs⟩:=k3
    rw[fj r2]
    refine⟨a,vs,_,j,rfl,rfl,ha,by rw[rs.length];exact e1,?_⟩
    obtain⟨R3,st3⟩:=R2.write (ho:=.lst (vs.set j v)) hS O6 hv0 ⟨_,aH,rs.set (r1.le st2.ext.le) j⟩
    exact q σ F2 _ R3 fun b o z=>st2.ext.le b o (st1.ext.le b o z)
   ·cases hw
 ·cases hg⟩
def Rel.Td {F:Hp}{a:Addr}{o':HO}(R:Rel K B S σ F H) (hn:¬cY S σ a) (hf:F a=none) (hB:B.H a=none) (hh:H a=some o) (hz:∀ob u,o≠.iN ob u):Rel K B S σ F (upd H a o'):=by
 have ND:∀b ob w,H b=some (.iN ob w)->upd H a o' b=some (.iN ob w):=fun b ob w z=>by
  rw[aE (fun e=>by rw[e,hh] at z;cases z;exact hz _ _ rfl)];exact z
 refine⟨fun b u z=>?_,R.len,fun j w z=>?_,R.Az,R.own,R.bor,R.par,⟨R.ext.le,fun b u z n=>?_,R.ext.i9,fun b u z=>?_,fun b ob w z=>ND b ob w (R.ext.iN b ob w z)⟩⟩
 ·have hb:b≠a:=fun e=>by rw[e,hf] at z;cases z
  rw[aE hb];exact R.sub b u z
 ·obtain⟨v,h1,h2⟩:=R.rep j w z
  refine⟨v,h1,h2.le (fun _ _ z=>z) ND fun c hm hc=>?_⟩
  have hca:c≠a:=fun e=>hn ⟨j,w,z,hm,by rw[h1,hc,e]⟩
  obtain⟨c',_,e,f,_⟩:=h2.cY hm
  rw[hc] at e
  cases e
  exact⟨fun o z=>by rw[aE hca];exact z,f⟩
 ·rw[aE (fun e=>by rw[e,hB] at z;cases z)];exact R.ext.keep b u z n
 ·by_cases hb:b=a
  ·exact⟨o',by rw[hb,aH]⟩
  ·rw[aE hb];exact R.ext.there b u z
noncomputable def sO:List (Str×GD)->SS->Option (List (Key×D)×SS)
 | [],S=>some ([],S)
 | (z,g) :: r,S=>(g S).bind fun p=>(sO r p.2).map fun q=>((.inr z,p.1) :: q.1,q.2)
def sP (kvs more:List (Key×D)):List (Key×D):=more.foldl (fun acc kv=>putD acc kv.1 kv.2) kvs
theorem sQ {F:Hp}:∀{more:List (Key×V)}{KS:List (Key×D)}{ws:List (Key×V)}{kvs:List (Key×D)},Paired (fC F) more KS->Paired (fC F) ws kvs->Paired (fC F) (lI ws more) (sP kvs KS)
 | _,_,_,_,.nil,h=>h
 | _,_,ws,kvs,@Paired.cons _ _ _ p q _ _ r rs,h=>by
  have e:=sM (k:=q.1) h r.2
  show Paired (fC F) (lI (putK ws p.1 p.2) _) (sP (putD kvs q.1 q.2) _)
  rw[r.1]
  exact sQ rs e
def Ca (ya:List (Str×GD)):GE:=fun S=>(sO ya S).map fun p=>(.m (.dct (sP [] p.1)),p.2)
structure QN (X:Cx) (pos:Pos) (keys:List (Option Expr)) (values:List Expr) (ya:List (Str×GD)):Prop where
 h:∀B,OD X pos keys values (ya.map fun p=>(tC (.str p.1),tD X.K B p.2))
def IP:QN X pos [] [] []:=⟨fun B=>Ib⟩
def sR {pk:Pos}{v:Expr}{ks:List (Option Expr)}{vs:List Expr}(hv:JD X v g) (hr:QN X pos ks vs ya):QN X pos (some (.Constant (.str z) j pk) :: ks) (v :: vs) ((z,g) :: ya):=⟨fun B=>EG Eh (hv.h B) (hr.h B)⟩
theorem yQ {B:Base}{σ:St}:∀{ya:List (Str×GD)}{S0 S:SS}{F0 H0 F H:Hp}{kvs:List (Key×D)}{S':SS}{Q:List (V×V)->Hp->Prop},Rel X.K B S σ F H->Step S0 S σ F0 H0 F H->sO ya S=some (kvs,S')->
  (∀(ws:List (Key×V)) (F' H':Hp),Rel X.K B S' σ F' H'->Step S0 S' σ F0 H0 F' H'->Paired (fC F') ws kvs->Q (ws.map fun kv=>(kV kv.1,kv.2)) H')->sf (ya.map fun p=>(tC (.str p.1),tD X.K B p.2)) σ H Q
 | [],S0,S,F0,H0,F,H,kvs,S',Q,R,st,h,q=>by cases h;exact q [] F H R st .nil
 | (z,g) :: r,S0,S,F0,H0,F,H,kvs,S',Q,R,st,h,q=>by
  obtain⟨⟨d,S1⟩,h1,h⟩:=ah h
  obtain⟨⟨WD,S2⟩,h2,h⟩:=ao h
  cases h
  show tC (.str z) σ H fun x H1=>tD X.K B g σ H1 fun y H2=>sf _ σ H2 fun ps H3=>Q ((x,y) :: ps) H3
  refine⟨S,F,d,S1,R,h1,fun v F1 H1 R1 st1 r1=>?_⟩
  refine yQ (S0:=S1) (F0:=F1) (H0:=H1) R1 (Step.refl ..) h2 fun ws F2 H2 R2 st2 pr=>?_
  exact q ((.inr z,v) :: ws) F2 H2 R2 ((st.trans st1).trans st2) (.cons ⟨rfl,r1.le st2.ext.le⟩ pr)
def IQ {keys:List (Option Expr)}{values:List Expr}(h:QN X pos keys values ya) (hall:keys.all (·.isSome)=true:=by rfl) (hl:keys.length=values.length:=by rfl) (h0:keys≠[]:=by decide) (Sk:keys.length<=15:=by decide) (hk:ya.length<=15:=by decide):
  JE X (.Dict keys values pos) (Ca ya):=⟨fun B=>(Ic (h.h B) hall hl h0 Sk).imp fun σ H Q hh=>by
 obtain⟨S,F,u,S',R,hg,q⟩:=hh
 obtain⟨⟨kvs,S1⟩,h1,hg⟩:=ao hg
 cases hg
 intro p hp
 have n:=fH.obj (F:=F) hp (.dK [])
 have hn:¬cY S σ p:=fun m=>by obtain⟨o,ho⟩:=R.has m;rw[hp] at ho;cases ho
 refine yQ (S0:=S) (F0:=F) (H0:=upd H p (.dK [])) (R.new n (R.sub.same n.same)) (Step.refl ..) h1 fun ws F1 H1 R1 st1 pr=>?_
 have hp1:H1 p=some (.dK []):=st1.ext.keep p _ aH hn
 have hf1:F1 p=none:=st1.ext.i9 p _ aH hn (R.sub.fresh hp)
 have hn1:¬cY S1 σ p:=fun m=>hn (st1.mu p m)
 have hB:B.H p=none:=none_of R.ext.there hp
 have len:ws.length<=15:=by
  rw[cU pr]
  have:∀{ya:List (Str×GD)}{S:SS}{kvs:List (Key×D)}{S':SS},sO ya S=some (kvs,S')->kvs.length=ya.length:=fun {ya}=>by
   induction ya with
   | nil=>intro S kvs S' h;cases h;rfl
   | cons p r ih=>
    intro S kvs S' h
    obtain⟨⟨d,T1⟩,k1,h⟩:=ah (show(p.2 S).bind _=_ from h)
    obtain⟨⟨WE,T2⟩,k2,h⟩:=ao h
    cases h
    show WE.length+1=r.length+1
    rw[ih k2]
  rw[this h1]
  exact hk
 refine⟨hp1,ws,rfl,len,?_⟩
 have R2:=R1.Td (o':=.dK (lI [] ws)) hn1 hf1 hB hp1 (fun _ _ z=>by cases z)
 refine q (.ref p) F1 _ R2 ⟨⟨st1.ext.le,fun b o z m=>?_,fun b o z m f=>?_,fun b o z=>?_,fun b ob w z=>?_⟩,st1.mu,st1.slots⟩ ⟨p,rfl,hp,hf1,⟨_,aH,sQ pr .nil⟩,hn1,hB⟩
 ·have hb:b≠p:=bR z hp
  rw[aE hb]
  exact st1.ext.keep b o (by rw[aE hb];exact z) m
 ·have hb:b≠p:=bR z hp
  exact st1.ext.i9 b o (by rw[aE hb];exact z) m f
 ·have hb:b≠p:=bR z hp
  rw[aE hb]
  exact st1.ext.there b o (by rw[aE hb];exact z)
 ·have hb:b≠p:=bR z hp
  rw[aE hb]
  exact st1.ext.iN b ob w (by rw[aE hb];exact z)⟩
end
noncomputable def jk (g:Option GD) (S:SS):Option (Option Int×SS):=match g with
 | none=>some (none,S)
 | some g=>(g S).bind fun p=>match p.1 with
  | .int i=>some (some i,p.2)
  | _=>none
inductive WG (K:AAA) (B:Base) (g:Option GD) (σ:St) (H:Hp) (Q:Option Int->Hp->Prop):Prop
 | mk (S:SS) (F:Hp) (o:Option Int) (S':SS) (R:Rel K B S σ F H) (hg:jk g S=some (o,S')) (q:∀F' H',Rel K B S' σ F' H'->Step S S' σ F H F' H'->Q o H')
structure JO (X:Cx) (e:Option Expr) (g:Option GD):Prop where
 h:∀B,PO X e (WG X.K B g)
def PO.imp {e:Option Expr}{t t':TO}(h:PO X e t) (k:∀σ H Q,t' σ H Q->t σ H Q):PO X e t':=fun pins s σ H Q I q=>h pins s σ H Q I (k σ H Q q)
def ir :JO X none none:=⟨fun B=>Ih.imp fun σ H Q ⟨S,F,o,S',R,h,q⟩=>by cases h;exact q F H R (Step.refl ..)⟩
def iu {e:Expr}(h:JD X e g):JO X (some e) (some g):=⟨fun B=>(Ii (h.h B)).imp fun σ H Q hh=>by
 obtain⟨S,F,o,S',R,h,q⟩:=hh
 obtain⟨⟨d,S1⟩,h1,h⟩:=ah (show(g S).bind _=_ from h)
 cases d <;> try (cases h)
 exact⟨S,F,_,_,R,h1,fun v F1 H1 R1 st1 r1=>⟨_,fj r1,q F1 H1 R1 st1⟩⟩⟩
def IS (d:D) (lo hi:Option Int):Option U:=match d with
 | .tup ds=>some (.t (.tup (cutD ds lo hi)))
 | .lst ds=>some (.m (.lst (cutD ds lo hi)))
 | .str z=>if z.length<=100000 then some (.t (.str (Txt.slice z lo hi))) else none
 | _=>none
def bz.cut {F:Hp}(rs:bz F vs ds) (lo hi:Option Int):bz F (uG vs lo hi) (cutD ds lo hi):=by
 unfold uG cutD
 rw[rs.length]
 exact(rs.drop _).take _
def Te:V->Option Int->Option Int->Hp->VK->Prop:=fun x lo hi H Q=>∃F d u,Sub F H/\Rep F x d/\IS d lo hi=some u/\∀v F' H',fH F H F' H'->Sub F' H'->C9 H F' H' v u->Q v H'
def Tf :OG X Te:=by
 intro pins s σ H x v vl vu lo hi sl Q I rx hs pl pu ⟨F,d,u,sb,r,hf,q⟩
 cases d with
 | tup ds=>
  cases hf
  have r0:=r
  obtain⟨a,xs,rfl,fa,ha,rs⟩:=sb.jf r
  have hl:=rs.length
  by_cases hw:HT.ff xs.length 0 lo=0/\HT.ff xs.length xs.length hi=xs.length
  ·cases rx
   obtain⟨its,rv,ht,hz⟩:=I.tuple (.inl ha)
   have hlen:its.toArray.size=xs.length:=by rw[X0];exact rv.length.symm
   refine⟨"tuple",_,YA.lookup,ht.typeIs,?_⟩
   refine HT.C7 ht hs pl pu (by rw[hlen];exact hw) ⟨.ref a,H,I,rfl,q _ F H (fH.refl ..) sb ?_⟩
   have e:cutD ds lo hi=ds:=by
    unfold cutD
    rw[<-hl,hw.1,hw.2,List.drop_zero,Nat.sub_zero,List.take_of_length_le (by rw[hl];exact X6 _)]
   show Rep F _ (.tup (cutD ds lo hi))
   rw[e]
   exact r0
  ·exact Lw pins s σ H (.ref a) v vl vu lo hi sl Q I rx hs pl pu ⟨a,xs,rfl,.inl ha,hw,fun p hp=>q _ _ _ (fH.root sb hp _) (sb.pZ hp) (.tup aH ((rs.cut lo hi).le (iJ (sb.fresh hp))))⟩
 | lst ds=>
  cases hf
  obtain⟨a,xs,rfl,fa,ha,rs⟩:=sb.iy r
  exact BR pins s σ H (.ref a) v vl vu lo hi sl Q I rx hs pl pu ⟨a,xs,rfl,.inl ha,fun p hp=>q _ F _ (fH.obj hp _) (sb.same (fH.obj (F:=F) hp _).same) ⟨p,rfl,hp,sb.fresh hp,_,aH,rs.cut lo hi⟩⟩
 | str z=>
  obtain⟨hl,rfl⟩:=bh hf
  cases r
  exact LB pins s σ H _ v vl vu lo hi sl Q I rx hs pl pu ⟨z,rfl,iT hl,fun _=>q _ F H (fH.refl ..) sb (.str _)⟩
 | cz=>cases hf
 | bl b=>cases hf
 | int b=>cases hf
def xh (g:GD) (lo hi:Option GD):GE:=fun S=>(g S).bind fun p=>(jk lo p.2).bind fun l=>(jk hi l.2).bind fun h=>(IS p.1 l.1 h.1).map fun u=>(u,h.2)
section
variable {X:Cx}{a b c e:Expr}{lo hi:Option Expr}{pos p p2 px:Pos}{x y:Str}{g ga:GD}{gA:GA}{gl gh:Option GD}
def gD (he:JD X e g) (hl:JO X lo gl) (hh:JO X hi gh):JE X (.Subscript e (.Slice lo hi none p2) pos) (xh g gl gh):=⟨fun B=>(yx Tf (he.h B) (hl.h B) (hh.h B)).imp fun σ H Q hh=>by
 obtain⟨S,F,u,S',R,hg,q⟩:=hh
 obtain⟨⟨d,S1⟩,h1,hg⟩:=ah hg
 obtain⟨⟨l,S2⟩,h2,hg⟩:=ah hg
 obtain⟨⟨h,S3⟩,h3,hg⟩:=ah hg
 obtain⟨u',h4,hg⟩:=ao hg
 cases hg
 exact⟨S,F,d,S1,R,h1,fun v F1 H1 R1 st1 r1=>⟨S1,F1,l,S2,R1,h2,fun F2 H2 R2 st2=>⟨S2,F2,h,_,R2,h3,fun F3 H3 R3 st3=>⟨F3,d,_,R3.sub,r1.le (fun b o z=>st3.ext.le b o (st2.ext.le b o z)),h4,fun v F4 H4 n s4 r4=>q v F4 H4 (R3.new n s4) (((st1.trans st2).trans st3).trans n.step) (r4.Dc R3 ((st1.trans st2).trans st3))⟩⟩⟩⟩⟩
noncomputable def uM (ns:List Int) (lo hi:Option Int):List Int:=(ns.drop (HT.ff ns.length 0 lo)).take (HT.ff ns.length ns.length hi - HT.ff ns.length 0 lo)
def Fj (i:Nat) (lo hi:Option GD):GE:=fun S=>match S[i]? with
 | some (some (.s ns))=>(jk lo S).bind fun l=>(jk hi l.2).map fun h=>(.m (.lst ((uM ns l.1 h.1).map D.int)),h.2)
 | _=>none
theorem vD {F:Hp}:∀ns:List Int,bz F (ns.map V.int) (ns.map D.int)
 | []=>.nil
 | n :: ns=>.cons (.int n) (vD ns)
def Dm (ns:List Int) (lo hi:Option Int):uG (ns.map V.int) lo hi=(uM ns lo hi).map V.int:=by
 unfold uG uM
 rw[Yh,List.map_take,List.map_drop]
def Dn (hl:JO X lo gl) (hh:JO X hi gh) (hN:X.N[i]? =some x:=by rfl) (hv:wu X.env.scope x:=by first | exact Or.inl rfl | exact Or.inr (Or.inl rfl) | exact Or.inr (Or.inr rfl))
  (hd:(x == ("__debug__":Str))=false:=by decide) (hcd:(x == ("__classdict__":Str))=false:=by decide):JE X (.Subscript (.Name x px) (.Slice lo hi none p2) pos) (Fj i gl gh):=⟨fun B=>(yx BR (fG hN hv hd hcd) (hl.h B) (hh.h B)).imp fun σ H Q hh=>by
 obtain⟨S,F,u,S',R,hg,q⟩:=hh
 unfold Fj at hg
 split at hg
 ·rename_i ns hS
  obtain⟨⟨l,S1⟩,h1,hg⟩:=ah hg
  obtain⟨⟨h,S2⟩,h2,hg⟩:=ao hg
  cases hg
  obtain⟨v0,hv0,a,rfl,sc⟩:=R.rep i _ hS
  refine⟨_,hv0,S,F,l,S1,R,h1,fun F1 H1 R1 st1=>⟨S1,F1,h,_,R1,h2,fun F2 H2 R2 st2=>?_⟩⟩
  have WH:=(sc.le st1.ext.iN).le st2.ext.iN
  refine⟨a,_,rfl,WH.sq,fun p hp=>?_⟩
  rw[Dm]
  have n:=fH.obj (F:=F2) hp (.lst ((uM ns l h).map V.int))
  have st:=st1.trans st2
  exact q _ F2 _ (R2.new n (R2.sub.same n.same)) (st.trans n.step) (C9.Dc (u:=.m (.lst ((uM ns l h).map D.int))) R2 st ⟨p,rfl,hp,R2.sub.fresh hp,_,aH,vD _⟩)
 ·cases hg⟩
def Tg (d:D):Prop:=(toPy d).showable=true/\(toPy d).depth<=20/\(toPy d).shown.length<=sizeLine
noncomputable instance (d:D):Decidable (Tg d):=by unfold Tg;infer_instance
def Cb:List D->Option U
 | [d]=>if Tg d then some (.t (.str (toPy d).shown)) else none
 | _=>none
def IT {t:Tok}(hg:Gl X x) (hm:X.mg x=some (.str z t)) (hd:(x == ("__debug__":Str))=false:=by decide):JD X (.Name x pos) (eC (.str z)):=Dd rfl (mR (v:=.str z) hg hm ⟨t,rfl⟩ hd)
def gF {i:Int}{t:Tok}(hg:Gl X x) (hm:X.mg x=some (.int i t)) (hd:(x == ("__debug__":Str))=false:=by decide):JD X (.Name x pos) (eC (.int i)):=Dd rfl (mR (v:=.int i) hg hm ⟨t,rfl⟩ hd)
end
def Fo {x y:Str}{c:Addr}(clos:closureFor scope X.env=pure [(y,c)]) (je:∀z∈scope.names,z.2≠.cell) (kind:scope.kind= .function) (names:∀z∈scope.names,z.2= .local->scope.names.lookup z.1=some .local)
  (loc:scope.names.lookup x=some .local) (hc:X.env.cells.lookup y=some c) (only:∀z∈scope.names,z.2= .free->z.1=y) (ne:x≠y) (hN:X.N[i]? =some y) (vis:X.env.scope.names.lookup y=some .cell) (rel:(relabel scope X.env).names.lookup y=some .cell):
  fh X x [y] [i] scope [(y,c)]:=by
 have look:∀n c',([(y,c)]:List (Str×Addr)).lookup n=some c'->n=y/\c'=c:=fun n c' h=>by
  rw[ZE] at h
  cases e:n == y with
  | true=>rw[e] at h;cases h;exact⟨eq_of_beq e,rfl⟩
  | false=>rw[e] at h;cases h
 have self:([(y,c)]:List (Str×Addr)).lookup y=some c:=by rw[ZE,beq_self_eq_true]
 refine⟨clos,je,kind,names,loc,fun n c' h=>?_,fun n h=>?_,?_,rfl,fun j n h=>?_,fun n h=>?_⟩
 ·obtain⟨rfl,rfl⟩:=look n c' h
  exact hc
 ·have key:n=y:=by
   have go:∀k,(k=NameKind.cell\/k=NameKind.free)->(relabel scope X.env).names.lookup n=some k->n=y:=fun k hk e=>by
    have m:=YD e
    unfold relabel at m
    obtain⟨⟨n',k'⟩,hm,q⟩:=Yz.mp m
    by_cases hf:k'= .free
    ·have h0:n'=y:=only _ hm hf
     have e1:n'=n:=by
      have h1:=congrArg Prod.fst q
      dsimp only at h1
      split at h1 <;> exact h1
     exact e1.symm.trans h0
    ·have z:(k' == NameKind.free)=false:=by simpa using hf
     simp only[z,aam] at q
     have q2:k'=k:=by
      have:=congrArg Prod.snd q
      simpa using this
     rcases hk with rfl | rfl
     ·exact absurd q2 (je _ hm)
     ·exact absurd q2 hf
   rcases h with h | h
   ·exact go _ (.inl rfl) h
   ·exact go _ (.inr rfl) h
  subst key
  exact⟨c,self⟩
 ·simp[ne]
 ·cases j with
  | zero=>cases h;exact⟨i,rfl,hN,.inr (.inl vis)⟩
  | succ j=>simp at h
 ·have e:n=y:=by simpa using h
  subst e
  exact⟨.inl rel,⟨c,self⟩,by rw[vis];decide⟩
section
variable {X:Cx}{a b c e:Expr}{es:List Expr}{pos p p2 px:Pos}{x y:Str}{f:FM}{fa:Addr}{fd:FuncData}{ps:List Str}{k n:Nat}
def Fp (F:gU X.prog X.w X.K X.mg X.base uI k fa fd ps (spT X.K 0 f)) (hr:dN k X.A) (hg:Gl X x) (hm:X.mg x=some (.ref fa)) (hk:PySem.W.keepIn X.K (.ref fa)=true) (hb:Binds X.K fd ps [])
  (hdb:(x == ("__debug__":Str))=false:=by decide):JE X (.Call (.Name x p) [] [] pos) (aX f bT):=⟨fun B=>(EB F hr hg hm hk hb .nil KG hdb).imp fun σ H Q hh=>by
 obtain⟨S,F0,u,S',R,hg,q⟩:=hh
 obtain⟨⟨us,S1⟩,h1,hg⟩:=ah hg
 cases h1
 have hg:=(vo hg).2
 obtain⟨ws,h2,hg⟩:=ah hg
 cases h2
 obtain⟨⟨r,outs⟩,h3,hg⟩:=ah hg
 obtain⟨S2,h4,hg⟩:=ao hg
 cases hg
 have WI:Step S S σ F0 H F0 H:=Step.refl ..
 refine⟨rfl,F0,[],r,outs,R.sub,.nil,ZP,h3,fun v F2 H2 po rn=>?_⟩
 obtain⟨R2,st2,mu⟩:=gW (vs:=[]) (us:=[]) (ws:=[]) R WI .nil rfl h4 ZP po
 refine q v F2 H2 R2 st2 ?_
 cases r with
 | t d=>exact rn
 | b o=>cases rn
 | v i=>cases rn
 | s i=>cases rn
 | f i=>cases rn
 | x cx kx=>cases rn
 | m o=>
  obtain⟨a,e,h0,f,h⟩:=rn
  refine⟨a,e,h0,f,h,fun m=>?_,none_of R.ext.there h0⟩
  obtain⟨o',ho⟩:=R.has (mu a m)
  rw[h0] at ho
  cases ho⟩
def iY (a:List D) (o:MO) (h:dB o=false):hAppend a o=none:=by
 cases o with
 | lst ds=>cases h
 | dct k=>unfold hAppend;split <;> first | rfl | (rename_i e;cases e)
 | Ab k=>unfold hAppend;split <;> first | rfl | (rename_i e;cases e)
 | ins C k=>unfold hAppend;split <;> first | rfl | (rename_i e;cases e)
def Fq (a:List D) (o:MO) (h:dB o=false):lO a o=none:=by
 cases o with
 | lst ds=>cases h
 | dct k=>unfold lO;split <;> first | rfl | (rename_i e;cases e)
 | Ab k=>unfold lO;split <;> first | rfl | (rename_i e;cases e)
 | ins C k=>unfold lO;split <;> first | rfl | (rename_i e;cases e)
end
section
variable {X:Cx}
end
section
variable {prog:Program}{w:World}{A:Around}{R:Result->Shared->Prop}{I:Addr}{fp wr:List Addr}{G:Array GenState->Array GenState->Prop}{n:Nat}{P:Nat->Value->Prop}{St:Nat->Shared->Prop}
end
section
variable {prog:Program}{w:World}{A:Around}{E:AAB}{s:Shared}
end
noncomputable def lU:List D->Option (List Str)
 | []=>some []
 | .str b :: ds=>(lU ds).map fun bs=>b :: bs
 | _=>none
theorem sS {F:Hp}:∀{vs:List V}{ds:List D}{bs:List Str},bz F vs ds->lU ds=some bs->vs=bs.map V.str
 | _,_,_,.nil,h=>by cases h;rfl
 | _,_,_,@bz.cons _ v d vs ds r rs,h=>by
  cases d <;> try (cases h;done)
  obtain⟨bs,h1,h2⟩:=ao (show(lU ds).map _=_ from h)
  subst h2
  cases r
  rw[sS rs h1]
  rfl
section
variable {X:Cx}{a:Expr}{pos p p1 p2:Pos}{ga:GD}
end
noncomputable def nF:U->Option (List D)
 | .t (.lst ds)=>some ds
 | .m (.lst ds)=>some ds
 | .b (.lst ds)=>some ds
 | _=>none
def IU (n:Bool) (i:Nat) (g:GD):GD:=fun S=>(g S).bind fun p=>match p.2[i]? with
 | some (some u)=>(nF u).bind fun ds=>if cy ds<=40 then some (.bl (n != inD p.1 ds),p.2) else none
 | _=>none
section
variable {X:Cx}{a:Expr}{x:Str}{px pos:Pos}{ga:GD}
abbrev LR (X:Cx) (n:Bool):V->V->Hp->VK->Prop:=fun x y H Q=>∃F d ds p vs,y= .ref p/\Sub F H/\Rep F x d/\k7 X.K H p vs/\bz F vs ds/\cy ds<=40/\Q (.bl (n != inD d ds)) H
def LS (hu:X.A.units+64 < cLine):qL X (compareOp .In) (LR X false):=by
 rintro pins s σ H x y v u Q I rx ry ⟨F,d,ds,p,vs,rfl,sb,r1,hp,rs,hd,q⟩
 cases ry
 obtain⟨its,rv,pl,hz⟩:=I.list hp
 obtain⟨h1,h2⟩:=kg I sb (A:=X.A.in1) r1 rx rs rv (by show X.A.units+1+cy ds < cLine;lia)
 refine SeqAt.in_listAt (w4 F d) pl.isList (fun y hy=>h1 y (by simpa using hy)) ⟨.bl _,H,I,rfl,?_⟩
 rw[show its.toArray.any (w4 F d)=its.any (w4 F d) by simp,h2]
 simpa using q
def IV {n:Bool}{Q:VK}(h:tD X.K B (IU n i ga) σ H Q):Kr (LR X n) (tD X.K B ga) (ym i) σ H Q:=by
 obtain⟨S,F,d,S',R,hg,q⟩:=h
 obtain⟨⟨d1,S1⟩,h1,hg⟩:=ah hg
 dsimp only at hg
 split at hg
 ·rename_i u hS
  obtain⟨ds,h2,hg⟩:=ah hg
  obtain⟨hd,hg⟩:=bh hg
  cases hg
  refine⟨S,F,d1,_,R,h1,fun v F1 H1 R1 st1 r1=>?_⟩
  obtain⟨v0,hv0,r0⟩:=R1.rep i u hS
  have fin:=q (.bl _) F1 H1 R1 st1 (.bl _)
  have go:∀a vs,v0= .ref a->k7 X.K H1 a vs->bz F1 vs ds->ym i σ H1 fun y H2=>LR X n v y H2 Q:=fun a vs e ha rs=>⟨v0,hv0,F1,d1,ds,a,vs,e,R1.sub,r1,ha,rs,hd,fin⟩
  unfold nF at h2
  split at h2
  ·cases h2;obtain⟨a,vs,e1,fa,ha,rs⟩:=R1.sub.iy r0;exact go a vs e1 (.inl ha) rs
  ·cases h2;obtain⟨a,e1,fa,vs,ha,rs⟩:=r0;exact go a vs e1 (k7.of ha) rs
  ·cases h2;obtain⟨a,e1,fa,vs,ha,rs⟩:=r0;exact go a vs e1 (k7.of ha) rs
  ·cases h2
 ·cases hg
def LU (hu:X.A.units+64 < cLine) (ha:JD X a ga) (hN:X.N[i]? =some x:=by rfl) (hv:wu X.env.scope x:=by first | exact Or.inl rfl | exact Or.inr (Or.inl rfl) | exact Or.inr (Or.inr rfl)) (hd:(x == ("__debug__":Str))=false:=by decide) (hcd:(x == ("__classdict__":Str))=false:=by decide)
  (hm:behindInMarks .In (.Name x px)=false:=by with_unfolding_all rfl):JT X (.Compare a [.In] [.Name x px] pos) (qB (IU false i ga)):=⟨fun B=>(wJ (LS hu) (ha.h B) (fG hN hv hd hcd) hm).imp fun σ H Q ⟨S,F,k,S',R,hg,q⟩=>IV ⟨S,F,.bl k,S',R,jE hg,fun v F' H' R' st r=>⟨k,jO r,q F' H' R' st⟩⟩⟩
end
noncomputable def look:U->Option D
 | .t d=>some d
 | .m (.lst ds)=>some (.lst ds)
 | .b (.lst ds)=>some (.lst ds)
 | _=>none
def Ph (f:List D->Option U) (i:Nat):GD:=fun S=>match S[i]? with
 | some (some u)=>(look u).bind fun d=>match f [d] with
  | some (.t e)=>if k8 e=true then some (e,S) else none
  | _=>none
 | _=>none
def Ft {F:Hp}{v:V}{e:D}(h:k8 e=true) (r:Rep F v e):Rep F' v e:=by
 cases r with
 | cz=>exact .cz
 | bl b=>exact .bl b
 | int b=>exact .int b
 | str b=>exact .str b
 | tup _ _=>cases h
 | lst _ _=>cases h
section
variable {X:Cx}{x y:Str}{p px py pos:Pos}{f:List D->Option U}
end
section
variable (S:SS) (i:Nat) (g:GD)
@[simp] theorem QO (f:List D->Option U):Ph f i S=match S[i]? with
 | some (some u)=>(look u).bind fun d=>match f [d] with
  | some (.t e)=>if k8 e=true then some (e,S) else none
  | _=>none
 | _=>none:=rfl
@[simp] theorem Th (n:Bool):IU n i g S=(g S).bind fun p=>match p.2[i]? with | some (some u)=>(nF u).bind fun ds=>if cy ds<=40 then some (.bl (n != inD p.1 ds),p.2) else none | _=>none:=rfl
@[simp] theorem Pj (d:D):look (.t d)=some d:=rfl
@[simp] theorem Pk (ds:List D):look (.m (.lst ds))=some (.lst ds):=rfl
@[simp] theorem Pn (ds:List D):look (.b (.lst ds))=some (.lst ds):=rfl
@[simp] theorem NG (ds:List D):nF (.t (.lst ds))=some ds:=rfl
@[simp] theorem NH (ds:List D):nF (.m (.lst ds))=some ds:=rfl
@[simp] theorem NI (ds:List D):nF (.b (.lst ds))=some ds:=rfl
end
section
variable {X:Cx}{a b c e:Expr}{es:List Expr}{pos p p2 px:Pos}{x y:Str}
noncomputable def Ti:List D->Option U
 | [.lst ds,.int k]=>if 0<=k/\k.toNat<=100000/\ds.length * k.toNat<=100000 then some (.m (.lst (List.replicate k.toNat ds).flatten)) else none
 | _=>none
noncomputable def fE:D->Bool
 | .cz=>true
 | _=>false
def gG:List D->Option U
 | [d,.cz]=>some (.t (.bl (fE d)))
 | _=>none
def jF:uC X (compareOp .Is) gG:=by
 intro pins s σ H x y v u Q I rx ry ⟨F,ds,w,sb,rs,hw,q⟩
 obtain⟨d,e,rfl,r1,r2⟩:=qO rs
 cases e <;> try (cases d <;> cases hw;done)
 cases hw
 cases r2
 refine Lo pins s σ H _ _ v u Q I rx ry ⟨rfl,?_⟩
 have k:Rep F (V.bl (decide (x= .cz))) (.bl (fE d)):=by
  cases r1 <;> exact .bl _
 exact q _ F H (fH.refl ..) sb k
def AQ (f:Int->Int->Int) (i:Nat) (g:GD):GS:=fun S=>match S[i]? with
 | some (some (.t (.int n)))=>(g S).bind fun p=>match p.1 with
  | .int m=>(jZ i (.t (.int (f n m))) p.2).map .nx
  | _=>none
 | _=>none
def LV {op:Operator}{f:Int->Int->Int}(ho:QD X op (R5 f)) (hN:X.N.Nodup) (hi:X.N[i]? =some x) (hx:Loc X.env.scope x) (he:JD X e g)
  (hf:X.fn x=true\/X.env.scope.names.lookup x=some .local:=by first | exact .inl rfl | exact .inr rfl | assumption):JS X (.AugAssign (.Name x pos') op e pos) (AQ f i g):=
 ⟨fun B=>(Le hN hi hx (he.h B) ho hf).imp fun D σ H hh=>by
 obtain⟨S,F,o,R,h,k⟩:=hh
 unfold AQ at h
 split at h
 ·rename_i n hS
  obtain⟨⟨d,S1⟩,h1,h⟩:=ah h
  dsimp only at h
  split at h
  ·rename_i m
   obtain⟨S2,h2,h⟩:=ao h
   subst h
   obtain⟨v,k1,k2⟩:=R.rep i _ hS
   have hv:v= .int n:=fj k2
   subst hv
   refine⟨_,k1,S,F,_,S1,R,h1,fun y F1 H1 R1 st1 r1=>⟨n,m,rfl,fj r1,?_⟩⟩
   exact k _ F1 H1 (R1.put h2 (.int _)) st1.ext.le
  ·cases h
 ·cases h⟩
def AR (clos:closureFor scope X.env=pure cl) (je:∀z∈scope.names,z.2≠.cell) (kind:scope.kind= .function) (names:∀z∈scope.names,z.2= .local->scope.names.lookup z.1=some .local)
  (loc:scope.names.lookup x=some .local) (hc:cl.map (fun p=>X.env.cells.lookup p.1)=cl.map (fun p=>some p.2)) (only:∀z∈scope.names,z.2= .free->z.1∈bX) (hcl:cl.map (·.1)=bX.reverse\/cl.map (·.1)=bX) (nd:(x :: bX).Nodup)
  (slot:cap.map (fun i=>X.N[i]?)=bX.map some) (vis:bX.map (fun n=>X.env.scope.names.lookup n)=bX.map fun _=>some .cell) (rel:bX.map (fun n=>(relabel scope X.env).names.lookup n)=bX.map fun _=>some .cell):
  fh X x bX cap scope cl:=by
 have all:∀{α β:Type}{f g:α->β}{l:List α},l.map f=l.map g->∀a∈l,f a=g a:=fun {α β f g l} h=>by
  induction l with
  | nil=>intro a m;cases m
  | cons b r ih=>
   intro a m
   rw[Yj,Yj] at h
   injection h with h1 h2
   rcases Yi.mp m with z | z
   ·rw[z];exact h1
   ·exact ih h2 a z
 have Po:∀n,n∈bX->∃c,cl.lookup n=some c:=fun n hn=>lookup_some (hcl.elim (fun z=>by rw[z];exact List.mem_reverse.mpr hn) fun z=>by rw[z];exact hn)
 have len:cap.length=bX.length:=by have:=congrArg List.length slot;simpa using this
 refine⟨clos,je,kind,names,loc,fun n c h=>all hc (n,c) (YD h),fun n h=>?_,nd,len,fun j n h=>?_,fun n h=>⟨.inl (all rel n h),Po n h,by rw[all vis n h];decide⟩⟩
 ·refine Po n ?_
  have go:∀k,(k=NameKind.cell\/k=NameKind.free)->(relabel scope X.env).names.lookup n=some k->n∈bX:=fun k hk e=>by
   have m:=YD e
   unfold relabel at m
   obtain⟨⟨n',k'⟩,hm,q⟩:=Yz.mp m
   by_cases hf:k'= .free
   ·have h0:n'∈bX:=only _ hm hf
    have e1:n'=n:=by
     have h1:=congrArg Prod.fst q
     dsimp only at h1
     split at h1 <;> exact h1
    rw[<-e1]
    exact h0
   ·have z:(k' == NameKind.free)=false:=by simpa using hf
    simp only[z,aam] at q
    have q2:k'=k:=by
     have:=congrArg Prod.snd q
     simpa using this
    rcases hk with rfl | rfl
    ·exact absurd q2 (je _ hm)
    ·exact absurd q2 hf
  rcases h with h | h
  ·exact go _ (.inl rfl) h
  ·exact go _ (.inr rfl) h
 ·have e:=congrArg (fun l=>l[j]?) slot
  simp only[Yu,h,Option.map_some] at e
  cases q:cap[j]? with
  | none=>rw[q] at e;cases e
  | some i=>
   rw[q] at e
   exact⟨i,rfl,Yn e,.inr (.inl (all vis n (YH h)))⟩
end
open AutoSeq1 (wpAny_loadPart')
def Fv (k:Bool) (h:Heap) (a:Addr) (its:AAH):Prop:=match k with
 | true=>h.IsList a its
 | false=>h.IsTuple a its
def AS (k:Bool) (h:Heap) (it a:Addr) (i:Nat):Prop:=match k with
 | true=>h.IsListIter it a i
 | false=>h.IsTupleIter it a i
noncomputable def WJ:Bool->String
 | true=>"list_iterator"
 | false=>"tuple_iterator"
def NJ (k:Bool) (a:Addr):Obj:={cls:=.type (WJ k),data:=.fields #[.ref a,.int 0 0]}
def Fv.at {h:Heap}(x:Fv k h a its) (g:∀o,h.get? a=some o->h'.get? a=some o):Fv k h' a its:=by
 cases k <;> exact let⟨o,ho,r⟩:=x;⟨o,g o ho,r⟩
def AS.at {h:Heap}{it:Addr}(x:AS k h it a i) (g:∀o,h.get? it=some o->h'.get? it=some o):AS k h' it a i:=by
 cases k <;> exact let⟨o,ho,r⟩:=x;⟨o,g o ho,r⟩
def AS.obj {h:Heap}{it:Addr}(x:AS k h it a i):∃o,h.get? it=some o/\∀v,o.data≠.cell v:=by
 cases k <;> exact let⟨o,ho,_,r⟩:=x;⟨o,ho,fun v z=>by rw[r] at z;cases z⟩
def AS.new (k:Bool) (h:Heap) (a:Addr):AS k (h.push (NJ k a)) h.objs.size a 0:=by
 cases k <;> exact⟨_,Yk _ rfl,rfl,rfl⟩
section
variable {prog:Program}{w:World}{A:Around}{E:AAB}{s:Shared}
def IW {t:Addr}{y:Value}(st:s.heap.IsTupleIter ad t n) (hv:s.heap.IsTuple t vals) (hy:vals[n]? =some y)
  (q:∀h',h'.IsTupleIter ad t (n+1)->Heap.SameBut ad s.heap h'->Q y {s with heap:=h'}):wpAny (model prog w) A (Builtin.SmallTypes.nextOf (.ref ad)) Q E s:=by
 obtain⟨ob,hob,hcl,hdat⟩:=id st
 obtain⟨WK,LW,_,nn,Fw⟩:=hv
 unfold Builtin.SmallTypes.nextOf
 refine XY (Za (name:=Str.ofString "__next__") st.typeIs Zj (Z0 Zj st.typeIs F.entry_tuple_iterator_next ?_ (F.args_tuple_iterator_next_1 _)))
 show wpAny _ _ (field (.ref ad) 0 >>= _) _ _ s
 refine XY (YG hob hdat (x:=.ref t) rfl ?_)
 show wpAny _ _ (if(Value.ref t == Value.none)=true then _ else _) _ _ s;rw[if_neg (show ¬((Value.ref t == Value.none)=true) from ZJ)]
 show wpAny _ _ (field (.ref ad) 1 >>= _) _ _ s
 refine XY (YG hob hdat (x:=.int n 0) rfl ?_)
 show wpAny _ _ (seqItems? (.ref t) >>= _) _ _ s;refine XY (wpAny_seqItems LW Fw ?_)
 simp only[Zt,hy]
 refine XY (Zx hob hdat (by simp) (XZ ⟨y,rfl,XZ (q _ ?_ (Heap.SameBut.update ..))⟩))
 exact⟨_,YQ _ hob (Zg (YR hdat _)),(Obj.cls_mapFields ..).trans hcl,by rw[YR hdat];kernel_rfl⟩
def LX {t:Addr}(hn:A.handled=none) (st:s.heap.IsTupleIter ad t n) (hv:s.heap.IsTuple t vals) (hy:vals[n]? =none)
  (q:∀h' e,Heap.ExtBut ad s.heap h'->(∃o,h'.get? e=some o/\o.cls= .type "StopIteration")->E (.ref e) {s with heap:=h'}):wpAny (model prog w) A (Builtin.SmallTypes.nextOf (.ref ad)) Q E s:=by
 obtain⟨ob,hob,hcl,hdat⟩:=id st
 obtain⟨WK,LW,_,nn,Fw⟩:=hv
 unfold Builtin.SmallTypes.nextOf
 refine XY (Za (name:=Str.ofString "__next__") st.typeIs Zj (Z0 Zj st.typeIs F.entry_tuple_iterator_next ?_ (F.args_tuple_iterator_next_1 _)))
 show wpAny _ _ (field (.ref ad) 0 >>= _) _ _ s
 refine XY (YG hob hdat (x:=.ref t) rfl ?_)
 show wpAny _ _ (if(Value.ref t == Value.none)=true then _ else _) _ _ s;rw[if_neg (show ¬((Value.ref t == Value.none)=true) from ZJ)]
 show wpAny _ _ (field (.ref ad) 1 >>= _) _ _ s
 refine XY (YG hob hdat (x:=.int n 0) rfl ?_)
 show wpAny _ _ (seqItems? (.ref t) >>= _) _ _ s;refine XY (wpAny_seqItems LW Fw ?_)
 simp only[Zt,hy]
 refine XY (wpAny_rule (XY (Zx hob hdat (by simp) ?_)))
 show wpAny _ _ (newExc (.type "StopIteration") [] >>= _) _ _ _;refine XY ?_;simp only[newExc,newTuple]
 refine XY (YY ?_ (by size_fits));refine XY (m:=firstArgMember _ _) (wpAny_of_eq (a:=Value.none) (by first | rfl | (simp only[firstArgMember];rfl)) ?_)
 refine YY ?_ (by size_fits);simp only[raiseNew];refine XY (wpAny_handled ?_)
 first | rw[show A.in1.handled=none from hn] | rw[hn]
 refine XY (XZ (wpAny_throw ?_));exact q _ _ (((Heap.SameBut.update ..).extBut.push _).push _) ⟨_,Yk _ rfl,rfl⟩
def nextK {t:Addr}{y:Value}(st:AS k s.heap ad t n) (hv:Fv k s.heap t vals) (hy:vals[n]? =some y)
  (q:∀h',AS k h' ad t (n+1)->Heap.SameBut ad s.heap h'->Q y {s with heap:=h'}):wpAny (model prog w) A (Builtin.SmallTypes.nextOf (.ref ad)) Q E s:=by
 cases k with
 | true=>exact wpAny_nextOf_list_item st hv hy q
 | false=>exact IW st hv hy q
def Pp {t:Addr}(hn:A.handled=none) (st:AS k s.heap ad t n) (hv:Fv k s.heap t vals) (hy:vals[n]? =none)
  (q:∀h' e,Heap.ExtBut ad s.heap h'->(∃o,h'.get? e=some o/\o.cls= .type "StopIteration")->E (.ref e) {s with heap:=h'}):wpAny (model prog w) A (Builtin.SmallTypes.nextOf (.ref ad)) Q E s:=by
 cases k with
 | true=>exact wpAny_nextOf_list_end hn st hv hy q
 | false=>exact LX hn st hv hy q
def LY (hn:A.handled=none) (ad t:Addr) (hne:t≠ad) (vals:AAH):Draws prog w A ad [ad,t] vals.size (fun i v=>vals[i]? =some v) (fun i h=>AS k h ad t i/\Fv k h t vals) where
 live:=fun _ _ st=>let⟨o,ho,_⟩:=st.1.obj;⟨o,ho⟩
 frame:=fun _ _ _ st hk=>⟨st.1.at fun o e=>hk ad (by simp) o e,st.2.at fun o e=>hk t (by simp) o e⟩
 item:=fun i s Q E hi st hQ=>nextK st.1 st.2 (y:=vals[i]) (by simp[hi]) fun h' LZ hs'=>hQ _ h' s.toks (by simp[hi]) ⟨LZ,st.2.at fun o e=>hs'.extBut _ _ hne e⟩ hs'
 done:=fun s Q E st hE=>Pp hn st.1 st.2 (by simp) hE
end
def Fx (l:Addr) (vals:AAH) (n:Nat) (dct:Option Addr) (sl:Array (Option Value)):
  Meets (Builtin.«enumerate.__new__» ⟨[.type "enumerate",.ref l],[]⟩) (fun _ R s=>s.heap.get? l=some {cls:=.type "tuple",dict:=dct,data:=.seq vals n,slots:=sl}/\
   R (.ok (.ret (.ref (s.heap.push (NJ false l)).objs.size))) {s with heap:=(s.heap.push (NJ false l)).push {cls:=.type "enumerate",data:=.fields #[.none,.bool false,.ref s.heap.objs.size,rawInt 0,.none,.none]}}):=
 .of_wp fun prog w A R s h=>by
  obtain⟨hp,g,d,tk,os⟩:=s;obtain⟨hl,h⟩:=h
  have hsub:=sub_enumerate
  have hT:Heap.IsTuple (Shared.heap ⟨hp,g,d,tk,os⟩) l vals:=⟨_,hl,rfl,n,rfl⟩
  wp_walk using wpAny_loadPart' hl
  refine wpAny_stack_any fun st=>XZ ?_
  split
  ·rename_i c _ _ _ _ _
   cases(c == Value.type "enumerate")
   ·wp_walk using wpAny_loadPart' hl,ZI hT;exact⟨_,rfl,h⟩
   ·wp_walk using wpAny_loadPart' hl,ZI hT;exact⟨_,rfl,h⟩
  ·wp_walk using wpAny_loadPart' hl,ZI hT;exact⟨_,rfl,h⟩
section
variable {prog:Program}{w:World}{A:Around}{E:AAB}{s:Shared}
def AU {l:Addr}(hL:Fv k s.heap l vals)
  (h:∀h',IsEnum h' (s.heap.objs.size+1) s.heap.objs.size 0 .none->AS k h' s.heap.objs.size l 0->(∀b o,s.heap.get? b=some o->h'.get? b=some o)->Q (.ref (s.heap.objs.size+1)) {s with heap:=h'}):
  wpAny (model prog w) A (call (.type "enumerate") [.ref l]) Q E s:=by
 cases k with
 | true=>exact call_enumerate_list hL fun h' a b _ c=>h h' a b c
 | false=>
  obtain⟨⟨c,dct,dt,sl⟩,hl,hc,n,hd⟩:=hL
  have hc:c= .type "tuple":=hc
  have hd:dt= .seq vals n:=hd
  subst hc hd
  refine callType_new F.called_enumerate (by decide) (F.typeCall_enumerate_1 _) (F.newCall_enumerate_1 _) (fun obj=>F.args_object_init_2 obj _) F.entry_enumerate_new (Fx l vals n dct sl) ⟨hl,?_⟩
  have hz:(s.heap.push (NJ false l)).objs.size=s.heap.objs.size+1:=Heap.size_push ..
  show _/\_
  rw[hz]
  have he:IsEnum ((s.heap.push (NJ false l)).push {cls:=.type "enumerate",data:=.fields #[.none,.bool false,.ref s.heap.objs.size,rawInt 0,.none,.none]}) (s.heap.objs.size+1) s.heap.objs.size 0 .none:=by
   have:=Yk (s.heap.push (NJ false l)) (o:={cls:=.type "enumerate",data:=.fields #[.none,.bool false,.ref s.heap.objs.size,rawInt 0,.none,.none]}) rfl
   rw[hz] at this;exact this
  exact⟨⟨_,he,rfl⟩,h _ he ((AS.new false s.heap l).at fun o e=>X3 _ e) fun b o x=>X3 _ (X3 _ x)⟩
end
def L5 (hn:A.handled=none) (ad t:Addr) (vals:AAH) (n:Nat) (he:vals[n]? =none):Draws prog w A ad [ad,t] n (fun _ _=>True) (fun i h=>AS k h ad t i/\Fv k h t vals/\i=n) where
 live:=fun _ _ st=>let⟨o,ho,_⟩:=st.1.obj;⟨o,ho⟩
 frame:=fun _ _ _ st hk=>⟨st.1.at fun o e=>hk ad (by simp) o e,st.2.1.at fun o e=>hk t (by simp) o e,st.2.2⟩
 item:=fun i s Q E hi st hQ=>absurd hi (by rw[st.2.2];exact YE _)
 done:=fun s Q E st hE=>Pp hn st.1 st.2.1 he hE
def KU (K:AAA) (H:Hp) (k:Bool) (a:Addr) (xs:List V):Prop:=match k with
 | true=>k7 K H a xs
 | false=>q8 K H a xs
section
variable {X:Cx}{pins:AAD}{σ:St}{H:Hp}{s:Shared}
def Inv.Tj (I:Inv X pins σ H s)(h:KU X.K H k a xs):∃its:List Value,Vals xs its/\Fv k s.heap a its.toArray/\xs.length<=sizeLine:=by
 cases k with
 | true=>obtain⟨its,r,p,z⟩:=I.list h;exact⟨its,r,p.isList,z⟩
 | false=>obtain⟨its,r,p,z⟩:=I.tuple h;exact⟨its,r,p,z⟩
def Inv.IX (I:Inv X pins σ H s){ys:List V}(h:KU X.K H k a xs) (h':KU X.K H k a ys):xs=ys:=by
 cases k with
 | true=>exact I.yp h h'
 | false=>exact I.vc h h'
def Inv.Cc {t':Nat}(I:Inv X pins σ H s) (k:∀b o,b∉fp->s.heap.get? b=some o->h'.get? b=some o) (hf:∀b∈fp,lg X pins H b):Inv X pins σ H {s with heap:=h',toks:=t'}:=by
 have Oa:∀b u,H b=some u->b∉fp:=fun b u e z=>by rw[(hf b z).1] at e;cases e
 refine I.step (g':=s.gens) (d':=s.drawn) (ch:=fp) (fun b hb=>?_) (fun b o _ _ hc e _=>k b o hc e) (fun b o _ _ hc e _=>⟨o.slots,k b o hc e⟩) (fun _ _ _ _ n=>n)
  (fun b o hc e=>⟨o,k b o hc e⟩) (fun _ _ e=>e) (fun _ _ _ e=>e) (fun b ps e=>⟨#[],by rw[e];simp⟩) (fun m hm=>?_) (fun b u e=>?_) I.bare
 ·obtain⟨_,f1,_,f3,f4,f5⟩:=hf b hb
  exact⟨f3,f1,f4,f5⟩
 ·obtain⟨o,es,ep,ho,r⟩:=hm
  exact⟨o,es,ep,k _ o (fun z=>(hf _ z).2.1 rfl) ho,r⟩
 ·refine(I.hok b u e).stay (fun c v hc q=>k c v ?_ q) (fun _ q=>q) fun _ _ q=>q
  rcases hc with z | z
  ·rw[z];exact Oa b u e
  ·exact Oa c _ z
def Inv.handed {t':Nat}{its:AAI}(I:Inv X pins σ H s) (hf:∀b∈fp,lg X pins H b) (hlt:∀b∈fp,b < s.heap.objs.size) (k:∀b o,b∉fp->s.heap.get? b=some o->h'.get? b=some o)
  (ht:h'.get? s.heap.objs.size=some {cls:=.type "tuple",data:=.seq its.toArray}) (hv:Vals xs its) (hz:xs.length<=sizeLine):Inv X pins σ (upd H s.heap.objs.size (.tup xs)) {s with heap:=h',toks:=t'}:=by
 have I1:Inv X pins σ (upd H s.heap.objs.size (.tup xs)) {s with heap:=s.heap.push {cls:=.type "tuple",data:=.seq its.toArray},toks:=t'}:=
  I.laid (fun _ _ q=>X3 _ q) (X6 _) ⟨hz,its,hv,IsTup.new s.heap _⟩
 refine Inv.Cc (s:={s with heap:=s.heap.push {cls:=.type "tuple",data:=.seq its.toArray},toks:=t'}) (t':=t') (fp:=fp) I1 (fun b o hb e=>?_) fun b hb=>?_
 ·rcases Heap.get?_push_cases (show(s.heap.push {cls:=.type "tuple",data:=.seq its.toArray}).get? b=some o from e) with⟨z1,z2⟩ | z
  ·rw[z1,z2];exact ht
  ·exact k b o hb z
 ·obtain⟨f0,f1,f2,f3,f4,f5⟩:=hf b hb
  exact⟨by rw[aE (Ym (hlt b hb))];exact f0,f1,f2,f3,f4,f5⟩
end
def Vt (K:AAA) (k:Bool) (a:Addr):It:=
 ⟨fun i H=>∃xs x,KU K H k a xs/\xs[i]? =some x,fun i H x H'=>∃p y,H p=none/\x= .ref p/\H'=upd H p (.tup [.int i,y])/\∀xs,KU K H k a xs->xs[i]? =some y,fun i H=>∃xs,KU K H k a xs/\xs.length<=i⟩
def Dp {P:Program}{elts:List Expr}{pos:Pos}(k:Bool) (a it e:Addr) (hai:a≠it) (WL:e≠a) (hei:e≠it):Turn P w K (.Tuple elts j pos) (Vt K k a) [e,it] e (fun i h=>(∃old,IsEnum h e it (i:Int) old)/\AS k h it a i) where
 mem:=by simp
 obj:=fun i h ⟨⟨old,he⟩,st⟩ b hb=>by
  rcases Yi.mp hb with z | z
  ·subst z;exact⟨_,he,fun v z=>by cases z⟩
  ·have z:b=it:=by simpa using z
   subst z
   exact st.obj
 keep:=fun i h h' ⟨⟨old,he⟩,st⟩ g=>⟨⟨old,g e (by simp) _ he⟩,st.at fun o q=>g it (by simp) o q⟩
 item:=by
  intro X hP hw hK hc i pins s σ H E I hf st hg
  subst hP hw hK
  obtain⟨xs,x,hq,hx⟩:=hg
  obtain⟨its,rv,p,hz⟩:=I.Tj hq
  obtain⟨u,hu,ru⟩:=rv.get hx
  obtain⟨⟨old,he⟩,hit⟩:=st
  have hsz:i < its.toArray.size:=by rw[X0];exact(Ye.mp hu).1
  refine wpAny_pyNext_enum_itemD (LY (k:=k) (A:=X.A.in1) (I.ok.hd hc) it a hai its.toArray) he ⟨hit,p⟩ hsz hei (by simp[WL,hei]) fun y h' tk hy ho hs' hT XD hk=>?_
  obtain⟨LZ,p'⟩:=hs'
  have ey:y=u:=by
   have h1:its.toArray[i]? =some u:=by simpa using hu
   rw[h1] at hy;exact(Yn hy).symm
  subst ey
  refine⟨_,rfl,wpAny_letOwnedTupleGo_enum ho fun h2 QS hs2=>?_⟩
  have hs2:Heap.SameBut e h' h2:=hs2
  have elt:e < s.heap.objs.size:=X5 he
  obtain⟨oi,WM,_⟩:=hit.obj
  have WN:it < s.heap.objs.size:=X5 WM
  have Pq:∀b∈[e,it],b < s.heap.objs.size:=fun b hb=>by
   rcases Yi.mp hb with z | z
   ·rw[z];exact elt
   ·rw[show b=it by simpa using z];exact WN
  have I2:Inv X pins σ (upd H s.heap.objs.size (.tup [.int i,x])) {s with heap:=h2,toks:=tk+1}:=
   I.handed (its:=[.int i tk,y]) hf Pq (fun b o hb q=>(hs2.2 b fun z=>hb (by simp[z])).trans (hk b o (fun z=>hb (by simp[z])) (fun z=>hb (by simp[z])) q))
    ((hs2.2 _ (aaa elt)).trans hT) (.cons ⟨tk,rfl⟩ (.cons ru .nil)) (show 2<=sizeLine by decide)
  refine⟨.ref s.heap.objs.size,_,I2,rfl,⟨_,x,I.fresh,rfl,rfl,fun ys WO=>by rw[I.IX WO hq];exact hx⟩,⟨⟨y,by simpa using QS⟩,LZ.at fun o q=>(hs2.2 _ (Y8 hei)).trans q⟩,fun b hb=>?_⟩
  rw[aE (Ym (Pq b hb))]
  exact(hf b hb).1
 done:=by
  intro X hP hw hK hc i pins s σ H E I hf st hg
  subst hP hw hK
  obtain⟨xs,hq,hx⟩:=hg
  obtain⟨its,rv,p,hz⟩:=I.Tj hq
  obtain⟨⟨old,he⟩,hit⟩:=st
  have hl:=rv.length
  refine wpAny_pyNext_enum_endD (n:=i) (L5 (k:=k) (A:=X.A.in1) (I.ok.hd hc) it a its.toArray i (by simp;lia)) he ⟨hit,p,rfl⟩ fun h' hx=>?_
  exact⟨rfl,I.Cc (t':=s.toks) (fun b o hb q=>hx b o (fun z=>hb (by simp[z])) q) hf⟩
 self:=fun _ _ _ _ _ st h=>by
  obtain⟨⟨old,he⟩,_⟩:=st
  exact wpAny_pyIter_enum he h
section
variable {prog:Program}{w:World}{A:Around}{E:AAB}{s:Shared}
end
section
variable {X:Cx}{a b c e:Expr}{body elts:List Expr}{pos p tpos:Pos}{jt:Nat}
def Fv.lt {h:Heap}{a:Addr}(x:Fv k h a its):a < h.objs.size:=by
 cases k <;> exact let⟨o,ho,_⟩:=x;X5 ho
def Pr (K:AAA) (ta:TA):TI:=fun σ H R=>ta σ H fun vs H1=>∃k a xs,vs=[.ref a]/\KU K H1 k a xs/\R (Vt K k a) H1
def IY {ta:TA}(hg:Gl X "enumerate") (hm:X.mg "enumerate" =none) (ha:PA X [a] ta) (hs:starEach [a] X.env=[(false,eval a X.env)]:=by rfl):PI X (.Tuple elts jt tpos) (.Call (.Name "enumerate" p) [a] [] pos) (Pr X.K ta):=by
 intro pins s σ H R I h
 refine Call_ (r9 I hg hm boot_enumerate (ZA (dj (ha pos pins s σ H _ I h) fun us s1 hh=>?_) hs rfl))
 obtain⟨vs,H1,I1,r1,q1⟩:=hh
 obtain⟨k,a,xs,rfl,hq,q⟩:=q1
 cases r1 with
 | cons r rr=>
  cases rr
  cases r
  obtain⟨its,rv,p,hz⟩:=I1.Tj hq
  refine AU p fun h' he hit hk=>wpAny_pyIter_enum he ?_
  have lt:=p.lt
  refine⟨s1.heap.objs.size+1,[s1.heap.objs.size+1,s1.heap.objs.size],_,_,H1,rfl,I1.kept (t':=s1.toks) hk,Dp k a s1.heap.objs.size (s1.heap.objs.size+1) (Ym lt) (aaa (Nat.lt_succ_of_lt lt)) (Nat.succ_ne_self _),⟨⟨.none,he⟩,hit⟩,fun b hb=>?_,q⟩
  have hb:s1.heap.objs.size<=b:=by
   rcases Yi.mp hb with z | z
   ·rw[z];exact aao _
   ·rw[show b=s1.heap.objs.size by simpa using z];exact X6 _
  exact I1.CJ hb (I1.hok.fresh hb)
def WalkN (J:It) (F:Hp) (ds:List D):Prop:=∀F' H',(∀b o,F b=some o->F' b=some o)->Sub F' H'->∀i,(∀d,ds[i]? =some d->J.go i H'/\∀x H2,J.HS i H' x H2->∃F2,fH F' H' F2 H2/\Sub F2 H2/\Rep F2 x d)/\(ds.length<=i->J.stop i H')
inductive Pu (K:AAA) (B:Base) (gi:GI) (σ:St) (H:Hp) (Q:It->Hp->Prop):Prop
 | mk (S:SS) (F:Hp) (ds:List D) (S':SS) (R:Rel K B S σ F H) (hg:gi S=some (ds,S')) (q:∀J F' H',Rel K B S' σ F' H'->Step S S' σ F H F' H'->WalkN J F' ds->Q J H')
structure QT (X:Cx) (tg e:Expr) (gi:GI):Prop where
 h:∀B,PI X tg e (Pu X.K B gi)
noncomputable def sU:D->Option (Bool×List D)
 | .lst ds=>some (true,ds)
 | .tup ds=>some (false,ds)
 | _=>none
def Sub.Pw {F:Hp}{v:V}{d:D}(sb:Sub F H) (r:Rep F v d) (e:sU d=some (k,ds)):
  ∃a vs,v= .ref a/\bz F vs ds/\∀F' H',(∀b o,F b=some o->F' b=some o)->Sub F' H'->KU K H' k a vs:=by
 cases d <;> try (cases e;done)
 ·cases e
  obtain⟨a,vs,rfl,fa,ha,rs⟩:=sb.jf r
  exact⟨a,vs,rfl,rs,fun F' H' le sb'=>.inl (Rd.of (sb' a _ (le _ _ fa)))⟩
 ·cases e
  obtain⟨a,vs,rfl,fa,ha,rs⟩:=sb.iy r
  exact⟨a,vs,rfl,rs,fun F' H' le sb'=>.inl (fa.same fun b o z=>sb' b o (le b o z))⟩
noncomputable def yR (ds:List D):List D:=ds.mapIdx fun i d=>.tup [.int i,d]
def vE (gA:GA):GI:=fun S=>(gA S).bind fun p=>match p.1 with
 | [d]=>(sU d).map fun q=>(yR q.2,p.2)
 | _=>none
def rL {gA:GA}(hg:Gl X "enumerate") (hm:X.mg "enumerate" =none) (ha:JA X [a] gA) (hs:starEach [a] X.env=[(false,eval a X.env)]:=by rfl):QT X (.Tuple elts jt tpos) (.Call (.Name "enumerate" p) [a] [] pos) (vE gA):=
 ⟨fun B=>PI.orelse fun σ H R0 hh=>by
 obtain⟨S,F,ds,S',R,hg',k⟩:=hh
 obtain⟨⟨args,S1⟩,h1,hg'⟩:=ah hg'
 refine⟨_,IY hg hm (ha.h B) hs,S,F,args,S1,R,h1,fun vs F1 H1 R1 st1 r1=>?_⟩
 dsimp only at hg'
 split at hg'
 ·obtain⟨⟨kk,es⟩,h2,hg'⟩:=ao hg'
  cases hg'
  cases r1 with
  | cons r rr=>
   cases rr
   obtain⟨a,ws,rfl,rs,sq⟩:=R1.sub.Pw (K:=X.K) r h2
   refine⟨kk,a,ws,rfl,sq F1 H1 (fun _ _ z=>z) R1.sub,k _ F1 H1 R1 st1 fun F' H' le sb i=>⟨fun d hd=>?_,fun hl=>⟨ws,sq F' H' le sb,by rw[rs.length];simpa[yR] using hl⟩⟩⟩
   unfold yR at hd
   rw[List.getElem?_mapIdx] at hd
   obtain⟨d0,hd0,rfl⟩:=ao hd
   obtain⟨v,k1,k2⟩:=rs.get hd0
   refine⟨⟨ws,v,sq F' H' le sb,k1⟩,fun x H2 y=>?_⟩
   obtain⟨p,y,hp,rfl,rfl,hy⟩:=y
   have ey:=hy ws (sq F' H' le sb)
   rw[k1] at ey
   cases ey
   exact⟨_,fH.root sb hp _,sb.pZ hp,.tup aH (.cons (.int _) (.cons (k2.le fun b o z=>iJ (sb.fresh hp) b o (le b o z)) .nil))⟩
 ·cases hg'⟩
def Cd {stmts:List Stmt}{s1:GS}(hp:PassesOwn (model X.prog X.w) X.A X.env X.xe) (hc:X.calm=true) (hi:QT X tg iter gi) (hg:JG X tg bd) (hb:JB X stmts s1) (hs:∀x,foldedSetIterable iter X.env x=pure x:=by intro _;rfl):
  JS X (.For tg iter stmts [] pos) (lq bd gi s1):=⟨fun B=>(Ew hp hc (hi.h B) (hg.h B) (hb.h B) hs).imp fun D σ H hh=>by
 obtain⟨S,F,o,R,h,k⟩:=hh
 obtain⟨⟨ds,S1⟩,h1,h⟩:=ah h
 refine⟨S,F,ds,S1,R,h1,fun J F1 H1 R1 st1 w=>?_⟩
 refine⟨fun i m σ' H'=>∃S' F',Rel X.K B S' σ' F' H'/\(∀b o,F1 b=some o->F' b=some o)/\i<=ds.length/\m=ds.length - i/\loop bd s1 (ds.drop i) S'=some o,⟨_,S1,F1,R1,fun _ _ z=>z,Y4 _,rfl,h⟩,?_⟩
 rintro i m σ' H' ⟨S',F',R',le,hl,rfl,cJ⟩
 have w':=w F' H' le R'.sub i
 by_cases hlt:i < ds.length
 ·have hd:ds[i]? =some ds[i]:=Yo hlt
  obtain⟨go,yl⟩:=w'.1 _ hd
  rw[YC hlt] at cJ
  obtain⟨S2,e2,cJ⟩:=ah cJ
  obtain⟨o2,e3,cJ⟩:=ah cJ
  refine .inr ⟨go,_,fun σ2 H2 n=>⟨ds.length - (i+1),by omega,n⟩,fun x H2 y=>?_⟩
  obtain⟨F2,nw,Px,rx⟩:=yl x H2 y
  have R2:=R'.new nw Px
  have le:∀b o,F1 b=some o->F2 b=some o:=fun b o z=>nw.le b o (le b o z)
  refine⟨S',F2,_,S2,R2,rx,e2,fun σ3 R3=>⟨S2,F2,o2,R3,e3,?_⟩⟩
  cases o2 with
  | nx S3=>exact fun AH F4 H4 R4 uK=>⟨S3,F4,R4,fun b o z=>uK b o (le b o z),hlt,rfl,cJ⟩
  | ct S3=>exact fun AH F4 H4 R4 uK=>⟨S3,F4,R4,fun b o z=>uK b o (le b o z),hlt,rfl,cJ⟩
  | bk S3=>cases cJ;exact fun AH F4 H4 R4 uK=>k AH F4 H4 R4 fun b o z=>uK b o (le b o (st1.ext.le b o z))
  | rt u S3=>cases cJ;exact fun v AH F4 H4 R4 uK=>k v AH F4 H4 R4 fun b o z=>uK b o (le b o (st1.ext.le b o z))
 ·have e:i=ds.length:=by omega
  subst e
  rw[Zm] at cJ
  cases cJ
  exact .inl ⟨w'.2 (X6 _),k σ' F' H' R' fun b o z=>le b o (st1.ext.le b o z)⟩⟩
end
def IZ {F:Hp}{d:D}(R:Rel K B S σ F H) (h:S[i]? =some (some u)) (hl:look u=some d):∃v F1,σ[i]? =some (some v)/\Sub F1 H/\Rep F1 v d/\∀b o,F b=some o->F1 b=some o:=by
 obtain⟨v,hv,r⟩:=R.rep i u h
 unfold look at hl
 split at hl
 ·cases hl;exact⟨v,F,hv,R.sub,r,fun _ _ z=>z⟩
 ·cases hl
  obtain⟨a,rfl,fa,vs,ha,rs⟩:=r
  exact⟨_,upd F a (.lst vs),hv,R.sub.iN ha,.lst (.inl aH) (rs.le (iJ fa)),iJ fa⟩
 ·cases hl
  obtain⟨a,rfl,fa,vs,ha,rs⟩:=r
  exact⟨_,upd F a (.lst vs),hv,R.sub.iN ha,.lst (.inl aH) (rs.le (iJ fa)),iJ fa⟩
 ·cases hl
def yS (f:List D->Option U) (i:Nat) (g:GD):GD:=fun S=>match S[i]? with
 | some (some _)=>(g S).bind fun p=>match p.2[i]? with
  | some (some u)=>(look u).bind fun d=>match f [d,p.1] with
   | some (.t e)=>if k8 e=true then some (e,p.2) else none
   | _=>none
  | _=>none
 | _=>none
section
variable {X:Cx}{a b c e:Expr}{x y:Str}{p px py pos pos' tpos:Pos}{f:List D->Option U}{gb:GD}
def Fy {Q:VK}(h:tD X.K B (yS f i gb) σ H Q):Kr (fun x y H Q=>rP f [x,y] H Q) (ym i) (tD X.K B gb) σ H Q:=by
 obtain⟨S,F,d,S',R,hg,q⟩:=h
 unfold yS at hg
 split at hg
 ·rename_i u0 Pg
  obtain⟨⟨d1,S1⟩,h1,hg⟩:=ah hg
  dsimp only at hg
  split at hg
  ·rename_i u hS
   obtain⟨dx,h2,hg⟩:=ah hg
   split at hg
   ·rename_i e' he'
    obtain⟨hfl,hg⟩:=bh hg
    cases hg
    obtain⟨v0,hv0,_⟩:=R.rep i u0 Pg
    refine⟨v0,hv0,S,F,d1,_,R,h1,fun v F1 H1 R1 st1 r1=>?_⟩
    obtain⟨v1,F2,k1,k2,k3,k4⟩:=IZ R1 hS h2
    rw[hv0] at k1
    cases k1
    refine⟨F2,[dx,d1],_,k2,.cons k3 (.cons (r1.le k4) .nil),he',fun v' F' H' n s' r'=>?_⟩
    have n':fH F1 H1 F1 H':=⟨fun _ _ z=>z,n.same,fun _ _ _ z=>z⟩
    exact q v' F1 H' (R1.new n' (R1.sub.same n.same)) (st1.trans n'.step) (Ft hfl r')
   ·cases hg
  ·cases hg
 ·cases hg
def Ja (ho:uC X (compareOp op) f) (hb:JD X b gb) (hN:X.N[i]? =some x:=by rfl) (hv:wu X.env.scope x:=by first | exact Or.inl rfl | exact Or.inr (Or.inl rfl) | exact Or.inr (Or.inr rfl)) (hd:(x == ("__debug__":Str))=false:=by decide) (hcd:(x == ("__classdict__":Str))=false:=by decide)
  (hm:behindInMarks op b=false:=by first | exact Ah _ | rfl):JT X (.Compare (.Name x px) [op] [b] pos) (qB (yS f i gb)):=⟨fun B=>(wJ ho (fG hN hv hd hcd) (hb.h B) hm).imp fun σ H Q ⟨S,F,k,S',R,hg,q⟩=>Fy ⟨S,F,.bl k,S',R,jE hg,fun v F' H' R' st r=>⟨k,jO r,q F' H' R' st⟩⟩⟩
end
section
variable {X:Cx}{a b c e k:Expr}{x y:Str}{p px py pos pos' tpos apos cpos:Pos}{gk:GD}
end
section
variable {X:Cx}{k v:Expr}{pos:Pos}{tk tv:TE}{gk gv:GD}
end
noncomputable def dJ (kvs:AAG) (z:Str):Option Int:=(kvs.find? fun p=>decide (p.1=z)).map (·.2)
def L6:Option Int->Option Value->Prop
 | some i,u=>∃t,u=some (.int i t)
 | none,u=>u=none
def KTab (P:Program) (w:World) (K:AAA) (a:Addr) (kvs:AAG):Prop:=
 (a == sysModules)=false/\∃o es ep,K.lookup a=some o/\o.ExactDict/\o.data= .dict es ep/\KeysOf (cX P w) es/\∀z,L6 (dJ kvs z) (findBy (cX P w).is es (.inr z))
def xj (w:World):List (Str×Int)->List DictEntry->Prop
 | [],[]=>True
 | (z,i) :: r,e :: es=>(e.hash=hashStr w z/\(∃t,e.key= .str z t)/\∃t,e.val= .int i t)/\xj w r es
 | _,_=>False
theorem vF {P:Program}{w:World}:∀{kvs:AAG}{es:List DictEntry},xj w kvs es->∀e∈es,∃k,(cX P w).is k e.key=true/\e.hash=(cX P w).hash k
 | [],[],_,e,he=>by cases he
 | (z,i) :: r,e :: es,h,e',he=>by
  obtain⟨⟨h1,⟨t,h2⟩,_⟩,h3⟩:=h
  rcases Yi.mp he with rfl | q
  ·exact⟨.inr z,by rw[h2];exact lD P w z t,h1⟩
  ·exact vF h3 e' q
 | [],_ :: _,h,_,_=>h.elim
 | _ :: _,[],h,_,_=>h.elim
theorem vG {P:Program}{w:World}(z:Str):∀{kvs:AAG}{es:List DictEntry},xj w kvs es->L6 (dJ kvs z) ((es.find? fun e=>(cX P w).is (.inr z) e.key).map (·.val))
 | [],[],_=>rfl
 | (y,i) :: r,e :: es,h=>by
  obtain⟨⟨h1,⟨t,h2⟩,u,h4⟩,h3⟩:=h
  have k:(cX P w).is (.inr z) e.key=decide ((.inr z:Key)= .inr y):=KeyKind.is_eq_decide (knd:=cX P w) (k:=.inr y) (by rw[h2];exact lD P w y t) (.inr z)
  unfold dJ
  by_cases q:y=z
  ·subst q
   rw[List.find?_cons_of_pos (by simp),List.find?_cons_of_pos (by rw[k];simp)]
   exact⟨u,by rw[Option.map_some,h4]⟩
  ·rw[List.find?_cons_of_neg (by simpa using q),List.find?_cons_of_neg (by rw[k];simp only[ZU,Sum.inr.injEq];exact fun e=>q e.symm)]
   exact vG z h3
 | [],_ :: _,h=>h.elim
 | _ :: _,[],h=>h.elim
def Jb {P:Program}{kvs:AAG}{es:List DictEntry}{ep:Nat}(h:K.lookup a=some ⟨.type "dict",none,.dict es.toArray ep,#[]⟩) (hs:(a == sysModules)=false) (he:xj w kvs es):KTab P w K a kvs:=by
 refine⟨hs,_,es.toArray,ep,h,⟨rfl,rfl,rfl⟩,rfl,fun e q=>vF he e (by simpa using q),fun z=>?_⟩
 have:=vG (P:=P) z he
 unfold findBy
 rw[List.find?_toArray]
 exact this
section
variable {X:Cx}{pins:AAD}{σ:St}{H:Hp}{s:Shared}{a:Addr}{kvs:AAG}
def KTab.map (I:Inv X pins σ H s) (h:KTab X.prog X.w X.K a kvs):∃f:Key->Option Value,s.heap.MapOf (cX X.prog X.w) a f/\∀z,L6 (dJ kvs z) (f (.inr z)):=by
 obtain⟨_,o,es,ep,h1,h2,h3,h4,h5⟩:=h
 exact⟨_,⟨o,es,ep,I.qK a o h1,h2,h3,h4,fun _=>rfl⟩,h5⟩
end
def L7 (kvs:AAG) (g:GD):GD:=fun S=>(g S).bind fun p=>match p.1 with
 | .str z=>(dJ kvs z).map fun i=>(.int i,p.2)
 | _=>none
def sV (n:Bool) (kvs:AAG) (g:GD):GD:=fun S=>(g S).bind fun p=>match p.1 with
 | .str z=>some (.bl (n != (dJ kvs z).isSome),p.2)
 | _=>none
section
variable {X:Cx}{e f:Expr}{x:Str}{px pos apos cpos:Pos}{ty tx:TE}{g gd:GD}{a:Addr}{kvs:AAG}
def L8 (hg:Gl X x) (hm:X.mg x=some (.ref a)) (hk:KTab X.prog X.w X.K a kvs) (he:PE X e ty) (hs:HZ e) (hd:(x == ("__debug__":Str))=false):
  PE X (.Subscript (.Name x px) e pos) (fun σ H Q=>ty σ H fun y H1=>∃z i,y= .str z/\dJ kvs z=some i/\Q (.int i) H1):=by
 intro pins s σ H Q I h
 refine BJ aaB.lookup hs (dj (mR (v:=.ref a) hg hm rfl hd pins s σ H (fun v H1=>v= .ref a/\H1=H) I ⟨rfl,rfl⟩) fun u s1 hh=>?_)
 obtain⟨x',H1,I1,rx,ex,eH⟩:=hh
 subst ex eH
 obtain rfl:u=Value.ref a:=rx
 refine dj (he pins s1 σ _ _ I1 h) fun iv s2 hh=>?_
 obtain⟨y,H2,I2,ry,z,i,ey,el,q⟩:=hh
 subst ey
 obtain⟨fm,m1,m2⟩:=hk.map I2
 have r:=m2 z
 rw[el] at r
 obtain⟨t,r⟩:=r
 exact⟨m1.typeIs,wpAny_getItem_of (k:=.inr z) (BG (k:=.inr z) ry) m1 r ⟨.int i,H2,I2.tok _,⟨t,rfl⟩,q⟩⟩
def yT (hg:Gl X x) (hm:X.mg x=some (.ref a)) (hk:KTab X.prog X.w X.K a kvs) (he:PE X e ty) (hd:(x == ("__debug__":Str))=false):
  PC X .NotIn e (.Name x px) (fun σ H Q=>ty σ H fun y H1=>∃z,y= .str z/\Q (.bl (!(dJ kvs z).isSome)) H1):=by
 intro pins s σ H Q I h
 refine dj (he pins s σ H _ I h) fun iv s1 ⟨y,H1,I1,ry,z,ey,q⟩=>dj (mR (v:=.ref a) hg hm rfl hd pins s1 σ H1 (fun v H2=>v= .ref a/\H2=H1) I1 ⟨rfl,rfl⟩) fun u s2 hh=>?_
 obtain⟨x',H2,I2,rx,ex,eH⟩:=hh
 subst ex eH ey
 obtain rfl:u=Value.ref a:=rx
 obtain⟨fm,m1,m2⟩:=hk.map I2
 refine wpAny_notIn_of (k:=.inr z) (BG (k:=.inr z) ry) hk.1 m1 ?_
 have r:=m2 z
 have e:(fm (.inr z)).isSome=(dJ kvs z).isSome:=by
  cases el:dJ kvs z with
  | none=>rw[el] at r;rw[show fm (.inr z)=none from r];rfl
  | some i=>rw[el] at r;obtain⟨t,r⟩:=r;rw[r];rfl
 rw[e]
 exact⟨.bl _,_,I2.tok _,rfl,q⟩
def Ma (hg:Gl X x) (hm:X.mg x=some (.ref a)) (hk:KTab X.prog X.w X.K a kvs) (he:JD X e g) (hs:HZ e:=by intro _ _;rfl) (hd:(x == ("__debug__":Str))=false:=by decide):JD X (.Subscript (.Name x px) e pos) (L7 kvs g):=
 ⟨fun B=>(L8 hg hm hk (he.h B) hs hd).imp fun σ H Q hh=>by
  obtain⟨S,F,d,S',R,hg',q⟩:=hh
  obtain⟨⟨d1,S1⟩,h1,hg'⟩:=ah hg'
  cases d1 <;> try (cases hg')
  rename_i z
  obtain⟨i,h2,hg'⟩:=ao hg'
  cases hg'
  exact⟨S,F,.str z,_,R,h1,fun v F1 H1 R1 st1 r1=>by cases r1;exact⟨z,i,rfl,h2,q (.int i) F1 H1 R1 st1 (.int i)⟩⟩⟩
def Dq {n:Bool}{Q:VK}(h:tD X.K B (sV n kvs g) σ H Q):tD X.K B g σ H fun y H1=>∃z,y= .str z/\Q (.bl (n != (dJ kvs z).isSome)) H1:=by
 obtain⟨S,F,d,S',R,hg',q⟩:=h
 obtain⟨⟨d1,S1⟩,h1,hg'⟩:=ah hg'
 cases d1 <;> try (cases hg')
 rename_i z
 exact⟨S,F,.str z,_,R,h1,fun v F1 H1 R1 st1 r1=>by cases r1;exact⟨z,rfl,q (.bl _) F1 H1 R1 st1 (.bl _)⟩⟩
def yU (hg:Gl X x) (hm:X.mg x=some (.ref a)) (hk:KTab X.prog X.w X.K a kvs) (he:JD X e g) (hd:(x == ("__debug__":Str))=false:=by decide) (hi:behindInMarks .NotIn (.Name x px)=false:=by with_unfolding_all rfl):JT X (.Compare e [.NotIn] [.Name x px] pos) (qB (sV true kvs g)):=
 ⟨fun B=>(Ek (yT hg hm hk (he.h B) hd) hi).imp fun σ H Q hh=>by
  obtain⟨S,F,kk,S',R,hg',q⟩:=hh
  have h:tD X.K B (sV true kvs g) σ H (fun v H'=>∃d,v= .bl d/\Q d H'):=⟨S,F,.bl kk,S',R,jE hg',fun v F' H' R' st r=>⟨kk,jO r,q F' H' R' st⟩⟩
  simpa[tB] using Dq h⟩
end
section
variable {X:Cx}{e:Expr}{x:Str}{px pos:Pos}{g:GD}{a:Addr}{zs:List Str}
end
section
variable {X:Cx}{e f:Expr}{x:Str}{px pos apos cpos:Pos}{gk gd:GD}{ge:GE}
end
end L2
end
section
namespace HT
open PySem PySem.Spec PyProof.Rows
section
variable {prog:Program}{w:World}{A:Around}{E:AAB}{s:Shared}
end
end HT
namespace L2
open PySem PySem.Spec PyProof.Rows
section
variable {X:Cx}{e st:Expr}{te ts:TE}{pos p2:Pos}
end
section
variable {X:Cx}
end
end L2
namespace HT
open PySem PySem.Spec PyProof.Rows
section
variable {prog:Program}{w:World}{A:Around}{E:AAB}{s:Shared}
end
end HT
namespace L2
open PySem PySem.Spec PyProof.Rows
section
variable {X:Cx}{pos:Pos}
end
end L2
end
section
namespace L2
open PySem PySem.Spec PyProof.Rows PySem.Calls
section
variable {prog:Program}{w:World}{A:Around}{E:AAB}{s:Shared}{a I:Addr}{ep:Nat}{t:SetTable}
end
section
variable {X:Cx}{a:Expr}{pos p p1 p2:Pos}{ga:GD}
end
end L2
end
section
namespace L2
open PySem PySem.Spec PyProof.Rows
variable {X:Cx}{pins:AAD}{σ:St}{H:Hp}{x y0:Str}{bX:List Str}{cap:List Nat}{scope:Scope}{cl:List (Str×Addr)}{elt iter:Expr}{ifs:List Expr}{px py pt pos:Pos}{k0:Nat}{Q:VK}{K:AAA}{gi:GI}{q:GT}{g:GD}
section
variable {X:Cx}{x:Str}{p:Pos}{a:Addr}
end
section
variable {X:Cx}{e:Expr}{es:List Expr}{gu:GU}{x:Str}{p pos:Pos}{k n i:Nat}{t:TA}
end
structure pg (X:Cx) (x y0:Str) (bX:List Str) (cap:List Nat) (scope:Scope) (cl:List (Str×Addr)):Prop where
 one:fh X x bX cap scope cl
 Py:scope.names.lookup y0=some .local
 NF:(x :: y0 :: bX).Nodup
def Jc (K:AAA) (wi:TI) (cap:List Nat) (tc:TT) (te:TE):TE:=fun σ H Q=>wi σ H fun J H1=>∃W:Nat->Nat->List V->Hp->Prop,(∃m,W 0 m [] H1)/\∀i m ys H,W i m ys H->ys.length < sizeLine/\
  ((J.stop i H/\∀p,H p=none->Q (.ref p) (upd H p (.lst ys)))\/
   (J.go i H/\∀x H',J.HS i H x H'->∃a x1 x2,x= .ref a/\q8 K H' a [x1,x2]/\tc (some x1 :: some x2 :: c8 cap σ) H' fun b H2=>if b=true then te (some x1 :: some x2 :: c8 cap σ) H2 fun y H3=>∃m',m' < m/\W (i+1) m' (ys++[y]) H3 else ∃m',m' < m/\W (i+1) m' ys H2))
def Dr {s s4:Shared}{C:Addr}{fp:List Addr}{m':AAC}
  (I:Inv X pins σ H s) (T2:pg X x y0 bX cap scope cl) (hfp:∀b∈fp,lg X pins H b) (hfo:∀b∈fp,∃o,s.heap.get? b=some o)
  (hC:s.heap.objs.size<=C) (hns:s4.heap.Ns C m') (hos:s4.os=s.os) (hg:s4.gens=s.gens)
  (kept:∀b o,s.heap.get? b=some o->s4.heap.get? b=some o):
  Inv (cV X (x :: y0 :: bX) scope cl C s H fp) [] (none :: none :: c8 cap σ) H s4:=by
 have T:=T2.one
 have fr:∀b,s.heap.objs.size<=b->H b=none:=fun b hb=>I.hok.fresh hb
 refine⟨⟨I.ok.mod,T.kind,I.ok.glob,I.ok.blt,hC,fun y z c h1 h2=>I.ok.inj y z c (T.cells _ _ h1) (T.cells _ _ h2),fun y hy=>T.has y hy,fun y c h=>(by cases h),I.ok.hd,I.ok.frames,.inl rfl,fun b hb=>⟨?_,fun y c e z=>?_⟩,I.bs,Yc I.ok.BA I.sz,fun b o e hb=>?_,fun b hb z=>?_,I.stack,I.kC⟩,
  hos,by rw[hg];exact I.bare,Un.kept kept,⟨m',hns,fun i y v h1 h2 h3=>?_⟩,fun y c h=>?_,fr C hC,fun y c h=>I.iO y c (T.cells _ _ h),fun p hp=>?_,I.hok.kept kept,?_⟩
 ·obtain⟨o,e⟩:=hfo b hb
  exact Ym (X7 (X5 e) hC)
 ·exact(hfp b hb).2.2.2.2.1 y c (T.cells _ _ e) z
 ·rcases(hfp b hb).2.2.2.1 with z | z
  ·exact I.ok.wA b o e z
  ·exact absurd (X7 (X5 e) (Yc I.ok.BA z)) (YE _)
 ·rcases Yi.mp (I.rY b z) with q | q
  ·exact(hfp b hb).2.1 q
  ·exact(hfp b hb).2.2.1 q
 ·match i,h1,h2 with
  | 0,h1,h2=>cases h2
  | 1,h1,h2=>cases h2
  | j+2,h1,h2=>
   have h1:bX[j]? =some y:=by simpa[cV] using h1
   have h2:(c8 cap σ)[j]? =some (some v):=by simpa using h2
   obtain⟨i,e1,e2,e3⟩:=T.slot j y h1
   have e4:σ[i]? =some (some v):=by
    unfold c8 at h2
    rw[Yu,e1] at h2
    have h2:some ((σ[i]?).join)=some (some v):=h2
    have h2:=Yn h2
    cases q:σ[i]? with
    | none=>rw[q] at h2;cases h2
    | some o=>rw[q] at h2;cases h2;rfl
   obtain⟨m,hn,hl⟩:=I.loc
   obtain⟨u,r,l⟩:=hl i y v e2 e4 e3
   obtain⟨k1,⟨c,hc⟩,k3⟩:=T.vis y (YH h1)
   refine⟨u,r,.inr ⟨k1,c,hc,?_⟩⟩
   rcases l with⟨hk,_⟩ | ⟨hk,c',hc',z⟩
   ·exact absurd hk k3
   ·rw[T.cells _ _ hc] at hc'
    cases hc'
    obtain⟨o,ho,hd⟩:=z
    exact⟨o,kept _ _ ho,hd⟩
 ·obtain⟨v,o,ho,hd⟩:=I.cell y c (T.cells _ _ h)
  exact⟨v,o,kept _ _ ho,hd⟩
 ·exact absurd (show p∈([]:AAD) from hp) (by simp)
 ·show(none :: none :: c8 cap σ).length=(x :: y0 :: bX).length
  simp[c8,T.len]
def yV {wi:TI}{tc:TT}{te:TE}{s:Shared}{use:Option (Value->Sem Unit)}{Qf:AAB}{pos2:Pos}
  (T2:pg X x y0 bX cap scope cl) (hc:X.calm=true) (hi:PI X (.Tuple [.Name x px,.Name y0 py] k0 pt) iter wi)
  (ht:∀C s H fp,Im (cV X (x :: y0 :: bX) scope cl C s H fp) ifs tc) (he:∀C s H fp,PE (cV X (x :: y0 :: bX) scope cl C s H fp) elt te)
  (hs:∀x,foldedSetIterable iter X.env x=pure x) (I:Inv X pins σ H s) (h:Jc X.K wi cap tc te σ H Q)
  (hend:∀(D C:Addr) (s7:Shared) (H6:Hp) (ys:List V),Inv X pins σ (upd H6 D (.lst ys)) s7->(∃m,s7.heap.Ns C m)->lg X pins (upd H6 D (.lst ys)) C->Q (.ref D) (upd H6 D (.lst ys))->compPost (model X.prog X.w) X.A X.xe use Qf (.ref D) C (.ok .next) s7):
  wpAny (model X.prog X.w) X.A (comprehension (.ListComp elt [⟨.Tuple [.Name x px,.Name y0 py] k0 pt,iter,ifs,0⟩] scope pos) scope X.env pos2 (newList []) false (eval iter X.env) use) Qf X.xe s:=
 qN (N:=x :: y0 :: bX) (z0:=none :: none :: c8 cap σ) (Z:=fun z=>∃o o',z=o :: o' :: c8 cap σ) (pt:=fun v H z=>∃a x1 x2,v= .ref a/\q8 X.K H a [x1,x2]/\z=some x1 :: some x2 :: c8 cap σ) T2.one hc hi ht he hs I h
  (fun J H1 ⟨W,w0,t⟩=>⟨W,w0,fun i m ys H w=>⟨(t i m ys H w).1,(t i m ys H w).2.imp id fun⟨g,k⟩=>⟨g,fun v H' y=>let⟨a,x1,x2,e,q,r⟩:=k v H' y;⟨_,⟨a,x1,x2,e,q,rfl⟩,r⟩⟩⟩⟩) ⟨none,none,rfl⟩ (fun I2=>Dr I2 T2)
  (by
   rintro Y C _ _ xv H eN eE eK OT ⟨o,o',rfl⟩ ⟨a,x1,x2,e,q,rfl⟩
   exact⟨⟨_,_,rfl⟩,_,En OT (se (rG (i:=0) (by rw[eN];exact T2.NF) (by rw[eN];rfl) (by rw[eE];exact .inl (Y7 T2.one.loc)) (.inr (by rw[eE];exact Y7 T2.one.loc))) (se (rG (i:=1) (by rw[eN];exact T2.NF) (by rw[eN];rfl) (by rw[eE];exact .inl (Y7 T2.Py)) (.inr (by rw[eE];exact Y7 T2.Py))) BF)),a,[x1,x2],e,by rw[eK];exact q,rfl,x1,[x2],rfl,x2,[],rfl,rfl,rfl,rfl⟩) hend
def Ds {wi:TI}{tc:TT}{te:TE}
  (T2:pg X x y0 bX cap scope cl) (hc:X.calm=true) (hi:PI X (.Tuple [.Name x px,.Name y0 py] k0 pt) iter wi)
  (ht:∀C s H fp,Im (cV X (x :: y0 :: bX) scope cl C s H fp) ifs tc) (he:∀C s H fp,PE (cV X (x :: y0 :: bX) scope cl C s H fp) elt te)
  (hs:∀x,foldedSetIterable iter X.env x=pure x:=by intro _;rfl):
  PE X (.ListComp elt [⟨.Tuple [.Name x px,.Name y0 py] k0 pt,iter,ifs,0⟩] scope pos) (Jc X.K wi cap tc te):=by
 intro pins s σ H Q I h
 rw[eval_ListComp]
 refine yV T2 hc hi ht he hs I h ?_
 rintro p C s7 H6 ys I9 ⟨m7,Nx⟩ ⟨g0,g1,g2,g3,g4,g5⟩ q
 exact⟨m7,Nx,fun h' hs'=>⟨.ref p,_,I9.turned (t':=s7.toks) (fun b o hb e=>hs'.extBut b o hb e) g0 g1 g3 g4 g5,rfl,q⟩⟩
def jP (cap:List Nat) (q:GT) (g:GD):List D->SS->List D->Option (List D×SS)
 | [],S,acc=>some (acc,S)
 | .tup [a,b] :: ds,S,acc=>(gw S cap).bind fun us=>
  if(slotsOf us).Nodup/\b6 us<=1 then(b7 S us).bind fun ws=>(q (XU a :: XU b :: ws.map some)).bind fun p=>
   if p.1 then(g p.2).bind fun r=>(aL (.t a :: .t b :: ws) r.2).bind fun outs=>(wb us outs S).bind fun S'=>jP cap q g ds S' (acc++[r.1])
   else(aL (.t a :: .t b :: ws) p.2).bind fun outs=>(wb us outs S).bind fun S'=>jP cap q g ds S' acc
  else none
 | _ :: _,_,_=>none
def sW (cap:List Nat) (gi:GI) (q:GT) (g:GD):GE:=fun S=>(gi S).bind fun p=>if p.1.length<=100000 then(jP cap q g p.1 p.2 []).map fun r=>(.m (.lst r.1),r.2) else none
def Fz {F:Hp}{xs:List V}{a b:D}(r:bz F xs [a,b]):∃x1 x2,xs=[x1,x2]/\Rep F x1 a/\Rep F x2 b:=by
 cases r with
 | cons r1 rr=>cases rr with
  | cons r2 WQ=>cases WQ;exact⟨_,_,rfl,r1,r2⟩
def AV {B:Base}(h:tE K B (sW cap gi q g) σ H Q):Jc K (Pu K B gi) cap (fun σ H Q=>∃B,tQ K B q σ H Q) (fun σ H Q=>∃B,tD K B g σ H Q) σ H Q:=by
 obtain⟨x,_⟩:∃x:Str,True:=⟨"",trivial⟩
 obtain⟨S,F,u,S',R,hg,k⟩:=h
 obtain⟨⟨ds,S1⟩,h1,hg⟩:=ah hg
 dsimp only at hg
 split at hg
 ·rename_i hlen
  obtain⟨⟨res,Sf⟩,h2,hg⟩:=ao hg
  cases hg
  refine⟨S,F,ds,S1,R,h1,fun J F1 H1 R1 st1 w=>?_⟩
  refine⟨KO K B S σ F H F1 (jP cap q g) ds (res,Sf),
   ⟨_,S1,F1,[],R1,st1,fun _ _ z=>z,.nil,X6 _,Y4 _,rfl,h2⟩,?_⟩
  rintro i m ys H' ⟨S2,F2,acc,R2,st2,le,ry,ha,hl,rfl,cJ⟩
  refine⟨by rw[ry.length];exact ZM (Yc ha (Yc hl hlen)) (by decide),?_⟩
  have w':=w F2 H' le R2.sub i
  by_cases hlt:i < ds.length
  ·have hd:ds[i]? =some ds[i]:=Yo hlt
   obtain⟨go,yl⟩:=w'.1 _ hd
   rw[YC hlt] at cJ
   refine .inr ⟨go,fun xv H3 y=>?_⟩
   obtain⟨FN,n3,WR,rx⟩:=yl xv H3 y
   obtain⟨da,db,WS⟩:∃da db,ds[i]= .tup [da,db]:=by
    generalize ds[i]=dd at cJ
    unfold jP at cJ
    split at cJ
    ·rename_i z;cases z
    ·rename_i z;injection z with z1 z2;exact⟨_,_,z1⟩
    ·cases cJ
   have R2:Rel K B S2 σ FN H3:=R2.new n3 WR
   have st2:Step S S2 σ F H FN H3:=st2.trans n3.step
   have le:∀b o,F1 b=some o->FN b=some o:=fun b o z=>n3.le b o (le b o z)
   have ry:=ry.le n3.le
   rw[WS] at cJ rx
   obtain⟨pa,XE,WT,XF,hpa,KJ⟩:=R2.sub.jf rx
   obtain⟨x1,x2,exs,WU,WV⟩:=Fz KJ
   subst exs WT
   obtain⟨us,e1,cJ⟩:=ah (show(gw S2 cap).bind _=_ from cJ)
   split at cJ
   ·rename_i hnd
    obtain⟨ws,e2,cJ⟩:=ah cJ
    obtain⟨⟨bk,T1⟩,e3,cJ⟩:=ah cJ
    obtain⟨vs,k1,k2⟩:=AJ R2 e1
    have rr:Paired (fun v u=>iI K B S2 σ H3 FN H3 v u) (x1 :: x2 :: vs) (.t da :: .t db :: us):=.cons WU (.cons WV k2)
    have er:=o8 R2 da (o8 R2 db e2)
    have ar:=mW R2 rr er
    have nd:=cN R2 rr er hnd.1 hnd.2
    have R3:=j7 (n:=ws.length+2) R2.sub ar nd (List.replicate (ws.length+2) x) (by simp)
    have hvl:vs.length=ws.length:=by have:=ar.length;simpa using this
    have es:start (List.replicate (ws.length+2) x) (x1 :: x2 :: vs)=some x1 :: some x2 :: c8 cap σ:=by
     unfold start;rw[k1];simp[hvl]
    have eS:(U.t da :: U.t db :: ws).map some++List.replicate (ws.length+2 - (U.t da :: U.t db :: ws).length) none=some (U.t da) :: some (U.t db) :: ws.map some:=by simp
    rw[es,eS] at R3
    have back:∀(T2:SS) (F3 H4:Hp) (outs:List MO) (S3:SS),Rel K ⟨lent (x1 :: x2 :: vs) (U.t da :: U.t db :: ws),FN,H3⟩ T2 (some x1 :: some x2 :: c8 cap σ) F3 H4->aL (U.t da :: U.t db :: ws) T2=some outs->wb us outs S2=some S3->Rel K B S3 σ F3 H4/\Step S S3 σ F H F3 H4/\(∀b o,FN b=some o->F3 b=some o):=fun T2 F3 H4 outs S3 RT ho hw=>by
     have po:=post_of ar T2 _ F3 H4 outs RT ho
     obtain⟨Ra,vA,_⟩:=gW (S0:=S2) (F0:=FN) (H0:=H3) R2 (Step.refl ..) rr er (show wb (U.t da :: U.t db :: us) outs S2=some S3 by cases outs <;> exact hw) hnd.1 po
     exact⟨Ra,st2.trans vA,vA.ext.le⟩
    refine⟨pa,x1,x2,rfl,.inl hpa,_,_,FN,bk,T1,R3,e3,fun F3 H4 KP O9=>?_⟩
    cases bk with
    | true=>
     obtain⟨⟨yd,T2⟩,e4,cJ⟩:=ah (show(g T1).bind _=_ from cJ)
     obtain⟨outs,e5,cJ⟩:=ah cJ
     obtain⟨S3,e6,cJ⟩:=ah cJ
     refine wR ⟨_,T1,F3,yd,T2,KP,e4,fun yv F4 H5 Pa Pb Pc=>?_⟩
     obtain⟨Ra,vA,AK⟩:=back T2 F4 H5 outs S3 Pa e5 e6
     refine⟨ds.length - (i+1),by lia,S3,F4,acc++[yd],Ra,vA,fun b o z=>AK b o (le b o z),(ry.le AK).append (.cons Pc .nil),by simp;lia,hlt,rfl,cJ⟩
    | false=>
     obtain⟨outs,e5,cJ⟩:=ah (show(aL (U.t da :: U.t db :: ws) T1).bind _=_ from cJ)
     obtain⟨S3,e6,cJ⟩:=ah cJ
     obtain⟨Ra,vA,AK⟩:=back T1 F3 H4 outs S3 KP e5 e6
     exact wQ ⟨ds.length - (i+1),by lia,S3,F3,acc,Ra,vA,fun b o z=>AK b o (le b o z),ry.le AK,by lia,hlt,rfl,cJ⟩
   ·cases cJ
  ·have e:i=ds.length:=by lia
   subst e
   rw[Zm] at cJ
   cases cJ
   refine .inl ⟨w'.2 (X6 _),fun p hp=>?_⟩
   have n:=fH.obj (F:=F2) hp (.lst ys)
   refine k (.ref p) F2 _ (R2.new n (R2.sub.same n.same)) (st2.trans n.step) ⟨p,rfl,none_of st2.ext.there hp,R2.sub.fresh hp,⟨ys,aH,ry⟩,fun m=>?_,none_of R2.ext.there hp⟩
   obtain⟨o,ho⟩:=R2.has m
   rw[hp] at ho
   cases ho
 ·cases hg
def Walk.n {J:It}{F:Hp}{ds:List D}(w:Walk J F ds):WalkN J F ds:=fun F' H' le sb i=>⟨fun d hd=>⟨((w F' H' le sb i).1 d hd).1,fun x H2 y=>by
 obtain⟨rfl,r⟩:=((w F' H' le sb i).1 d hd).2 x H2 y
 exact⟨F',fH.refl ..,sb,r⟩⟩,(w F' H' le sb i).2⟩
def Dt {B:Base}(h:tE K B (sW cap gi q g) σ H Q):Jc K (SV K B gi) cap (fun σ H Q=>∃B,tQ K B q σ H Q) (fun σ H Q=>∃B,tD K B g σ H Q) σ H Q:=
 let⟨S,F,ds,S1,R,hg,k⟩:=AV h;⟨S,F,ds,S1,R,hg,fun J F1 H1 R1 st w=>k J F1 H1 R1 st w.n⟩
def FA (T:pg X x y0 bX cap scope cl) (hc:X.calm=true) (hi:JI X (.Tuple [.Name x px,.Name y0 py] k0 pt) iter gi)
  (ht:∀C s H fp,O8 (cV X (x :: y0 :: bX) scope cl C s H fp) ifs q) (he:∀C s H fp,JD (cV X (x :: y0 :: bX) scope cl C s H fp) elt g)
  (hs:∀x,foldedSetIterable iter X.env x=pure x:=by intro _;rfl):JE X (.ListComp elt [⟨.Tuple [.Name x px,.Name y0 py] k0 pt,iter,ifs,0⟩] scope pos) (sW cap gi q g):=⟨fun B=>
 (Ds (tc:=fun σ H Q=>∃B,tQ X.K B q σ H Q) (te:=fun σ H Q=>∃B,tD X.K B g σ H Q) T hc (hi.h B) (fun C s H fp pins s' σ H' Q I ⟨B',z⟩=>(ht C s H fp).h B' pins s' σ H' Q I z) (fun C s H fp pins s' σ H' Q I ⟨B',z⟩=>(he C s H fp).h B' pins s' σ H' Q I z) hs).imp fun σ H Q h=>Dt h⟩
end L2
end
section
namespace L2
open PySem PySem.Spec PyProof.Rows PySem.Calls
variable {ds:List D}{u:U}
section
variable {X:Cx}{o e:Expr}{m:Str}{apos cpos:Pos}{id:String}{go ge:GD}{f:List D->Option U}
def dH (hc:dU X (.builtin id) (rP f)) (slot:Slot "str" m id) (ty:typeOf (.builtin id)=pure (.type "method_descriptor")) (hstr:∀d1 d2 u,f [d1,d2]=some u->∃z,d1= .str z) (ho:JD X o go) (he:JD X e ge)
  (hb:attributeBase o m X.env (eval o X.env)=eval o X.env:=by rfl)
  (hfew:((backTo cpos (starEach [e] X.env)).all (fun x=>!x.1) && (backToKw cpos (keywordEach [] X.env)).all (fun x=>x.1.isSome) && decide (([e]:List Expr).length+([]:List Keyword).length+(if([]:List Keyword).isEmpty then 0 else 1) < 30))=true:=by rfl)
  (hline:(apos.endLine == cpos.line)=true:=by rfl) (htr:backTo cpos (starEach [e] X.env)=[(false,eval e X.env)]:=by rfl):
  JE X (.Call (.Attribute o m apos) [e] [] cpos) (eP f (aa go (aa ge ak))):=⟨fun B=>by
 rintro pins s σ H Q I ⟨S,F,u,S',R,hg,q⟩
 obtain⟨⟨dl,S1⟩,h1,hg⟩:=ah hg
 obtain⟨w,hf,hg⟩:=ao hg
 cases hg
 obtain⟨⟨d1,Sa⟩,k1,h1⟩:=ah h1
 obtain⟨⟨dr,Sb⟩,kk,h1⟩:=ao h1
 cases h1
 obtain⟨⟨d2,Sc⟩,k2,h2⟩:=ah kk
 clear kk
 obtain⟨⟨dn,Sd⟩,k3,h2⟩:=ao h2
 cases k3
 cases h2
 obtain⟨z,rfl⟩:=hstr _ _ _ hf
 refine wpAny_Call_method hb hfew hline PySem.F.plainAttrs_str slot ty (dj (ho.h B pins s σ H (fun v H1=>∃F1,Rel X.K B Sa σ F1 H1/\Step S Sa σ F H F1 H1/\Rep F1 v (.str z)) I ⟨S,F,_,Sa,R,k1,fun v F1 H1 R1 st1 r1=>⟨F1,R1,st1,r1⟩⟩) ?_)
 rintro ov s1 ⟨x,H1,I1,rx,F1,R1,st1,r1⟩
 cases r1
 obtain⟨t,rfl⟩:∃t,ov= .str z t:=rx
 refine⟨ZD _ _ _,(fun _ e=>nomatch e),?_⟩
 rw[htr]
 refine Calls.callWith_builtin rfl (Calls.evalArgs_plain (aat (dj (he.h B pins s1 σ H1 (fun v H2=>∃F2,Rel X.K B Sc σ F2 H2/\Step Sa Sc σ F1 H1 F2 H2/\Rep F2 v d2) I1 ⟨Sa,F1,d2,Sc,R1,k2,fun v F2 H2 R2 st2 r2=>⟨F2,R2,st2,r2⟩⟩) ?_)))
 rintro iv s2 ⟨y,H2,I2,ry,F2,R2,st2,r2⟩
 refine Calls.spliced_nil ?_
 exact hc pins s2 σ H2 [.str z,y] _ Q I2 (.cons ⟨t,rfl⟩ (.cons ry .nil)) ⟨F2,[.str z,d2],u,R2.sub,.cons (.str z) (.cons r2 .nil),hf,fun v F3 H3 n s3 r3=>q v F3 H3 (R2.new n s3) ((st1.trans st2).trans n.step) (r3.Dc R2 (st1.trans st2))⟩⟩
end
theorem vH:∀{zs:List Str}{its:AAI},Vals (zs.map V.str) its->∃l:List (Str×Tok),its=strValues l/\l.map (·.1)=zs
 | [],_,h=>by cases h;exact⟨[],rfl,rfl⟩
 | z :: zs,_,h=>by
  cases h with
  | cons r rs=>
   obtain⟨t,rfl⟩:=r
   obtain⟨l,rfl,e⟩:=vH rs
   exact⟨(z,t) :: l,rfl,by rw[Yj,e]⟩
theorem vI:∀(l:List (Str×Tok)),Vals ((l.map (·.1)).map V.str) (strValues l)
 | []=>.nil
 | p :: l=>.cons ⟨p.2,rfl⟩ (vI l)
theorem vJ (F:Hp):∀zs:List Str,bz F (zs.map V.str) (zs.map D.str)
 | []=>.nil
 | z :: zs=>.cons (.str z) (vJ F zs)
def kh:List D->Option U
 | [.str sep,.lst ds]=>(lU ds).bind fun zs=>if JoinOk sep zs=true then some (.t (.str (Txt.join sep zs))) else none
 | _=>none
def yW (h:kh ds=some u):∃sep l zs,ds=[.str sep,.lst l]/\lU l=some zs/\JoinOk sep zs=true/\u= .t (.str (Txt.join sep zs)):=by
 unfold kh at h
 split at h
 ·obtain⟨zs,h1,h2⟩:=ah h
  obtain⟨h3,rfl⟩:=bh h2
  exact⟨_,_,zs,rfl,h1,h3,rfl⟩
 ·cases h
section
variable {X:Cx}
def kM:dU X (.builtin "str.join") (rP kh):=by
 intro pins s σ H xs us Q I r ⟨F,ds,w,sb,rs,hw,q⟩
 obtain⟨sep,l,zs,rfl,h1,h2,rfl⟩:=yW hw
 cases rs with
 | cons r1 rs=>
  cases rs with
  | cons r2 rs=>
   cases rs
   cases r1
   obtain⟨a,vs,rfl,fa,ha,sD⟩:=sb.iy r2
   obtain rfl:=sS sD h1
   obtain⟨t,u2,rfl,WW⟩:∃t u2,us=[.str sep t,u2]/\RelV (.ref a) u2:=by
    cases r with
    | cons a1 r=>cases r with | cons a2 r=>cases r;obtain⟨t,rfl⟩:=a1;exact⟨t,_,rfl,a2⟩
   obtain rfl:u2= .ref a:=WW
   obtain⟨its,rv,pl,hz⟩:=I.list (.inl ha)
   obtain⟨l',rfl,hl'⟩:=vH rv
   exact SC.join pl.isList hl' h2 fun t' k=>⟨.str _,H,I.tok _,⟨t',rfl⟩,q _ F H (fH.refl ..) sb (.str _)⟩
noncomputable def fS:List D->Option U
 | [.str x,.str y]=>if(y.length == 0)=false/\x.length<=100000/\(Txt.split x y).length<=100000 then some (.m (.lst ((Txt.split x y).map D.str))) else none
 | _=>none
def vK (h:fS ds=some u):∃x y,ds=[.str x,.str y]/\(y.length == 0)=false/\x.length<=100000/\(Txt.split x y).length<=100000/\u= .m (.lst ((Txt.split x y).map D.str)):=by
 unfold fS at h
 split at h
 ·obtain⟨h3,rfl⟩:=bh h
  exact⟨_,_,rfl,h3.1,h3.2.1,h3.2.2,rfl⟩
 ·cases h
def sX {F:Hp}{xs:List V}{us:AAI}{x y:Str}(rs:bz F xs [.str x,.str y]) (r:Vals xs us):∃t u,us=[.str x t,.str y u]:=by
 cases rs with
 | cons r1 rs=>
  cases rs with
  | cons r2 rs=>
   cases rs
   cases r1
   cases r2
   cases r with
   | cons a1 r=>cases r with | cons a2 r=>cases r;obtain⟨t,rfl⟩:=a1;obtain⟨u,rfl⟩:=a2;exact⟨t,u,rfl⟩
def eG:dU X (.builtin "str.split") (rP fS):=by
 intro pins s σ H xs us Q I r ⟨F,ds,w,sb,rs,hw,q⟩
 obtain⟨x,y,rfl,hy,hx,hn,rfl⟩:=vK hw
 obtain⟨t,u,rfl⟩:=sX rs r
 have line:∀{n:Nat},n<=100000->n<=sizeLine:=fun h=>Yc h (by decide)
 have fin:∀(l:List (Str×Tok)) (k:Nat),l.map (·.1)=Txt.split x y->EP X pins σ Q (.ref s.heap.objs.size) {s with toks:=k,heap:=s.heap.push {cls:=.type "list",data:=.seq (strValues l).toArray}}:=fun l k e=>by
  have hp:=I.hok.fresh (X6 s.heap.objs.size)
  have hl:l.length=(Txt.split x y).length:=by rw[<-e,Yh]
  refine⟨.ref s.heap.objs.size,_,I.laid (t':=k) (o:=.lst ((l.map (·.1)).map V.str)) (fun b ob q=>X3 _ q) (X6 _) ⟨by rw[Yh,Yh];exact line (by lia),strValues l,0,vI l,Yk _ rfl⟩,rfl,?_⟩
  refine q _ F _ (fH.obj hp _) (sb.same (fH.obj (F:=F) hp _).same) ⟨_,rfl,hp,sb.fresh hp,_,aH,?_⟩
  rw[e]
  exact vJ F _
 cases c1:(decide (x.length < y.length) || decide (Builtin.Str.strKind x < Builtin.Str.strKind y)) with
 | true=>
  have e:Txt.split x y=[x]:=by unfold Txt.split;rw[if_pos c1]
  exact aac Yx (ZD _ _ _) ZS (ZN _ _) (meets_str_split_cannot_occur x y t u c1) (fin [(x,t)] s.toks e.symm)
 | false=>
  cases c2:(Builtin.Str.occurrences x y 0 x.length (x.length+1)).isEmpty with
  | true=>
   have e:Txt.split x y=[x]:=by unfold Txt.split;rw[if_neg (by rw[c1];decide),if_pos c2]
   exact aac Yx (ZD _ _ _) ZS (ZN _ _) (meets_str_split_not_found x y t u c1 hy c2) (fin [(x,t)] s.toks e.symm)
  | false=>
   have e:Txt.split x y=Builtin.Str.partsBetween x (Builtin.Str.occurrences x y 0 x.length (x.length+1)) y.length:=by unfold Txt.split;rw[if_neg (by rw[c1];decide),if_neg (by rw[c2];decide)]
   refine aac Yx (ZD _ _ _) ZS (ZN _ _) (meets_str_split_sep x y t u c1 hy c2 (line hx) (by rw[<-e];exact line hn)) ?_
   rw[strsFrom_eq]
   exact fin (numbered s.toks _) _ ((numbered_texts _ _).trans e.symm)
noncomputable def vL:List D->Option U
 | [.str x,.str y]=>if(y.length == 0)=false/\x.length<=100000 then some (.t (.tup [.str (Txt.partition x y).1,.str (Txt.partition x y).2.1,.str (Txt.partition x y).2.2])) else none
 | _=>none
def yX (h:vL ds=some u):∃x y,ds=[.str x,.str y]/\(y.length == 0)=false/\x.length<=100000/\u= .t (.tup [.str (Txt.partition x y).1,.str (Txt.partition x y).2.1,.str (Txt.partition x y).2.2]):=by
 unfold vL at h
 split at h
 ·obtain⟨h3,rfl⟩:=bh h
  exact⟨_,_,rfl,h3.1,h3.2,rfl⟩
 ·cases h
def AW:dU X (.builtin "str.partition") (rP vL):=by
 intro pins s σ H xs us Q I r ⟨F,ds,w,sb,rs,hw,q⟩
 obtain⟨x,y,rfl,hy,hx,rfl⟩:=yX hw
 obtain⟨t,u,rfl⟩:=sX rs r
 have hp:=I.hok.fresh (X6 s.heap.objs.size)
 have fin:∀(a b c:Str) (ta tb tc:Tok) (k:Nat),Txt.partition x y=(a,b,c)->EP X pins σ Q (.ref s.heap.objs.size) {s with toks:=k,heap:=s.heap.push {cls:=.type "tuple",data:=.seq [.str a ta,.str b tb,.str c tc].toArray}}:=fun a b c ta tb tc k e=>by
  rw[e] at q
  exact⟨.ref s.heap.objs.size,_,I.laid (t':=k) (o:=.tup [.str a,.str b,.str c]) (fun b ob q=>X3 _ q) (X6 _) ⟨by show 3<=sizeLine;decide,[.str a ta,.str b tb,.str c tc],.cons ⟨ta,rfl⟩ (.cons ⟨tb,rfl⟩ (.cons ⟨tc,rfl⟩ .nil)),IsTup.new _ _⟩,rfl,
   q _ _ _ (fH.root sb hp _) (sb.pZ hp) (.tup aH (.cons (.str a) (.cons (.str b) (.cons (.str c) .nil))))⟩
 refine aac aax (ZD _ _ _) PySem.F.entry_str_partition (PySem.F.args_str_partition_2 _ _) (meets_str_partition x y t u hy (Yc hx (by decide))) ?_
 cases c:Builtin.Str.occurrences x y 0 x.length 1 with
 | nil=>exact fin x Str.empty Str.empty t s.toks s.toks (s.toks+1) (by unfold Txt.partition;rw[c])
 | cons i r=>exact fin _ _ _ s.toks u (s.toks+1) (s.toks+1+1) (by unfold Txt.partition;rw[c])
noncomputable def qU:List D->Option U
 | [.int a]=>if a.natAbs < 10 ^ 30 then some (.t (.str (toString a))) else none
 | _=>none
def FD (h:qU ds=some u):∃a,ds=[.int a]/\a.natAbs < 10 ^ 30/\u= .t (.str (toString a)):=by
 unfold qU at h
 split at h
 ·obtain⟨h3,rfl⟩:=bh h
  exact⟨_,rfl,h3,rfl⟩
 ·cases h
def AX:dU X (.type "str") (rP qU):=by
 intro pins s σ H xs us Q I r ⟨F,ds,w,sb,rs,hw,q⟩
 obtain⟨a,rfl,ha,rfl⟩:=FD hw
 obtain⟨t,rfl⟩:∃t,us=[.int a t]:=by
  cases rs with
  | cons r1 rs=>cases rs;cases r1;cases r with | cons a1 r=>cases r;obtain⟨t,rfl⟩:=a1;exact⟨t,rfl⟩
 have hl:a.natAbs.log2 < 1920:=by
  by_cases hz:a.natAbs=0
  ·rw[hz];decide
  ·exact(Nat.log2_lt hz).mpr (Nat.lt_trans ha (X7 (show(10:Nat) ^ 30 < 2 ^ 100 by decide) (Nat.pow_le_pow_right (by decide) (by decide))))
 exact P.str_of_int hl ⟨.str _,H,I.tok _,⟨_,rfl⟩,q _ F H (fH.refl ..) sb (.str _)⟩
end
def pq (d1 d2:D) (u:U) (h:kh [d1,d2]=some u):∃z,d1= .str z:=by obtain⟨sep,l,zs,e,_⟩:=yW h;cases e;exact⟨_,rfl⟩
def gY (d1 d2:D) (u:U) (h:fS [d1,d2]=some u):∃z,d1= .str z:=by obtain⟨x,y,e,_⟩:=vK h;cases e;exact⟨_,rfl⟩
def FE (d1 d2:D) (u:U) (h:vL [d1,d2]=some u):∃z,d1= .str z:=by obtain⟨x,y,e,_⟩:=yX h;cases e;exact⟨_,rfl⟩
noncomputable def Jd:GS:=fun _=>none
def sY {X:Cx}{st:Stmt}:JS X st Jd:=⟨fun B pins s σ H Q I ⟨_,_,_,_,hg,_⟩=>by cases hg⟩
end L2
end
section
namespace L2
open PySem PySem.Spec PyProof.Rows
variable {K:AAA}{q:GT}{g:GD}
def n6 (i:Nat) (q:GT) (g:GD):GE:=fun S=>match S[i]? with
 | some (some (.m (.lst ds)))=>if ds.length<=100000 then(iP [] q g ds S []).map fun r=>(.m (.lst r.1),r.2) else none
 | some (some (.b (.lst ds)))=>if ds.length<=100000 then(iP [] q g ds S []).map fun r=>(.m (.lst r.1),r.2) else none
 | _=>none
def yY {B:Base}{i:Nat}{σ:St}{H:Hp}{Q:VK}{S Sf:SS}{F:Hp}{ds res:List D}{a:Addr}(R:Rel K B S σ F H) (hi:σ[i]? =some (some (.ref a))) (at':∀F' H',Rel K B S σ F' H'->∃vs,H' a=some (.lst vs)/\bz F' vs ds) (hlen:ds.length<=100000) (h2:iP [] q g ds S []=some (res,Sf))
  (k:∀v F' H',Rel K B Sf σ F' H'->Step S Sf σ F H F' H'->iI K B Sf σ H F' H' v (.m (.lst res))->Q v H'):OQ (Es K (ym i)) [] (fun σ H Q=>∃B,tQ K B q σ H Q) (fun σ H Q=>∃B,tD K B g σ H Q) σ H Q:=by
 obtain⟨x,_⟩:∃x:Str,True:=⟨"",trivial⟩
 obtain⟨QI,ha0,_⟩:=at' F H R
 refine⟨.ref a,hi,a,rfl,⟨QI,k7.of ha0⟩,?_⟩
 refine⟨fun j m ys H'=>∃F2 acc,Rel K B S σ F2 H'/\Step S S σ F H F2 H'/\bz F2 ys acc/\acc.length<=j/\j<=ds.length/\m=ds.length - j/\iP [] q g (ds.drop j) S acc=some (res,Sf),
  ⟨_,F,[],R,Step.refl ..,.nil,X6 _,Y4 _,rfl,h2⟩,?_⟩
 rintro j m ys H' ⟨F2,acc,R2,st2,ry,hac,hl,rfl,cJ⟩
 refine⟨by rw[ry.length];exact ZM (Yc hac (Yc hl hlen)) (by decide),?_⟩
 obtain⟨vs,ha,rs⟩:=at' F2 H' R2
 by_cases hlt:j < ds.length
 ·have hd:ds[j]? =some ds[j]:=Yo hlt
  obtain⟨xv,hx,rx⟩:=rs.get hd
  rw[YC hlt] at cJ
  refine .inr ⟨⟨vs,xv,k7.of ha,hx⟩,fun XG H3 y=>?_⟩
  obtain⟨rfl,y2⟩:=y
  have e0:=y2 vs (k7.of ha)
  rw[hx] at e0
  cases e0
  obtain⟨us,e1,cJ⟩:=ah cJ
  cases e1
  split at cJ
  ·rename_i hnd
   obtain⟨ws,e2,cJ⟩:=ah cJ
   cases e2
   obtain⟨⟨bk,T1⟩,e3,cJ⟩:=ah cJ
   have rr:Paired (fun v u=>iI K B S σ H3 F2 H3 v u) [xv] [.t ds[j]]:=.cons rx .nil
   have er:=o8 R2 ds[j] (us:=[]) (ws:=[]) rfl
   have ar:=mW R2 rr er
   have nd:=cN R2 rr er hnd.1 hnd.2
   have R3:=j7 (n:=1) R2.sub ar nd (List.replicate 1 x) (by simp)
   have es:start (List.replicate 1 x) [xv]=some xv :: c8 [] σ:=rfl
   have eS:[U.t ds[j]].map some++List.replicate (1 - [U.t ds[j]].length) none=[some (U.t ds[j])]:=by simp
   rw[es,eS] at R3
   have back:∀(T2:SS) (F3 H4:Hp) (outs:List MO) (S3:SS),Rel K ⟨lent [xv] [U.t ds[j]],F2,H3⟩ T2 (some xv :: c8 [] σ) F3 H4->aL [U.t ds[j]] T2=some outs->wb [] outs S=some S3->S3=S/\Rel K B S3 σ F3 H4/\Step S S3 σ F H F3 H4/\(∀b o,F2 b=some o->F3 b=some o):=fun T2 F3 H4 outs S3 RT ho hw=>by
    have po:=post_of ar T2 _ F3 H4 outs RT ho
    obtain⟨Ra,vA,_⟩:=gW (S0:=S) (F0:=F2) (H0:=H3) R2 (Step.refl ..) rr er (show wb [U.t ds[j]] outs S=some S3 by cases outs <;> exact hw) hnd.1 po
    refine⟨?_,Ra,st2.trans vA,vA.ext.le⟩
    cases outs with
    | nil=>cases hw;rfl
    | cons _ _=>cases hw
   refine⟨_,_,F2,bk,T1,R3,e3,fun F3 H4 KP O9=>?_⟩
   cases bk with
   | true=>
    obtain⟨⟨yd,T2⟩,e4,cJ⟩:=ah (show(g T1).bind _=_ from cJ)
    obtain⟨outs,e5,cJ⟩:=ah cJ
    obtain⟨S3,e6,Mb⟩:=ah cJ
    refine wR ⟨_,T1,F3,yd,T2,KP,e4,fun yv F4 H5 Pa Pb Pc=>?_⟩
    obtain⟨rfl,Ra,vA,AK⟩:=back T2 F4 H5 outs S3 Pa e5 e6
    exact⟨ds.length - (j+1),by lia,F4,acc++[yd],Ra,vA,(ry.le AK).append (.cons Pc .nil),by simp;lia,hlt,rfl,Mb⟩
   | false=>
    obtain⟨outs,e5,cJ⟩:=ah (show(aL [U.t ds[j]] T1).bind _=_ from cJ)
    obtain⟨S3,e6,Mb⟩:=ah cJ
    obtain⟨rfl,Ra,vA,AK⟩:=back T1 F3 H4 outs S3 KP e5 e6
    exact wQ ⟨ds.length - (j+1),by lia,F3,acc,Ra,vA,ry.le AK,by lia,hlt,rfl,Mb⟩
  ·cases cJ
 ·have e:j=ds.length:=by lia
  subst e
  rw[Zm] at cJ
  cases cJ
  refine .inl ⟨⟨vs,k7.of ha,by rw[rs.length];exact X6 _⟩,fun p hp=>?_⟩
  have n:=fH.obj (F:=F2) hp (.lst ys)
  refine k (.ref p) F2 _ (R2.new n (R2.sub.same n.same)) (st2.trans n.step) ⟨p,rfl,none_of st2.ext.there hp,R2.sub.fresh hp,⟨ys,aH,ry⟩,fun m=>?_,none_of R2.ext.there hp⟩
  obtain⟨o,ho⟩:=R2.has m
  rw[hp] at ho
  cases ho
def Du {B:Base}{i:Nat}{σ:St}{H:Hp}{Q:VK}(h:tE K B (n6 i q g) σ H Q):OQ (Es K (ym i)) [] (fun σ H Q=>∃B,tQ K B q σ H Q) (fun σ H Q=>∃B,tD K B g σ H Q) σ H Q:=by
 obtain⟨S,F,u,S',R,hg,k⟩:=h
 unfold n6 at hg
 split at hg
 ·rename_i ds e
  split at hg
  ·rename_i hlen
   obtain⟨⟨res,Sf⟩,h2,hg⟩:=ao hg
   cases hg
   obtain⟨v,e1,a,rfl,_⟩:=R.rep i _ e
   exact yY R e1 (fun F' H' R'=>by
    obtain⟨v',e2,a',rfl,_,r⟩:=R'.rep i _ e
    rw[e1] at e2
    cases e2
    exact r) hlen h2 k
  ·cases hg
 ·rename_i ds e
  split at hg
  ·rename_i hlen
   obtain⟨⟨res,Sf⟩,h2,hg⟩:=ao hg
   cases hg
   obtain⟨v,e1,a,rfl,_⟩:=R.rep i _ e
   exact yY R e1 (fun F' H' R'=>by
    obtain⟨v',e2,a',rfl,_,r⟩:=R'.rep i _ e
    rw[e1] at e2
    cases e2
    exact r) hlen h2 k
  ·cases hg
 ·cases hg
def sZ {X:Cx}{elt:Expr}{ifs:List Expr}{x y:Str}{px py pos:Pos}{scope:Scope}{cl:List (Str×Addr)}(i:Nat) (T:fh X x [] [] scope cl) (hc:X.calm=true)
  (ht:∀C s H fp,O8 (cV X [x] scope cl C s H fp) ifs q) (he:∀C s H fp,JD (cV X [x] scope cl C s H fp) elt g)
  (hN:X.N[i]? =some y:=by rfl) (hv:wu X.env.scope y:=by first | exact Or.inl rfl | exact Or.inr (Or.inl rfl) | exact Or.inr (Or.inr rfl)) (hd:(y == ("__debug__":Str))=false:=by decide) (hcd:(y == ("__classdict__":Str))=false:=by decide)
  (hs:∀x,foldedSetIterable (.Name y py) X.env x=pure x:=by intro _;rfl):JE X (.ListComp elt [⟨.Name x px,.Name y py,ifs,0⟩] scope pos) (n6 i q g):=⟨fun B=>by
 exact(yz (tc:=fun σ H Q=>∃B,tQ X.K B q σ H Q) (te:=fun σ H Q=>∃B,tD X.K B g σ H Q) T hc (wD (fG hN hv hd hcd)) (fun C s H fp pins s' σ H' Q I ⟨B',z⟩=>(ht C s H fp).h B' pins s' σ H' Q I z) (fun C s H fp pins s' σ H' Q I ⟨B',z⟩=>(he C s H fp).h B' pins s' σ H' Q I z) hs).imp fun σ H Q h=>Du h⟩
section
variable {X:Cx}{C:Addr}{e value:Expr}{es:List Expr}{gu:GU}{x y m:Str}{px p pos pos' apos tpos:Pos}{f:Str}{fm:FM}{fa:Addr}{fd:FuncData}{ps:List Str}{k n i:Nat}{g:GD}
end
end L2
end
section
namespace L2
open PySem PySem.Spec PyProof.Rows PySem.Calls
section
variable {X:Cx}
end
section
variable {X:Cx}{e f:Expr}{x:Str}{px pos apos cpos:Pos}{ty tx:TE}{g gd:GD}{a:Addr}{kvs:AAG}
end
section
variable {prog:Program}{w:World}{A:Around}{E:AAB}{s:Shared}
end
section
variable {X:Cx}{pins:AAD}{σ:St}{A:Around}{R:Result->Shared->Prop}{N:Nat}{k0 k1:Bool}{l0 l1:Nat}{WX WY:List V}{S:Addr}{W:Nat->List V->Hp->Prop}{res:Value}
end
section
variable {X:Cx}{pins:AAD}{σ:St}{A:Around}{E:AAB}{N:Nat}{k0 k1:Bool}{l0 l1:Nat}{WX WY:List V}
end
section
variable {X:Cx}{a b:Expr}{p p2 pos pos2:Pos}{t:TA}{ga gb:GD}{gA:GA}
end
section
variable {X:Cx}{tg a b:Expr}{p pos:Pos}{ta:TA}{gA:GA}
variable {p2 pos2:Pos}
end
end L2
end
section
namespace L2
open PySem PySem.Spec PyProof.Rows
section
variable {M:Model}{A:Around}{E:AAB}{s:Shared}{Q:AAB}
end
section
variable {prog:Program}{w:World}{K:Type} [DecidableEq K] {knd:HeapKind prog w K}{A:Around}{E:AAB}{s:Shared}
end
section
variable {X:Cx}{pins:AAD}{σ:St}{H:Hp}{s:Shared}{a:Addr}{y v r:V}{u z:Value}{A:Around}{E:AAB}
end
section
variable {X:Cx}{o e f:Expr}{td ty tx:TE}{x:Str}{px pos apos cpos:Pos}{gk gd:GD}
end
section
variable {X:Cx}{a:Expr}{pos p p1 p2:Pos}{ga:GD}
end
section
variable {prog:Program}{w:World}{A:Around}{E:AAB}{s:Shared}
end
section
variable {prog:Program}{w:World}{A:Around}{R:Result->Shared->Prop}{I:Addr}{fp wr:List Addr}{G:Array GenState->Array GenState->Prop}{n:Nat}{P:Nat->Value->Prop}{St:Nat->Shared->Prop}{K:Type} [DecidableEq K] {knd:KeyKind prog w K}
end
section
variable {prog:Program}{w:World}{A:Around}{E:AAB}{s:Shared}{K:Type} [DecidableEq K] {knd:KeyKind prog w K}
end
section
variable {X:Cx}{a:Expr}{pos p p1 p2:Pos}{ga:GD}
end
structure NB (B B':Base) (N:List Addr):Prop where
 p:B'.P=B.P
 f:B'.F=B.F
 out:∀c,c∉N->B'.H c=B.H c
 new:∀c,c∈N->B.H c=none/\¬B.M c/\B.F c=none
section
variable {K:AAA}{B B':Base}{S S':SS}{σ:St}{F H F' H':Hp}{a:Addr}{bs:List Addr}{nest:List (List D)}
end
abbrev GN:=Addr->SS->List (List D)->Option (SS×List (List D))
section
variable {X:Cx}{e1 e2:Expr}{pos px ps apos cpos:Pos}{x:Str}{gk gv:GD}{i:Nat}
end
section
variable {X:Cx}{tg iter:Expr}{body:Stmt}{bd:GB}{gi:GI}{g:GN}{i:Nat}{pos:Pos}
end
section
variable {K:AAA}{B:Base}{S:SS}{σ:St}{F H:Hp}{a:Addr}{bs:List Addr}{i:Nat}
end
section
variable {X:Cx}{iter:Expr}{st2:Stmt}{rest:List Stmt}{gi:GI}{g:GN}{gr:GS}{i:Nat}{pos px py pe spos:Pos}{x y:Str}{scope:Scope}{cl:List (Str×Addr)}
end
section
variable {X:Cx}{e1 e2:Expr}{pos:Pos}{gk gv:GD}
end
section
variable {prog:Program}{w:World}{A:Around}{E:AAB}{s:Shared}
end
section
variable {X:Cx}{a b c e:Expr}{nm:Str}{pos p tpos:Pos}
end
section
variable {prog:Program}{w:World}{A:Around}{E:AAB}{s:Shared}
end
section
variable {prog:Program}{w:World}{A:Around}{R:Result->Shared->Prop}{I:Addr}{fp wr:List Addr}{G:Array GenState->Array GenState->Prop}{n:Nat}{P:Nat->Value->Prop}{St:Nat->Shared->Prop}
end
section
variable {prog:Program}{w:World}{A:Around}{E:AAB}{s:Shared}
end
end L2
end
section
namespace L2
open PySem PySem.Spec PyProof.Rows PySem.Calls
section
variable {prog:Program}{w:World}{A:Around}{E:AAB}{s:Shared}{a I:Addr}{es:Array (Int×Value)}{ep:Nat}{t:SetTable}
end
section
variable {prog:Program}{w:World}{A:Around}{E:AAB}{s:Shared}{a I:Addr}{es:Array (Int×Value)}{ep:Nat}{t:SetTable}
end
section
variable {prog:Program}{w:World}{A:Around}{E:AAB}{s:Shared}{a I T:Addr}{es:Array (Int×Value)}{ep:Nat}{t:SetTable}
end
section
variable {prog:Program}{w:World}{A:Around}{E:AAB}{s:Shared}{a I T:Addr}{es:Array (Int×Value)}{ep:Nat}{t:SetTable}
end
end L2
end
section
namespace L2
open PySem PySem.Spec PyProof.Rows PySem.Calls PyProof.V
section
variable {prog:Program}{w:World}{A:Around}{E:AAB}{s:Shared}{a:Addr}
end
section
variable {X:Cx}{pins:AAD}{σ:St}{F H:Hp}{s:Shared}{v:V}{u:Value}{d:D}{ns:List Int}{Q:AAB}{E:AAB}
end
section
variable {X:Cx}{a:Expr}{pos p p1 p2:Pos}{ga:GD}
end
section
variable {prog:Program}{w:World}{A:Around}{E:AAB}{s:Shared}{a b:Addr}
end
section
variable {X:Cx}{a b:Expr}{pos p p1 p2 p3:Pos}{ga gb:GD}
end
end L2
end
section
namespace L2
open PySem PySem.Spec PyProof.Rows
section
variable (S:SS) (d e:D) (o:MO) (i j:Nat) (g ga gb gc:GD) (ge:GE) (q q1 q2:GT) (gA:GA) (gu:GU) (a b:GS) (f f':List D->Option U) (fm:FM) (bd:GB) (gi:GI)
@[simp] theorem Tn:aj i S=match S[i]? with | some (some (.t d))=>some (.t d,S) | some (some (.s d))=>some (.s d,S) | some (some (.f d))=>some (.f d,S) | some (some (.x C k))=>some (.x C k,S) | some (some _)=>some (.v i,S) | _=>none:=rfl
@[simp] theorem WZ:eC d S=some (d,S):=rfl
@[simp] theorem To:ak S=some ([],S):=rfl
@[simp] theorem QU:aa g gA S=(g S).bind fun p=>(gA p.2).map fun q=>(p.1 :: q.1,q.2):=rfl
@[simp] theorem W0:eP f gA S=(gA S).bind fun p=>(f p.1).map fun u=>(u,p.2):=rfl
@[simp] theorem W2:eF ge S=(ge S).bind fun p=>fz p.1 p.2:=rfl
@[simp] theorem W3:eT g S=(g S).map fun p=>(.t p.1,p.2):=rfl
@[simp] theorem Tp:fz (.t d) S=some (d,S):=rfl
@[simp] theorem Tq (ds:List D):fz (.m (.lst ds)) S=some (.lst ds,S):=rfl
@[simp] theorem Tr:fz (.v i) S=match S[i]? with | some (some (.t d))=>some (d,S) | some (some (.m (.lst ds)))=>some (.lst ds,S.set i (some (.t (.lst ds)))) | _=>none:=rfl
@[simp] theorem W4:qB g S=(g S).bind fun p=>match p.1 with | .bl k=>some (k,p.2) | _=>none:=rfl
@[simp] theorem Tt:nQ q S=(q S).map fun p=>(!p.1,p.2):=rfl
@[simp] theorem Tu:uJ q1 q2 S=(q1 S).bind fun p=>if p.1 then q2 p.2 else some (false,p.2):=rfl
@[simp] theorem Vu:nR q1 q2 S=(q1 S).bind fun p=>if p.1 then some (true,p.2) else q2 p.2:=rfl
@[simp] theorem W5:eQ q S=(q S).map fun p=>(.bl p.1,p.2):=rfl
@[simp] theorem QV:nB S=some (true,S):=rfl
@[simp] theorem Vv:QL f f' ga gb gc S=(ga S).bind fun p=>(gb p.2).bind fun q=>match f [p.1,q.1] with
 | some (.t (.bl k))=>if k then(gc q.2).bind fun r=>match f' [q.1,r.1] with
   | some (.t (.bl k'))=>some (.bl k',r.2)
   | _=>none
  else some (.bl false,q.2)
 | _=>none:=rfl
@[simp] theorem Vw (g1 g2:GE):Ny q g1 g2 S=(q S).bind fun p=>if p.1 then g1 p.2 else g2 p.2:=rfl
@[simp] theorem Tv:dO S=some (.nx S):=rfl
@[simp] theorem Tw:aJ a b S=(a S).bind fun o=>match o with | .nx S1=>b S1 | o=>some o:=rfl
@[simp] theorem Tz:bL i ge S=(ge S).bind fun p=>match p.1 with | .m o=>(jZ i (.m o) p.2).map .nx | u=>(fz u p.2).bind fun q=>(jZ i (.t q.1) q.2).map .nx:=rfl
@[simp] theorem bW (u:U):jZ i u S=match S[i]? with | some (some (.b _))=>none | some _=>some (S.set i (some u)) | none=>none:=rfl
@[simp] theorem QW:qP ge S=(ge S).map fun p=>.nx p.2:=rfl
@[simp] theorem TF:cI ge S=(ge S).bind fun p=>match p.1 with
 | .v i=>match p.2[i]? with
  | some (some (.t d))=>some (.rt (.t d) p.2)
  | some (some (.m o))=>some (.rt (.m o) (p.2.set i none))
  | _=>none
 | .s _=>none
 | .f _=>none
 | .x _ _=>none
 | u=>some (.rt u p.2):=rfl
@[simp] theorem Vx:kH q a b S=(q S).bind fun p=>if p.1 then a p.2 else b p.2:=rfl
@[simp] theorem TH:LJ bd g S=(g S).bind fun p=>(bd p.1 p.2).map .nx:=rfl
@[simp] theorem QX:bName i d S=jZ i (.t d) S:=rfl
@[simp] theorem n8:lq bd gi a S=(gi S).bind fun p=>loop bd a p.1 p.2:=rfl
@[simp] theorem Mc:IE g S=(g S).bind fun p=>match p.1 with | .tup ds=>some (ds,p.2) | .lst ds=>some (ds,p.2) | _=>none:=rfl
@[simp] theorem QY:j4 gA S=(gA S).bind fun p=>match p.1 with | [.int j]=>if j < 1000000/\-1000000 < j then some (pT 0 j.toNat,p.2) else none | _=>none:=rfl
@[simp] theorem Me:loop bd a [] S=some (.nx S):=rfl
@[simp] theorem TJ:bT S=some ([],S):=rfl
@[simp] theorem TL:bC g gu S=(g S).bind fun p=>(gu p.2).map fun q=>(.t p.1 :: q.1,q.2):=rfl
@[simp] theorem TM:d9 ge gu S=(ge S).bind fun p=>(gu p.2).map fun q=>(p.1 :: q.1,q.2):=rfl
@[simp] theorem QZ:aX fm gu S=(gu S).bind fun p=>if(slotsOf p.1).Nodup/\b6 p.1<=1 then(b7 p.2 p.1).bind fun us=>(fm us).bind fun r=>(wb p.1 r.2 p.2).map fun S2=>(r.1,S2) else none:=rfl
@[simp] theorem NK:b7 S []=some []:=rfl
@[simp] theorem Mf (u:U) (us:List U):b7 S (u :: us)=(resolve S u).bind fun w=>(b7 S us).map fun ws=>w :: ws:=rfl
@[simp] theorem Q0:resolve S (.t d)=XU d:=rfl
@[simp] theorem Q2:resolve S (.m o)=some (.b o):=rfl
@[simp] theorem Q3 (ns:List Int):resolve S (.s ns)=some (.s ns):=rfl
@[simp] theorem Q4:resolve S (.v i)=match S[i]? with | some (some (.m o))=>some (.b o) | some (some (.b o))=>some (.b o) | _=>none:=rfl
@[simp] theorem Pz:slotsOf []=[]:=rfl
@[simp] theorem TN (us:List U):slotsOf (.t d :: us)=slotsOf us:=rfl
@[simp] theorem TQ (us:List U):slotsOf (.m o :: us)=slotsOf us:=rfl
@[simp] theorem TR (ns:List Int) (us:List U):slotsOf (.s ns :: us)=slotsOf us:=rfl
@[simp] theorem TU (us:List U):slotsOf (.v i :: us)=i :: slotsOf us:=rfl
@[simp] theorem PB:b6 []=0:=rfl
@[simp] theorem TV (us:List U):b6 (.t d :: us)=b6 us:=rfl
@[simp] theorem TY (us:List U):b6 (.m o :: us)=b6 us+1:=rfl
@[simp] theorem TZ (ns:List Int) (us:List U):b6 (.s ns :: us)=b6 us:=rfl
@[simp] theorem T5 (us:List U):b6 (.v i :: us)=b6 us:=rfl
@[simp] theorem PD:wb [] [] S=some S:=rfl
@[simp] theorem T6 (us:List U) (os:List MO):wb (.t d :: us) os S=wb us os S:=by cases os <;> rfl
@[simp] theorem T7 (ns:List Int) (us:List U) (os:List MO):wb (.s ns :: us) os S=wb us os S:=by cases os <;> rfl
@[simp] theorem T8 (us:List U) (os:List MO):wb (.m o :: us) (o' :: os) S=wb us os S:=rfl
@[simp] theorem T9 (us:List U) (os:List MO):wb (.v i :: us) (o :: os) S=match S[i]? with | some (some (.m _))=>wb us os (S.set i (some (.m o))) | some (some (.b _))=>wb us os (S.set i (some (.b o))) | _=>none:=rfl
@[simp] theorem Ua:cH i gb S=match S[i]? with | some (some _)=>(gb S).bind fun p=>(match p.2[i]? with | some (some u)=>(nD u p.1).map fun d=>(d,p.2) | _=>none) | _=>none:=rfl
@[simp] theorem Ub:gB i S=match S[i]? with | some (some u)=>(qh u).map fun n=>(.int (n:Nat),S) | _=>none:=rfl
@[simp] theorem W6 (h:List D->MO->Option (D×MO)):eM i h gA S=if O4 S i then(gA S).bind fun p=>AI p.2 i (h p.1) else none:=rfl
@[simp] theorem Uc (gk gv:GD):IM i gk gv S=(gv S).bind fun p=>match p.2[i]? with | some (some _)=>(gk p.2).bind fun r=>(AI r.2 i fun o=>(sN o r.1 p.1).map fun o'=>(.cz,o')).map fun z=>.nx z.2 | _=>none:=rfl
@[simp] theorem Vy (Ts:List String):HF Ts g S=(g S).bind fun p=>(iz Ts p.1).map fun b=>(.bl b,p.2):=rfl
@[simp] theorem Mg (ds:List D) (k:Int):nD (.t (.tup ds)) (.int k)=gR ds k:=rfl
@[simp] theorem Mh (ds:List D) (k:Int):nD (.t (.lst ds)) (.int k)=gR ds k:=rfl
@[simp] theorem AY (ds:List D) (k:Int):nD (.m (.lst ds)) (.int k)=gR ds k:=rfl
@[simp] theorem Mi (ds:List D) (k:Int):nD (.b (.lst ds)) (.int k)=gR ds k:=rfl
@[simp] theorem Mj (kvs:List (Key×D)) (k:D):nD (.b (.dct kvs)) k=(keyOf k).bind (iQ kvs):=by cases k <;> rfl
@[simp] theorem NL (ns:List Int) (k:Int):nD (.s ns) (.int k)=(gR ns k).map D.int:=rfl
@[simp] theorem Q5 (k:Int):keyOf (.int k)=some (.inl k):=rfl
@[simp] theorem Q6 (k:Str):keyOf (.str k)=some (.inr k):=rfl
@[simp] theorem NN (ds:List D):qh (.t (.tup ds))=some ds.length:=rfl
@[simp] theorem NO (ds:List D):qh (.t (.lst ds))=some ds.length:=rfl
@[simp] theorem NP (ds:List D):qh (.m (.lst ds))=some ds.length:=rfl
@[simp] theorem NQ (ds:List D):qh (.b (.lst ds))=some ds.length:=rfl
@[simp] theorem PF (ns:List Int):qh (.s ns)=some ns.length:=rfl
@[simp] theorem Vz (C:Int->Int->Bool) (h:Int->Int->D) (x y:Int):D8 C h [.int x,.int y]=if C x y then XU (h x y) else none:=rfl
@[simp] theorem PJ (x y:Int):cB [.int x,.int y]=XX (x+y):=rfl
@[simp] theorem PK (x y:Str):cB [.str x,.str y]=if x.length+y.length<=100000 then XU (.str (x++y)) else none:=rfl
@[simp] theorem PL (x y:List D):cB [.tup x,.tup y]=if x.length+y.length<=100000 then XU (.tup (x++y)) else none:=rfl
@[simp] theorem pA (x y:List D):cB [.lst x,.lst y]=if x.length+y.length<=100000 then XW (x++y) else none:=rfl
@[simp] theorem Ud (x y:Int):AF [.int x,.int y]=if((decide (-(2 ^ 64) < x) && decide (x < 2 ^ 64)) || (decide (-(2 ^ 64) < y) && decide (y < 2 ^ 64))) then XX (x * y) else none:=rfl
@[simp] theorem Ue (x:Int):yH [.int x]=XX (-x):=rfl
@[simp] theorem Ug (ds:List D):oV ds=if ds.length<=100000 then XU (.tup ds) else none:=rfl
@[simp] theorem Uh (ds:List D):gn ds=if ds.length<=100000 then XW ds else none:=rfl
@[simp] theorem Q7 (ds:List D) (k:Int):E5 [.tup ds,.int k]=(gR ds k).map .t:=rfl
@[simp] theorem Q8 (ds:List D) (k:Int):E5 [.lst ds,.int k]=(gR ds k).map .t:=rfl
@[simp] theorem PM:rK [d,e]=if lz d<=40 then XU (.bl (kL d e)) else none:=rfl
@[simp] theorem PN:HE [d,e]=if lz d<=40 then XU (.bl (!kL d e)) else none:=rfl
@[simp] theorem Q9 (x y z:Int):B7 [.int x,.int y,.int z]=XX (if y < x then(if z < y then z else y) else if z < x then z else x):=rfl
@[simp] theorem Rb (x y:Int):B8 [.int x,.int y]=XX (if y > x then y else x):=rfl
@[simp] theorem PR (ds:List D):AG [.tup ds]=XX ds.length:=rfl
@[simp] theorem PU (ds:List D):AG [.lst ds]=XX ds.length:=rfl
@[simp] theorem NR (ds:List D):KR [.tup ds]=XW ds:=rfl
@[simp] theorem NS (ds:List D):KR [.lst ds]=XW ds:=rfl
@[simp] theorem Mk (ds:List D):nZ [.tup ds]=XU (.tup ds):=rfl
@[simp] theorem Ml (ds:List D):nZ [.lst ds]=XU (.tup ds):=rfl
@[simp] theorem Ui (ds:List D):LO [.lst ds]=(jj ds).map fun bs=>.t (.bl (bs.all id)):=rfl
@[simp] theorem Uj (ds:List D):LP [.lst ds]=(jj ds).map fun bs=>.t (.bl (bs.any id)):=rfl
@[simp] theorem Rc (x y:Str):kL (.str x) (.str y)=(x == y):=by kernel_rfl
@[simp] theorem Rf (x y:Int):kL (.int x) (.int y)=(x == y):=by kernel_rfl
@[simp] theorem Rg (x:Str):lz (.str x)=0:=by kernel_rfl
@[simp] theorem Rh (x:Int):lz (.int x)=0:=by kernel_rfl
@[simp] theorem Uk (h:MO->Option (D×MO)):AI S i h=match S[i]? with | some (some (.m o))=>(h o).map fun r=>(r.1,S.set i (some (.m r.2))) | some (some (.b o))=>(h o).map fun r=>(r.1,S.set i (some (.b r.2))) | _=>none:=rfl
@[simp] theorem VA:O4 S i=match S[i]? with | some (some (.m (.lst _)))=>true | some (some (.b (.lst _)))=>true | _=>false:=rfl
@[simp] theorem NT (kvs:List (Key×D)) (k:D):sN (.dct kvs) k d=(keyOf k).bind fun kk=>if kvs.length < 100000 then some (.dct (putD kvs kk d)) else none:=rfl
@[simp] theorem NU (ds:List D) (k:Int):sN (.lst ds) (.int k) d=(CZ ds.length k).map fun j=>.lst (ds.set j d):=rfl
@[simp] theorem PV (ds:List D):hAppend [d] (.lst ds)=if ds.length < 100000 then some (.cz,.lst (ds++[d])) else none:=rfl
@[simp] theorem NV:aL [] S=some []:=by cases S <;> rfl
@[simp] theorem Ri (us:List U) (o2:MO):aL (.b o2 :: us) (some (.b o) :: S)=(aL us S).map fun os=>o :: os:=rfl
@[simp] theorem Ce (us:List U) (x:Option U):aL (.t d :: us) (x :: S)=aL us S:=by cases x <;> rfl
@[simp] theorem Rj (ns:List Int) (us:List U) (x:Option U):aL (.s ns :: us) (x :: S)=aL us S:=by cases x <;> rfl
end
structure cK where
 c:Int
 l:Int
 n:Int
noncomputable def aT (t:cK):List (Key×D):=[(.inr "cell",.int t.c),(.inr "left",.int t.l),(.inr "turn",.int t.n)]
noncomputable def qi:List (Key×D)->Option cK
 | [(k1,.int c),(k2,.int l),(k3,.int n)]=>if k1= .inr "cell"/\k2= .inr "left"/\k3= .inr "turn" then some ⟨c,l,n⟩ else none
 | _=>none
@[simp] theorem Mm (t:cK):qi (aT t)=some t:=by kernel_rfl
def lV {kvs:List (Key×D)}{t:cK}(h:qi kvs=some t):kvs=aT t:=by
 unfold qi at h
 split at h
 ·obtain⟨⟨rfl,rfl,rfl⟩,rfl⟩:=bh h
  rfl
 ·cases h
@[simp] theorem Ul (t:cK):iQ (aT t) (.inr "cell")=some (.int t.c):=by rfl
@[simp] theorem Um (t:cK):iQ (aT t) (.inr "left")=some (.int t.l):=by rfl
@[simp] theorem Uo (t:cK):iQ (aT t) (.inr "turn")=some (.int t.n):=by rfl
@[simp] theorem Rk (t:cK) (x:Int):putD (aT t) (.inr "turn") (.int x)=aT {t with n:=x}:=by rfl
@[simp] theorem Rl (t:cK) (x:Int):putD (aT t) (.inr "left") (.int x)=aT {t with l:=x}:=by rfl
@[simp] theorem PX (t:cK):(aT t).length=3:=rfl
noncomputable def mixed (c n:Int):Int:=(((c % 2147483647+31 * (n+1) * (n+1)+1) * 48271) % 2147483629+7 * (n+1)) * 69621 % 2147483587 / 7
def bg (t:cK) (m:Int):Int:=if 0 < t.l then t.l % m else mixed t.c t.n % m
noncomputable def b8 (t:cK) (m:Int):cK:=if 0 < t.l then⟨t.c,t.l / m,t.n+1⟩ else⟨t.c,t.l,t.n+1⟩
def bU:FM
 | [.b (.dct kvs),.t (.int m)]=>(qi kvs).bind fun t=>if 0 < m/\m < 1000000/\0<=t.n/\t.n < 1000000 then some (.t (.int (bg t m)),[.dct (aT (b8 t m))]) else none
 | _=>none
def jG:GS:=
 (aJ (bL 2 (eP cB (aa (cH 0 (eC (.str "turn"))) (aa (eC (.int 1)) ak))))
 (aJ (IM 0 (eC (.str "turn")) (eF (aj 2)))
 (aJ (kH (qB (eF (eP HC (aa (cH 0 (eC (.str "left"))) (aa (eC (.int 0)) ak))))) (aJ (bL 3 (eP AE (aa (cH 0 (eC (.str "left"))) (aa (eF (aj 1)) ak))))
 (aJ (IM 0 (eC (.str "left")) (eF (eP IA (aa (cH 0 (eC (.str "left"))) (aa (eF (aj 1)) ak)))))
 (cI (aj 3)))) dO)
 (aJ (bL 4 (eP AF (aa (eF (eP cB (aa (eF (eP cB (aa (eF (eP AE (aa (cH 0 (eC (.str "cell"))) (aa (eC (.int 2147483647)) ak)))) (aa (eF (eP AF (aa (eF (eP AF (aa (eC (.int 31)) (aa (eF (aj 2)) ak)))) (aa (eF (aj 2)) ak)))) ak)))) (aa (eC (.int 1)) ak)))) (aa (eC (.int 48271)) ak))))
 (aJ (bL 4 (eP AF (aa (eF (eP cB (aa (eF (eP AE (aa (eF (aj 4)) (aa (eC (.int 2147483629)) ak)))) (aa (eF (eP AF (aa (eC (.int 7)) (aa (eF (aj 2)) ak)))) ak)))) (aa (eC (.int 69621)) ak))))
 (cI (eP AE (aa (eF (eP IA (aa (eF (eP AE (aa (eF (aj 4)) (aa (eC (.int 2147483587)) ak)))) (aa (eC (.int 7)) ak)))) (aa (eF (aj 1)) ak)))))))))
def pick_run:∀us r,bU us=some r->bM 5 jG us=some r:=by
 intro us r h
 unfold bU at h
 split at h
 ·rename_i kvs m
  obtain⟨t,h1,h⟩:=ah h
  obtain⟨⟨h2,h3,h4,h5⟩,rfl⟩:=bh h
  obtain rfl:=lV h1
  have e1:-18446744073709551616 < t.n+1:=by lia
  have e2:t.n+1 < 18446744073709551616:=by lia
  have e3:m < 1073741824:=by lia
  by_cases hl:0 < t.l
  ·simp[bM,jG,bg,b8,hl,h2,e3]
  ·simp[bM,jG,bg,b8,hl,h2,e3,mixed,e1,e2]
 ·cases h
noncomputable def dR:Option U->Bool
 | some (.b _)=>true
 | _=>false
@[simp] theorem VB:dR none=false:=rfl
@[simp] theorem VC (d:D):dR (XU d)=false:=rfl
@[simp] theorem VD (o:MO):dR (some (.m o))=false:=rfl
def bA (i:Nat) (u:U) (S:SS):jZ i u S=(S[i]?).bind fun x=>if dR x then none else some (S.set i (some u)):=by
 unfold jZ
 cases S[i]? with
 | none=>rfl
 | some x=>cases x with
  | none=>rfl
  | some u=>cases u <;> rfl
def n9:GS:=
 (aJ (kH (nR (nQ (qB (HF ["int"] (eF (aj 0))))) (qB (HF ["bool"] (eF (aj 0))))) (cI (eT (eC (.bl false)))) dO)
 (cI (eT (eQ (uJ (qB (eF (eP LG (aa (eF (aj 1)) (aa (eF (aj 0)) ak))))) (qB (eF (eP LG (aa (eF (aj 0)) (aa (eF (aj 2)) ak))))))))))
def lW:FM
 | [.t d,.t (.int l),.t (.int m)]=>some (.t (.bl (fQ d l m)),[])
 | _=>none
def whole_run:∀us r,lW us=some r->bM 3 n9 us=some r:=by
 intro us r h
 unfold lW at h
 split at h
 ·rename_i d l m
  cases h
  cases d <;> simp[bM,n9,fQ,iz,lA,Ax,sy]
  rename_i x
  by_cases h1:l<=x <;> simp[h1]
 ·cases h
def oh:GS:=
 (cI (eT (eQ (uJ (qB (HF ["tuple"] (eF (aj 0)))) (uJ (qB (eF (eP LG (aa (eF (aj 1)) (aa (gB 0) ak))))) (qB (eF (eP LG (aa (gB 0) (aa (eF (aj 2)) ak))))))))))
def lX:FM
 | [.t d,.t (.int l),.t (.int m)]=>some (.t (.bl (sA d l m)),[])
 | _=>none
def Dv:∀us r,lX us=some r->bM 3 oh us=some r:=by
 intro us r h
 unfold lX at h
 split at h
 ·rename_i d l m
  cases h
  cases d <;> simp[bM,oh,sA,iz,lA,Aw]
  rename_i x
  by_cases h1:l<=(x.length:Int) <;> simp[h1]
 ·cases h
def pB:GS:=
 (cI (eP gn (aa (eC (.str "a")) (aa (eC (.str "ab")) (aa (eC (.str "abc")) (aa (eC (.str "b")) (aa (eC (.str "any")) (aa (eC (.str "name")) (aa (eC (.str "x")) (aa (eC (.str "zzzzzzzz")) ak))))))))))
noncomputable def dI:List Str:=["a","ab","abc","b","any","name","x","zzzzzzzz"]
noncomputable def iL:FM
 | []=>some (.m (.lst (dI.map D.str)),[])
 | _=>none
def Dw:∀us r,iL us=some r->bM 0 pB us=some r:=by
 intro us r h
 unfold iL at h
 split at h
 ·cases h
  kernel_rfl
 ·cases h
def jH:GS:=
 (aJ (bL 2 (aj 1))
 (aJ (kH (qB (eF (eP HC (aa (gB 0) (aa (eC (.int 0)) ak))))) (bL 2 (eP cB (aa (cH 0 (eF (eP AE (aa (eF (aj 1)) (aa (gB 0) ak))))) (aa (eF (eP IA (aa (eF (aj 1)) (aa (gB 0) ak)))) ak)))) dO)
 (cI (Ca [("cell",(eF (aj 2))),("left",(eF (eP B8 (aa (eC (.int 0)) (aa (eF (eP AD (aa (eF (aj 2)) (aa (eF (eP OZ (aa (eC (.int 10)) (aa (eC (.int 18)) ak)))) ak)))) ak))))),("turn",(eC (.int 0)))]))))
def yZ (ns:List Int) (k:Int):Int:=if 0 < ns.length then(gR ns (k % ns.length)).getD 0+k / ns.length else k
def y9 (ns:List Int) (k:Int):cK:=⟨yZ ns k,if yZ ns k - 10 ^ 18 > 0 then yZ ns k - 10 ^ 18 else 0,0⟩
def qV:FM
 | [.s ns,.t (.int k)]=>if 0<=k/\k < 1000000/\ns.length < 1000000 then some (.m (.dct (aT (y9 ns k))),[]) else none
 | _=>none
def FF {α:Type}{l:List α}{i:Int}(h0:0<=i) (h1:i < l.length):∃x,gR l i=some x:=by
 unfold gR CZ
 rw[if_pos h0,if_pos h1]
 have:i.toNat < l.length:=by omega
 exact⟨l[i.toNat],Yo this⟩
@[simp] theorem PY (k1 k2 k3:Str) (g1 g2 g3:GD) (S:SS):Ca [(k1,g1),(k2,g2),(k3,g3)] S=(g1 S).bind fun a=>(g2 a.2).bind fun b=>(g3 b.2).map fun c=>(.m (.dct (sP [] [(.inr k1,a.1),(.inr k2,b.1),(.inr k3,c.1)])),c.2):=by
 simp only[Ca,sO]
 cases g1 S with
 | none=>rfl
 | some a=>
  simp only[X4]
  cases g2 a.2 with
  | none=>rfl
  | some b=>
   simp only[X4]
   cases g3 b.2 with
   | none=>rfl
   | some c=>rfl
def tu (c l n:Int):sP [] [(.inr "cell",.int c),(.inr "left",.int l),(.inr "turn",.int n)]=aT ⟨c,l,n⟩:=rfl
def FG:∀us r,qV us=some r->bM 3 jH us=some r:=by
 intro us r h
 unfold qV at h
 split at h
 ·rename_i ns k
  obtain⟨⟨h1,h2,h3⟩,rfl⟩:=bh h
  by_cases hl:0 < ns.length
  ·have e0:(0:Int) < ns.length:=by omega
   obtain⟨x,hx⟩:=FF (l:=ns) (i:=k % ns.length) (aaL _ (by omega)) (aau _ e0)
   have e1:(ns.length:Int) < 1073741824:=by omega
   simp[bM,jH,e0,e1,hx,tu,y9,yZ,hl]
  ·have e0:¬(0:Int) < ns.length:=by omega
   simp[bM,jH,e0,tu,y9,yZ,hl]
 ·cases h
end L2
end
section
namespace Sw
open PySem PySem.Spec PyProof.Rows L2
variable {α:Type}{i k:Int}{T:AAG}
def bD {t:cK}{m:Int}(h:0 < m):0<=bg t m/\bg t m < m:=by
 unfold bg
 split
 ·exact⟨aaL _ (by lia),aau _ h⟩
 ·exact⟨aaL _ (by lia),aau _ h⟩
@[simp] theorem kN (t:cK) (m:Int):(b8 t m).n=t.n+1:=by unfold b8;split <;> rfl
def eL {t:cK}{m:Int}(h1:0 < m) (h2:m < 1000000) (h3:0<=t.n) (h4:t.n < 1000000):bU [.b (.dct (aT t)),.t (.int m)]=some (.t (.int (bg t m)),[.dct (aT (b8 t m))]):=by
 simp[bU,h1,h2,h3,h4]
def zb {α:Type}{l:List α}(h0:0<=i) (h1:i < l.length):gR l i=some (l[i.toNat]'(by lia)):=by
 unfold gR CZ
 rw[if_pos h0,if_pos h1]
 exact Yo (by lia)
noncomputable def bu (T:AAG):D:=.tup (T.map fun p=>.tup [.str p.1,.int p.2])
structure AZ where
 names:List Str
 tab:List (Str×Int)
 left:Int
 t:cK
noncomputable def qj (i j k:Int):Int:=if j < i then(if k < j then k else j) else if k < i then k else i
def cA (s:AZ) (k:Int):AZ:=
 let i:=(bg s.t s.names.length).toNat
 let t1:=b8 s.t s.names.length
 let most:=qj 5 (s.left - 4+k) (bg t1 6)
 ⟨s.names.eraseIdx i,s.tab++[(s.names.getD i "",most)],s.left - most - 1,b8 t1 6⟩
def dm (lY:FM) (aB:FM):GS:=
 (aJ (bL 5 (eT (eM 1 lO (aa (eF (aX aB (d9 (aj 0) (bC (gB 1) bT)))) ak))))
 (aJ (bL 6 (eP B7 (aa (eC (.int 5)) (aa (eF (eP cB (aa (eF (eP AD (aa (eF (aj 3)) (aa (eC (.int 4)) ak)))) (aa (eF (aj 4)) ak)))) (aa (eF (aX aB (d9 (aj 0) (bC (eC (.int 6)) bT)))) ak)))))
 (aJ (bL 2 (eP cB (aa (eF (aj 2)) (aa (eF (eP oV (aa (eF (eP oV (aa (eF (aj 5)) (aa (eF (aj 6)) ak)))) ak))) ak))))
 (bL 3 (eP AD (aa (eF (eP AD (aa (eF (aj 3)) (aa (eF (aj 6)) ak)))) (aa (eC (.int 1)) ak)))))))
def kO (lY:FM) (aB:FM):GS:=
 (aJ (bL 1 (aX lY bT))
 (aJ (bL 2 (eP oV ak))
 (aJ (bL 3 (eT (eC (.int 12))))
 (aJ (lq (bName 4) (j4 (aa (eF (eP E5 (aa (eF (eP gn (aa (eC (.int 1)) (aa (eC (.int 2)) (aa (eC (.int 2)) (aa (eC (.int 3)) (aa (eC (.int 4)) ak))))))) (aa (eF (aX aB (d9 (aj 0) (bC (eC (.int 5)) bT)))) ak)))) ak)) (dm lY aB))
 (cI (aj 2))))))
def jm (s:AZ) (x y z:Option U):SS:=[some (.b (.dct (aT s.t))),XW (s.names.map D.str),XU (bu s.tab),XX s.left,x,y,z]
def Dy {n:Nat}(h0:0<=i) (h1:i < n):seqIndex? i n=some i.toNat:=by
 unfold seqIndex?
 simp[h0,h1]
 try lia
theorem nG {α β:Type}(f:α->β):∀(l:List α) (k:Nat),(l.map f).eraseIdx k=(l.eraseIdx k).map f
 | [],_=>rfl
 | _ :: _,0=>rfl
 | a :: l,k+1=>by simp[nG f l k]
def FH {s:AZ}{x y z:Option U}(hn:0 < s.names.length) (hn2:s.names.length<=8) (ht:s.tab.length<=100) (h3:0<=s.t.n) (h4:s.t.n < 900000) (hx:(x=none/\y=none/\z=none)\/∃a b c,x=XU a/\y=XU b/\z=XU c):
  ∃a b c,(bName 4 (.int k) (jm s x y z)).bind (dm iL bU)=some (.nx (jm (cA s k) (XU a) (XU b) (XU c))):=by
 have p1:=bD (t:=s.t) (m:=s.names.length) (by lia)
 have e1:=eL (t:=s.t) (m:=s.names.length) (by lia) (by lia) h3 (by lia)
 have e2:=eL (t:=b8 s.t s.names.length) (m:=6) (by decide) (by decide) (by simp;lia) (by simp;lia)
 have e3:=Dy p1.1 p1.2
 have e4:(bg s.t s.names.length).toNat < s.names.length:=by lia
 have e5:-9223372036854775808<=bg s.t s.names.length:=by lia
 have e6:bg s.t s.names.length < 9223372036854775808:=by lia
 have e7:s.tab.length+1<=100000:=by lia
 refine⟨.int k,.str s.names[(bg s.t s.names.length).toNat],.int (qj 5 (s.left - 4+k) (bg (b8 s.t s.names.length) 6)),?_⟩
 obtain⟨b1,b2,b3⟩:dR x=false/\dR y=false/\dR z=false:=by
  rcases hx with⟨rfl,rfl,rfl⟩ | ⟨a,b,c,rfl,rfl,rfl⟩ <;> exact⟨rfl,rfl,rfl⟩
 simp[-bW,bA,b1,b2,b3,dm,jm,bu,e1,e2,lO,e3,e4,e5,e6,e7,cA,qj,nG]
def tw {s:AZ}(hn:0 < s.names.length):(cA s k).names.length+1=s.names.length:=by
 have p1:=bD (t:=s.t) (m:=s.names.length) (by lia)
 have:(bg s.t s.names.length).toNat < s.names.length:=by lia
 show(s.names.eraseIdx _).length+1=_
 rw[List.length_eraseIdx,if_pos this]
 lia
@[simp] theorem Mn (s:AZ) (k:Int):(cA s k).t.n=s.t.n+2:=by
 show(b8 (b8 s.t _) 6).n=_
 simp;lia
@[simp] theorem FJ (s:AZ) (k:Int):(cA s k).tab.length=s.tab.length+1:=by
 show(s.tab++[_]).length=_
 simp
theorem zc:∀(ks:List Int) (s:AZ) (x y z:Option U),ks.length<=s.names.length->s.names.length<=8->s.tab.length+ks.length<=100->0<=s.t.n->s.t.n+2 * ks.length < 900000->((x=none/\y=none/\z=none)\/∃a b c,x=XU a/\y=XU b/\z=XU c)->
  ∃x' y' z',loop (bName 4) (dm iL bU) (ks.map D.int) (jm s x y z)=some (.nx (jm (ks.foldl cA s) x' y' z'))
 | [],s,x,y,z,_,_,_,_,_,_=>⟨x,y,z,rfl⟩
 | k :: ks,s,x,y,z,h1,h2,h3,h4,h5,hx=>by
  have l1:ks.length+1<=s.names.length:=h1
  have l3:s.tab.length+(ks.length+1)<=100:=h3
  have l5:s.t.n+2 * ((ks.length+1:Nat):Int) < 900000:=h5
  have hn:0 < s.names.length:=by lia
  obtain⟨a,b,c,e⟩:=FH (k:=k) hn h2 (by lia) h4 (by lia) hx
  have n1:=tw (s:=s) (k:=k) hn
  obtain⟨x',y',z',ih⟩:=zc ks (cA s k) (XU a) (XU b) (XU c) (by lia) (by lia) (by simp;lia) (by simp;lia) (by simp;lia) (.inr ⟨a,b,c,rfl,rfl,rfl⟩)
  refine⟨x',y',z',?_⟩
  show(bName 4 (.int k) (jm s x y z)).bind (fun S1=>(dm iL bU S1).bind fun o=>match o with
   | .nx S2=>loop (bName 4) (dm iL bU) (ks.map D.int) S2
   | .ct S2=>loop (bName 4) (dm iL bU) (ks.map D.int) S2
   | .bk S2=>some (.nx S2)
   | .rt u S2=>some (.rt u S2))=_
  rw[<-Option.bind_assoc,e]
  exact ih
def tabI (t:cK):Int:=([1,2,2,3,4]:List Int).getD (bg t 5).toNat 1
def lZ (t:cK):Nat:=(tabI t).toNat
noncomputable def upTo (n:Nat):List Int:=(List.range n).map fun(k:Nat)=>(k:Int)
def d7 (t:cK):AZ:=(upTo (lZ t)).foldl cA ⟨dI,[],12,b8 t 5⟩
def l6:FM
 | [.b (.dct kvs)]=>(qi kvs).bind fun t=>if 0<=t.n/\t.n < 800000 then some (.t (bu (d7 t).tab),[.dct (aT (d7 t).t)]) else none
 | _=>none
def zd (n:Nat):pT 0 n=(upTo n).map D.int:=by
 unfold pT upTo
 simp
def Cf (t:cK):1<=tabI t/\tabI t<=4:=by
 unfold tabI
 have p:=bD (t:=t) (m:=5) (by decide)
 generalize (bg t 5).toNat=i
 match i with
 | 0=>decide
 | 1=>decide
 | 2=>decide
 | 3=>decide
 | 4=>decide
 | _+5=>simp
def xu (t:cK):1<=lZ t/\lZ t<=4:=by
 have:=Cf t
 unfold lZ
 lia
def FL {t:cK}:gR [D.int 1,D.int 2,D.int 2,D.int 3,D.int 4] (bg t 5)=some (.int (tabI t)):=by
 have p:=bD (t:=t) (m:=5) (by decide)
 unfold tabI
 generalize bg t 5=i at p
 obtain⟨h0,h1⟩:=p
 have:i=0\/i=1\/i=2\/i=3\/i=4:=by lia
 rcases this with rfl | rfl | rfl | rfl | rfl <;> rfl
def Dz:∀us r,l6 us=some r->bM 7 (kO iL bU) us=some r:=by
 intro us r h
 unfold l6 at h
 split at h
 ·rename_i kvs
  obtain⟨t,h1,h⟩:=ah h
  obtain⟨⟨h2,h3⟩,rfl⟩:=bh h
  obtain rfl:=lV h1
  have e1:=eL (t:=t) (m:=5) (by decide) (by decide) h2 (by lia)
  have b:=xu t
  obtain⟨x,y,z,e2⟩:=zc (upTo (lZ t)) ⟨dI,[],12,b8 t 5⟩ none none none (by simp[upTo,dI];lia) (by simp[dI]) (by simp[upTo];lia) (by simp;lia) (by simp[upTo];lia) (.inl ⟨rfl,rfl,rfl⟩)
  have bI:=Cf t
  have e3:tabI t < 1000000:=by lia
  have e4:-1000000 < tabI t:=by lia
  rw[<-zd] at e2
  simp only[jm] at e2
  have e0:iL []=some (.m (.lst (dI.map D.str)),[]):=rfl
  have e5:bu []= .tup []:=rfl
  rw[e5] at e2
  unfold lZ at e2
  simp[bM,kO,e0,e1,FL,e3,e4,e2,d7,lZ]
 ·cases h
noncomputable def Mp:D->Option (Str×Int)
 | .tup [.str z,.int i]=>some (z,i)
 | _=>none
def ze:List D->Option (List (Str×Int))
 | []=>some []
 | d :: ds=>(Mp d).bind fun p=>(ze ds).map fun ps=>p :: ps
def tabOf:D->Option (List (Str×Int))
 | .tup ds=>ze ds
 | _=>none
@[simp] theorem DA (T:AAG):ze (T.map fun p=>.tup [.str p.1,.int p.2])=some T:=by
 induction T with
 | nil=>rfl
 | cons p T ih=>simp[ze,Mp,ih]
@[simp] theorem Rm (T:AAG):tabOf (bu T)=some T:=DA T
theorem tF:∀{ds:List D}{T:AAG},ze ds=some T->ds=T.map fun p=>.tup [.str p.1,.int p.2]
 | [],T,h=>by cases h;rfl
 | d :: ds,T,h=>by
  obtain⟨p,h1,h⟩:=ah h
  obtain⟨ps,h2,h⟩:=ao h
  subst h
  unfold Mp at h1
  split at h1
  ·cases h1
   rw[tF h2]
   rfl
  ·cases h1
def tG {d:D}(h:tabOf d=some T):d=bu T:=by
 unfold tabOf at h
 split at h
 ·rw[tF h];rfl
 ·cases h
def eO (aB:FM):GS:=
 (aJ (LJ (lN 2 (dc (bName 5) (dc (bName 6) lM))) (cH 1 (eF (aX aB (d9 (aj 0) (bC (gB 1) bT))))))
 (bL 3 (eP cB (aa (eF (aj 3)) (aa (eF (eP oV (aa (eF (eP oV (aa (eF (aj 5)) (aa (eF (aX aB (d9 (aj 0) (bC (eF (eP cB (aa (eF (aj 6)) (aa (eC (.int 1)) ak)))) bT)))) ak)))) ak))) ak)))))
def oq (aB:FM):GS:=
 (aJ (bL 3 (eP oV ak))
 (aJ (lq (bName 4) (j4 (aa (eF (aX aB (d9 (aj 0) (bC (eF (eP cB (aa (eF (aj 2)) (aa (eC (.int 1)) ak)))) bT)))) ak)) (eO aB))
 (cI (aj 3))))
def cT (T:AAG) (s:List (Str×Int)×cK) (_:Int):List (Str×Int)×cK:=
 let p:=T.getD (bg s.2 T.length).toNat ("",0)
 let t1:=b8 s.2 T.length
 (s.1++[(p.1,bg t1 (p.2+1))],b8 t1 (p.2+1))
def jo (T:AAG) (most:D) (s:List (Str×Int)×cK) (x y z:Option U):SS:=[some (.b (.dct (aT s.2))),XU (bu T),XU most,XU (bu s.1),x,y,z]
structure pC (T:AAG):Prop where
 pos:0 < T.length
 len:T.length<=10
 VE:∀p∈T,0<=p.2/\p.2<=10
def FO {most:D}{s:List (Str×Int)×cK}{x y z:Option U}(ok:pC T) (hr:s.1.length<=1000) (h3:0<=s.2.n) (h4:s.2.n < 900000) (hx:(x=none/\y=none/\z=none)\/∃a b c,x=XU a/\y=XU b/\z=XU c):
  ∃a b c,(bName 4 (.int k) (jo T most s x y z)).bind (eO bU)=some (.nx (jo T most (cT T s k) (XU a) (XU b) (XU c))):=by
 have p0:=ok.pos
 have XH:=ok.len
 have p1:=bD (t:=s.2) (m:=T.length) (by lia)
 have e1:=eL (t:=s.2) (m:=T.length) (by lia) (by lia) h3 (by lia)
 have e4:(bg s.2 T.length).toNat < T.length:=by lia
 have e5:T.getD (bg s.2 T.length).toNat ("",0)=T[(bg s.2 T.length).toNat]:=by simp[List.getD,e4]
 have hm:=ok.VE _ (aaF e4)
 have e2:=eL (t:=b8 s.2 T.length) (m:=T[(bg s.2 T.length).toNat].2+1) (by lia) (by lia) (by simp;lia) (by simp;lia)
 have e3:gR (T.map fun p=>D.tup [.str p.1,.int p.2]) (bg s.2 T.length)=some (.tup [.str T[(bg s.2 T.length).toNat].1,.int T[(bg s.2 T.length).toNat].2]):=B9 _ (by rw[zb p1.1 p1.2])
 have e7:s.1.length+1<=100000:=by lia
 refine⟨.int k,.str T[(bg s.2 T.length).toNat].1,.int T[(bg s.2 T.length).toNat].2,?_⟩
 obtain⟨b1,b2,b3⟩:dR x=false/\dR y=false/\dR z=false:=by
  rcases hx with⟨rfl,rfl,rfl⟩ | ⟨a,b,c,rfl,rfl,rfl⟩ <;> exact⟨rfl,rfl,rfl⟩
 simp[-bW,bA,b1,b2,b3,eO,jo,bu,e1,e2,e3,e7,cT,e4,lN,dc,lM]
@[simp] theorem zf (T:AAG) (s:List (Str×Int)×cK) (k:Int):(cT T s k).1.length=s.1.length+1:=by simp[cT]
@[simp] theorem DB (T:AAG) (s:List (Str×Int)×cK) (k:Int):(cT T s k).2.n=s.2.n+2:=by simp[cT];lia
theorem zh {T:AAG}{most:D}(ok:pC T):∀(ks:List Int) (s:List (Str×Int)×cK) (x y z:Option U),s.1.length+ks.length<=1000->0<=s.2.n->s.2.n+2 * ks.length < 900000->((x=none/\y=none/\z=none)\/∃a b c,x=XU a/\y=XU b/\z=XU c)->
  ∃x' y' z',loop (bName 4) (eO bU) (ks.map D.int) (jo T most s x y z)=some (.nx (jo T most (ks.foldl (cT T) s) x' y' z'))
 | [],s,x,y,z,_,_,_,_=>⟨x,y,z,rfl⟩
 | k :: ks,s,x,y,z,h3,h4,h5,hx=>by
  have l3:s.1.length+(ks.length+1)<=1000:=h3
  have l5:s.2.n+2 * ((ks.length+1:Nat):Int) < 900000:=h5
  obtain⟨a,b,c,e⟩:=FO (k:=k) (most:=most) ok (by lia) h4 (by lia) hx
  obtain⟨x',y',z',ih⟩:=zh ok ks (cT T s k) (XU a) (XU b) (XU c) (by simp;lia) (by simp;lia) (by simp;lia) (.inr ⟨a,b,c,rfl,rfl,rfl⟩)
  refine⟨x',y',z',?_⟩
  show(bName 4 (.int k) (jo T most s x y z)).bind (fun S1=>(eO bU S1).bind fun o=>match o with
   | .nx S2=>loop (bName 4) (eO bU) (ks.map D.int) S2
   | .ct S2=>loop (bName 4) (eO bU) (ks.map D.int) S2
   | .bk S2=>some (.nx S2)
   | .rt u S2=>some (.rt u S2))=_
  rw[<-Option.bind_assoc,e]
  exact ih
def qk (t:cK) (T:AAG) (most:Int):List (Str×Int)×cK:=(upTo (bg t (most+1)).toNat).foldl (cT T) ([],b8 t (most+1))
noncomputable def A0 (T:AAG):Bool:=decide (0 < T.length) && (decide (T.length<=10) && T.all fun p=>decide (0<=p.2) && decide (p.2<=10))
def tH :A0 T=true↔pC T:=by
 unfold A0
 simp only[Yr,ZU,Z1]
 exact⟨fun⟨a,b,c⟩=>⟨a,b,c⟩,fun⟨a,b,c⟩=>⟨a,b,c⟩⟩
def zj:FM
 | [.b (.dct kvs),.t td,.t (.int most)]=>(qi kvs).bind fun t=>(tabOf td).bind fun T=>if A0 T=true/\0<=most/\most<=100/\0<=t.n/\t.n < 700000 then some (.t (bu (qk t T most).1),[.dct (aT (qk t T most).2)]) else none
 | _=>none
def Je:∀us r,zj us=some r->bM 7 (oq bU) us=some r:=by
 intro us r h
 unfold zj at h
 split at h
 ·rename_i kvs td most
  obtain⟨t,h1,h⟩:=ah h
  obtain⟨T,h0,h⟩:=ah h
  obtain⟨⟨hT,h2,h3,h4,h5⟩,rfl⟩:=bh h
  obtain rfl:=lV h1
  obtain rfl:=tG h0
  have ok:=tH.mp hT
  have e1:=eL (t:=t) (m:=most+1) (by lia) (by lia) h4 (by lia)
  have p:=bD (t:=t) (m:=most+1) (by lia)
  obtain⟨x,y,z,e2⟩:=zh (T:=T) (most:=.int most) ok (upTo (bg t (most+1)).toNat) ([],b8 t (most+1)) none none none (by simp[upTo];lia) (by simp;lia) (by simp[upTo];lia) (.inl ⟨rfl,rfl,rfl⟩)
  have e3:bg t (most+1) < 1000000:=by lia
  have e4:-1000000 < bg t (most+1):=by lia
  rw[<-zd] at e2
  simp only[jo] at e2
  have e5:bu []= .tup []:=rfl
  rw[e5] at e2
  simp[bM,oq,e1,e3,e4,e2,qk]
 ·cases h
def FP {α:Type}{l:List α}{x:α}(h0:0<=i) (h1:i < l.length):gR l i=some (l.getD i.toNat x):=by
 rw[zb h0 h1]
 have:i.toNat < l.length:=by lia
 simp[List.getD,this]
@[simp] theorem PZ (g:GD) (lo hi:Option GD) (S:SS):xh g lo hi S=(g S).bind fun p=>(jk lo p.2).bind fun l=>(jk hi l.2).bind fun h=>(IS p.1 l.1 h.1).map fun u=>(u,h.2):=rfl
@[simp] theorem Up (S:SS):jk none S=some (none,S):=rfl
@[simp] theorem Uq (g:GD) (S:SS):jk (some g) S=(g S).bind fun p=>match p.1 with | .int i=>some (some i,p.2) | _=>none:=rfl
@[simp] theorem Jf (ds:List D) (lo hi:Option Int):IS (.tup ds) lo hi=XU (.tup (cutD ds lo hi)):=rfl
@[simp] theorem Jg (ds:List D) (lo hi:Option Int):IS (.lst ds) lo hi=XW (cutD ds lo hi):=rfl
@[simp] theorem Rn (z:Str) (lo hi:Option Int):IS (.str z) lo hi=if z.length<=100000 then XU (.str (Txt.slice z lo hi)) else none:=rfl
theorem FQ:∀(ts:List D) (S:SS),S.length=ts.length->aL (ts.map U.t) S=some []
 | [],S,_=>by cases S <;> rfl
 | d :: ts,[],h=>by cases h
 | d :: ts,x :: S,h=>by
  show aL (U.t d :: ts.map U.t) (x :: S)=_
  rw[Ce]
  exact FQ ts S (by simpa using h)
theorem KW (S:SS):∀ts:List D,b7 S (ts.map U.t)=some (ts.map U.t)
 | []=>rfl
 | d :: ts=>by
  show(some (U.t d)).bind _=_
  rw[KW S ts]
  rfl
theorem P0:∀ts:List D,slotsOf (ts.map U.t)=[]
 | []=>rfl
 | d :: ts=>P0 ts
theorem P1:∀ts:List D,b6 (ts.map U.t)=0
 | []=>rfl
 | d :: ts=>P1 ts
theorem Mq (S:SS):∀ts:List D,wb (ts.map U.t) [] S=some S
 | []=>rfl
 | d :: ts=>Mq S ts
theorem rM {cap:List Nat}{q:GT}{g:GD}{S:SS}{ts:List D}(hc:gw S cap=some (ts.map U.t)) (p:D->Bool) (f:D->D):∀(ds acc:List D),
  (∀d∈ds,q (XU d :: ts.map fun x=>XU x)=some (p d,XU d :: ts.map fun x=>XU x))->(∀d∈ds,p d=true->g (XU d :: ts.map fun x=>XU x)=some (f d,XU d :: ts.map fun x=>XU x))->
  iP cap q g ds S acc=some (acc++(ds.filter p).map f,S)
 | [],acc,_,_=>by simp[iP]
 | d :: ds,acc,hq,hg=>by
  have em:(ts.map U.t).map some=ts.map fun x=>some (U.t x):=by simp
  have eo:aL (.t d :: ts.map U.t) (XU d :: ts.map fun x=>XU x)=some []:=by rw[Ce];exact FQ ts _ (by simp)
  have q0:=hq d (Yg)
  unfold iP
  rw[hc]
  simp only[X4]
  rw[if_pos ⟨by rw[P0];exact ZP,by rw[P1];exact Y4 _⟩,KW]
  simp only[X4]
  rw[em,q0]
  simp only[X4]
  by_cases hp:p d=true
  ·rw[if_pos hp,hg d Yg hp]
   simp only[X4]
   rw[eo]
   simp only[X4]
   rw[Mq]
   simp only[X4]
   rw[rM hc p f ds (acc++[f d]) (fun e he=>hq e (Yb _ he)) (fun e he=>hg e (Yb _ he)),Zb hp]
   simp
  ·rw[if_neg hp,eo]
   simp only[X4]
   rw[Mq]
   simp only[X4]
   rw[rM hc p f ds acc (fun e he=>hq e (Yb _ he)) (fun e he=>hg e (Yb _ he)),Zc hp]
def ki {cap:List Nat}{g:GD}{S:SS}{ts:List D}(hc:gw S cap=some (ts.map U.t)) (f:D->D) (ds acc:List D) (hg:∀d∈ds,g (XU d :: ts.map fun x=>XU x)=some (f d,XU d :: ts.map fun x=>XU x)):
  iP cap nB g ds S acc=some (acc++ds.map f,S):=by
 rw[rM hc (fun _=>true) f ds acc (fun _ _=>rfl) (fun d hd _=>hg d hd),List.filter_eq_self.mpr (fun _ _=>rfl)]
@[simp] theorem Ro (cap:List Nat) (gi:GI) (q:GT) (g:GD) (S:SS):sG cap gi q g S=(gi S).bind fun p=>if p.1.length<=100000 then(iP cap q g p.1 p.2 []).map fun r=>(.m (.lst r.1),r.2) else none:=rfl
def ql (g:GD) (S:SS):qc g S=(g S).bind fun p=>match p.1 with | .tup ds=>some (ds,p.2) | .lst ds=>some (ds,p.2) | .str z=>some (z.cps.toList.map fun c=>.str ⟨#[c]⟩,p.2) | _=>none:=rfl
theorem qm {α:Type}(f:α->Bool):∀ds:List α,jj (ds.map fun d=>.bl (f d))=some (ds.map f)
 | []=>rfl
 | d :: ds=>by simp[jj,qm f ds]
def gH (DC:FM) (DE:FM):GS:=
 (aJ (kH (nQ (qB (eF (aX DC (bC (eF (aj 1)) (bC (eC (.int 2)) (bC (eC (.int 2)) bT))))))) (cI (eT (eC (.bl false)))) dO)
 (cI (eP LP (aa (eF (sG [1] (qc (eF (aj 0))) nB (eQ (uJ (qB (eF (eP rK (aa (cH 0 (eC (.int 0))) (aa (cH 1 (eC (.int 0))) ak))))) (qB (eF (aX DE (bC (cH 1 (eC (.int 1))) (bC (eC (.int 0)) (bC (cH 0 (eC (.int 1))) bT)))))))))) ak))))
def iR (T:AAG):D->Bool
 | .tup [x,y]=>T.any fun p=>kL (.str p.1) x && fQ y 0 p.2
 | _=>false
def jq:FM
 | [.t td,.t d]=>(tabOf td).bind fun T=>if T.length<=1000 then some (.t (.bl (iR T d)),[]) else none
 | _=>none
noncomputable def dW (p:Str×Int):D:=.tup [.str p.1,.int p.2]
def Jh (T:AAG):bu T= .tup (T.map dW):=rfl
def Ji:∀us r,jq us=some r->bM 2 (gH lX lW) us=some r:=by
 intro us r h
 unfold jq at h
 split at h
 ·rename_i td d
  obtain⟨T,h1,h⟩:=ah h
  obtain⟨hl,rfl⟩:=bh h
  obtain rfl:=tG h1
  by_cases hd:∃x y,d= .tup [x,y]
  ·obtain⟨x,y,rfl⟩:=hd
   have hc:gw [XU (bu T),XU (.tup [x,y])] [1]=some ([D.tup [x,y]].map U.t):=rfl
   have e:=ki (cap:=[1]) (g:=eQ (uJ (qB (eF (eP rK (aa (cH 0 (eC (.int 0))) (aa (cH 1 (eC (.int 0))) ak))))) (qB (eF (aX lW (bC (cH 1 (eC (.int 1))) (bC (eC (.int 0)) (bC (cH 0 (eC (.int 1))) bT)))))))) hc (fun d=>match d with | .tup [.str z,.int i]=>.bl (kL (.str z) x && fQ y 0 i) | _=>.cz) (T.map dW) [] (fun d hd=>by
    obtain⟨p,_,rfl⟩:=Yz.mp hd
    have a0:∀(u v:D),gR [u,v] 0=some u:=fun _ _=>rfl
    have a1:∀(u v:D),gR [u,v] 1=some v:=fun _ _=>rfl
    cases he:kL (.str p.1) x <;> simp[dW,a0,a1,he,lW])
   have a2:(T.map dW).map (fun d=>match d with | .tup [.str z,.int i]=>D.bl (kL (.str z) x && fQ y 0 i) | _=>.cz)=T.map fun p=>.bl (kL (.str p.1) x && fQ y 0 p.2):=by
    rw[Zn];rfl
   rw[a2,Zh] at e
   have a3:T.length<=100000:=by omega
   have a5:=qm (fun p:Str×Int=>kL (.str p.1) x && fQ y 0 p.2) T
   have a4:List.any (T.map fun p=>kL (.str p.1) x && fQ y 0 p.2) id=T.any fun p=>kL (.str p.1) x && fQ y 0 p.2:=by
    rw[List.any_map];rfl
   rw[Jh] at e ⊢
   generalize hB:(T.map fun p=>D.bl (kL (.str p.1) x && fQ y 0 p.2))=bs at e a5
   generalize hC:(T.map fun p=>(kL (.str p.1) x && fQ y 0 p.2))=cs at a4 a5
   simp only[iR,<-a4]
   simp[bM,gH,lX,sA,ql,a3,e,a5]
  ·have e1:sA d 2 2=false:=by
    cases d with
    | tup ds=>
     unfold sA
     have:ds.length≠2:=fun z=>by
      match ds,z with
      | [x,y],_=>exact hd ⟨x,y,rfl⟩
     simp only[Bool.and_eq_false_iff,decide_eq_false_iff_not]
     omega
    | _=>rfl
   have e2:iR T d=false:=by
    unfold iR
    split
    ·exact absurd ⟨_,_,rfl⟩ hd
    ·rfl
   simp[bM,gH,lX,e1,e2]
 ·cases h
def DF {x:D}{z:Str}(h:kL (.str z) x=true):x= .str z:=by
 cases x <;> simp[kL] at h
 rw[h]
structure FT (z:Str):Prop where
 len:z.length<=8
 XI:∀c∈z.cps.toList,c < 16 ^ 8
def FU:∀z∈dI,FT z:=by
 intro z hz
 have:z∈(["a","ab","abc","b","any","name","x","zzzzzzzz"]:List Str):=hz
 simp only[Yi,aaH,or_false] at this
 rcases this with rfl | rfl | rfl | rfl | rfl | rfl | rfl | rfl <;> exact⟨by decide,by decide⟩
structure ou (p:Str×Int):Prop where
 nm:FT p.1
 lo:0<=p.2
 hi:p.2<=10
structure qW (k:Int) (s:AZ):Prop where
 nd:(s.tab.map (·.1)++s.names).Nodup
 sub:∀z∈s.names,z∈dI
 ok:∀p∈s.tab,ou p/\p.2<=5
 left:4 - k<=s.left
def getD_mem {α:Type}{l:List α}{i:Nat}{x:α}(h:i < l.length):l.getD i x∈l:=by simp[List.getD,h]
theorem tK {α:Type}:∀(l:List α) (i:Nat) (h:i < l.length),(l[i] :: l.eraseIdx i).Perm l
 | a :: l,0,_=>List.Perm.refl _
 | a :: l,i+1,h=>(List.Perm.swap _ _ _).trans (List.Perm.cons a (tK l i (by simpa using h)))
def zl :∀{as l:List α}{i:Nat}{x:α},(as++l).Nodup->i < l.length->((as++[l.getD i x])++l.eraseIdx i).Nodup:=fun {as l i x} nd hi=>by
 have e:l.getD i x=l[i]:=by simp[List.getD,hi]
 rw[e]
 have p:(as++[l[i]]++l.eraseIdx i).Perm (as++l):=by
  rw[Zu]
  refine List.Perm.append_left as ?_
  show(l[i] :: l.eraseIdx i).Perm l
  exact tK l i hi
 exact p.nodup_iff.mpr nd
def Jj {s:AZ}(h:qW k s) (hk:k<=4) (hn:0 < s.names.length):qW (k+1) (cA s k):=by
 have p1:=bD (t:=s.t) (m:=s.names.length) (by lia)
 have hi:(bg s.t s.names.length).toNat < s.names.length:=by lia
 have p2:=bD (t:=b8 s.t s.names.length) (m:=6) (by decide)
 have hl:=h.left
 have hm:0<=qj 5 (s.left - 4+k) (bg (b8 s.t s.names.length) 6)/\qj 5 (s.left - 4+k) (bg (b8 s.t s.names.length) 6)<=5/\qj 5 (s.left - 4+k) (bg (b8 s.t s.names.length) 6)<=s.left - 4+k:=by
  unfold qj
  split <;> split <;> lia
 refine⟨?_,fun z hz=>?_,fun p hp=>?_,?_⟩
 ·show((s.tab++[((s.names.getD (bg s.t s.names.length).toNat "",qj 5 (s.left - 4+k) (bg (b8 s.t s.names.length) 6)):Str×Int)]).map (fun(p:Str×Int)=>p.1)++s.names.eraseIdx (bg s.t s.names.length).toNat).Nodup
  rw[Zi]
  exact zl h.nd hi
 ·exact h.sub z (List.mem_of_mem_eraseIdx hz)
 ·rcases YN.mp hp with hp | hp
  ·exact h.ok p hp
  ·have hp:=Yq.mp hp
   subst hp
   exact⟨⟨FU _ (h.sub _ (getD_mem hi)),hm.1,by show qj _ _ _<=10;lia⟩,hm.2.1⟩
 ·show 4 - (k+1)<=s.left - qj 5 (s.left - 4+k) (bg (b8 s.t s.names.length) 6) - 1
  lia
theorem rN:∀(n:Nat) (s:AZ),n<=4->qW 0 s->n<=s.names.length->qW n ((upTo n).foldl cA s)/\((upTo n).foldl cA s).tab.length=s.tab.length+n/\((upTo n).foldl cA s).names.length+n=s.names.length/\((upTo n).foldl cA s).t.n=s.t.n+2 * n
 | 0,s,_,h,_=>⟨h,rfl,rfl,by simp[upTo]⟩
 | n+1,s,hn,h,hl=>by
  obtain⟨i1,i2,i3,i4⟩:=rN n s (by lia) h (by lia)
  have e:(upTo (n+1)).foldl cA s=cA ((upTo n).foldl cA s) n:=by
   unfold upTo
   rw[List.range_succ,Zi,List.foldl_append]
   rfl
  rw[e]
  have st:=Jj i1 (by lia) (by lia)
  refine⟨?_,?_,?_,?_⟩
  ·have e2:((n+1:Nat):Int)=(n:Int)+1:=by lia
   rw[e2];exact st
  ·rw[FJ];lia
  ·have:=tw (s:=(upTo n).foldl cA s) (k:=n) (by lia);lia
  ·rw[Mn];lia
def zm (t:cK):((d7 t).tab.map (·.1)).Nodup/\pC (d7 t).tab/\(∀p∈(d7 t).tab,ou p)/\(d7 t).tab.length<=4/\t.n+1<=(d7 t).t.n/\(d7 t).t.n<=t.n+9:=by
 have b:=xu t
 have h0:qW 0 ⟨dI,[],12,b8 t 5⟩:=⟨by show([]++dI).Nodup;decide,fun z hz=>hz,(fun p hp=>by cases hp),by show(4:Int) - 0<=12;decide⟩
 obtain⟨i1,i2,i3,i4⟩:=rN (lZ t) ⟨dI,[],12,b8 t 5⟩ b.2 h0 (by show lZ t<=8;lia)
 have e:(upTo (lZ t)).foldl cA ⟨dI,[],12,b8 t 5⟩=d7 t:=rfl
 rw[e] at i1 i2 i3 i4
 have i2:(d7 t).tab.length=0+lZ t:=i2
 have i4:(d7 t).t.n=(b8 t 5).n+2 * (lZ t:Int):=i4
 rw[kN] at i4
 refine⟨(List.nodup_append.mp i1.nd).1,⟨by lia,by lia,fun p hp=>⟨(i1.ok p hp).1.lo,(i1.ok p hp).1.hi⟩⟩,fun p hp=>(i1.ok p hp).1,by lia,by lia,by lia⟩
theorem zo {T:AAG}(ok:pC T) (hp:∀p∈T,ou p):∀(ks:List Int) (s:List (Str×Int)×cK),(∀p∈s.1,ou p)->(∀p∈(ks.foldl (cT T) s).1,ou p)/\(ks.foldl (cT T) s).1.length=s.1.length+ks.length/\(ks.foldl (cT T) s).2.n=s.2.n+2 * ks.length
 | [],s,h=>⟨h,rfl,by simp⟩
 | k :: ks,s,h=>by
  have p0:=ok.pos
  have p1:=bD (t:=s.2) (m:=T.length) (by lia)
  have hi:(bg s.2 T.length).toNat < T.length:=by lia
  have hq:=hp _ (getD_mem (x:=(("":Str),(0:Int))) hi)
  obtain⟨i1,i2,i3⟩:=zo ok hp ks (cT T s k) (fun p Ur=>by
   rcases YN.mp (show p∈s.1++[_] from Ur) with h1 | h1
   ·exact h p h1
   ·have h1:=Yq.mp h1
    subst h1
    have a:=hq.lo
    have b:=hq.hi
    have r:=bD (t:=b8 s.2 T.length) (m:=(T.getD (bg s.2 T.length).toNat ("",0)).2+1) (by lia)
    exact⟨hq.nm,r.1,by show bg _ _<=10;lia⟩)
  refine⟨i1,?_,?_⟩
  ·show((ks.foldl (cT T) (cT T s k)).1).length=s.1.length+(ks.length+1)
   rw[i2,zf];lia
  ·show((ks.foldl (cT T) (cT T s k)).2).n=s.2.n+2 * ((ks.length+1:Nat):Int)
   rw[i3,DB];lia
def DG (ok:pC T) (hp:∀p∈T,ou p) (t:cK){most:Int}(h0:0<=most):(∀p∈(qk t T most).1,ou p)/\((qk t T most).1.length:Int)<=most/\t.n+1<=(qk t T most).2.n/\(qk t T most).2.n<=t.n+1+2 * most:=by
 obtain⟨i1,i2,i3⟩:=zo ok hp (upTo (bg t (most+1)).toNat) ([],b8 t (most+1)) (fun p hp=>by cases hp)
 have r:=bD (t:=t) (m:=most+1) (by lia)
 have e:(upTo (bg t (most+1)).toNat).length=(bg t (most+1)).toNat:=by simp[upTo]
 rw[e] at i2 i3
 have i2:(qk t T most).1.length=0+(bg t (most+1)).toNat:=i2
 have i3:(qk t T most).2.n=(b8 t (most+1)).n+2 * ((bg t (most+1)).toNat:Int):=i3
 rw[kN] at i3
 exact⟨i1,by lia,by lia,by lia⟩
noncomputable def zp (n:Nat):FM
 | [.s ns]=>if ns.length<=n then some (.t (.bl true),[]) else none
 | _=>none
def Mr {K:AAA}{H:Hp}{a:Addr}{ns:List Int}{n:Nat}{E:XK}(hl:ns.length<=n) (hO:Ik H) (hS:k7 K H a (ns.map V.int)):spT K 1 (zp n) [.ref a] H (fun v _=>v= .bl true) E:=by
 have sc:Iz K H a ns:=by
  rcases hS with(h | h) | h
  ·rcases hO a with z | ⟨o,xs,z⟩
   ·rw[h] at z;cases z
   ·rw[h] at z;cases z
  ·exact .inl h
  ·exact .inr h
 exact⟨rfl,fun _=>none,[.s ns],.t (.bl true),[],(fun b o z=>by cases z),.cons ⟨a,rfl,sc⟩ .nil,ZP,by simp[zp,hl],fun v F' H' _ r=>jO r⟩
end Sw
end
section
namespace L2
open PySem PySem.Spec PyProof.Rows
variable {c fI C:Addr}{x n:Str}{st a:Stmt}{od an dd:Option Addr}{osl:Array (Option Value)}{doc cdv:Value}{N ps sn:List Str}{k:Nat}{g:GS}{mN:AAC}{us bm bmB bs sub:AAI}{Q E:AAB}{oe:Obj}{vs:AAH}{X:Cx}{pins:AAD}{σ:St}{H:Hp}{fd:FuncData}{K:AAA}{pos pos':Pos}{r b1 b2 body stmts:List Stmt}{newId initId:String}{cl:List Addr}{iter:Expr}{es:List Expr}{hdct:Bool}{col:Option Bool}{k0 k1 k2 k3 k5:Option Value}
section
variable {X:Cx}{e elt iter:Expr}{ifs:List Expr}{b:Expr}{es:List Expr}{g:GE}{gd gb:GD}{gi:GI}{q:GT}{gu:GU}{x y y0:Str}{p pos pos' px py XJ pt spos:Pos}{k0 k j:Nat}{scope:Scope}{cl:List (Str×Addr)}{bX:List Str}{cap:List Nat}
def zs (hN:X.N.Nodup) (i:Nat) (he:JE X e g) (hi:X.N[i]? =some x:=by rfl) (hx:Loc X.env.scope x:=by first | exact Or.inl rfl | exact Or.inr rfl) (hs:swapsWith e (some (.Name x pos')) pos.line X.env=pure false:=by rfl)
  (hf:X.fn x=true\/X.env.scope.names.lookup x=some .local:=by first | exact .inl rfl | exact .inr rfl):JS X (.Assign [.Name x pos'] e pos) (bL i g):=LI hN hi hx he hs hf
def zg (hN:X.N.Nodup) (i:Nat) (hi:X.N[i]? =some x:=by rfl) (hx:Loc X.env.scope x:=by first | exact Or.inl rfl | exact Or.inr rfl) (hf:X.fn x=true\/X.env.scope.names.lookup x=some .local:=by first | exact .inl rfl | exact .inr rfl):JG X (.Name x pos) (bName i):=ID hN hi hx hf
def za {op:Operator}{f:Int->Int->Int}(ho:QD X op (R5 f)) (hN:X.N.Nodup) (i:Nat) (he:JD X e gd) (hi:X.N[i]? =some x:=by rfl) (hx:Loc X.env.scope x:=by first | exact Or.inl rfl | exact Or.inr rfl)
  (hf:X.fn x=true\/X.env.scope.names.lookup x=some .local:=by first | exact .inl rfl | exact .inr rfl):JS X (.AugAssign (.Name x pos') op e pos) (AQ f i gd):=LV ho hN hi hx he hf
def ys (hr:dN k X.A) (i:Nat) (hb:JD X b gb) (hs:rH b:=by first | (intro _ _;rfl)) (hN:X.N[i]? =some x:=by rfl) (hv:wu X.env.scope x:=by first | exact Or.inl rfl | exact Or.inr (Or.inl rfl) | exact Or.inr (Or.inr rfl))
  (hd:(x == ("__debug__":Str))=false:=by decide) (hcd:(x == ("__classdict__":Str))=false:=by decide):JD X (.Subscript (.Name x px) b pos) (cH i gb):=LQ (EU hr) hb hs hN hv hd hcd
def jv (i:Nat) (hN:X.N[i]? =some x:=by rfl) (hv:wu X.env.scope x:=by first | exact Or.inl rfl | exact Or.inr (Or.inl rfl) | exact Or.inr (Or.inr rfl)) (hd:(x == ("__debug__":Str))=false:=by decide)
  (hcd:(x == ("__classdict__":Str))=false:=by decide):JD X (.Name x pos) (eF (aj i)):=(bK i hN hv hd hcd).d
def cp (h1:∀y∈scope.names,y.2≠.free:=by decide) (h2:∀y∈scope.names,y.2≠.cell:=by decide) (h3:scope.kind= .function:=by rfl) (h4:∀y∈scope.names,y.2= .local->scope.names.lookup y.1=some .local:=by decide) (h5:scope.names.lookup x=some .local:=by rfl):
  fh X x [] [] scope []:=Ay h1 h2 h3 h4 h5
def cc (i:Nat) (clos:closureFor scope X.env=pure [(y,c)]:=by rfl) (je:∀z∈scope.names,z.2≠.cell:=by decide) (kind:scope.kind= .function:=by rfl) (names:∀z∈scope.names,z.2= .local->scope.names.lookup z.1=some .local:=by decide)
  (loc:scope.names.lookup x=some .local:=by rfl) (hc:X.env.cells.lookup y=some c:=by rfl) (only:∀z∈scope.names,z.2= .free->z.1=y:=by decide) (ne:x≠y:=by decide) (hN:X.N[i]? =some y:=by rfl) (vis:X.env.scope.names.lookup y=some .cell:=by rfl) (rel:(relabel scope X.env).names.lookup y=some .cell:=by rfl):
  fh X x [y] [i] scope [(y,c)]:=Fo clos je kind names loc hc only ne hN vis rel
def cs (bX:List Str) (cap:List Nat) (clos:closureFor scope X.env=pure cl:=by rfl) (je:∀z∈scope.names,z.2≠.cell:=by decide) (kind:scope.kind= .function:=by rfl) (names:∀z∈scope.names,z.2= .local->scope.names.lookup z.1=some .local:=by decide)
  (loc:scope.names.lookup x=some .local:=by rfl) (hc:cl.map (fun p=>X.env.cells.lookup p.1)=cl.map (fun p=>some p.2):=by rfl) (only:∀z∈scope.names,z.2= .free->z.1∈bX:=by decide) (hcl:cl.map (·.1)=bX.reverse\/cl.map (·.1)=bX:=by first | exact Or.inl rfl | exact Or.inr rfl) (nd:(x :: bX).Nodup:=by decide)
  (slot:cap.map (fun i=>X.N[i]?)=bX.map some:=by rfl) (vis:bX.map (fun n=>X.env.scope.names.lookup n)=bX.map fun _=>some .cell:=by rfl) (rel:bX.map (fun n=>(relabel scope X.env).names.lookup n)=bX.map fun _=>some .cell:=by rfl):
  fh X x bX cap scope cl:=AR clos je kind names loc hc only hcl nd slot vis rel
end
section
variable {P:Program}{w:World}{K:AAA}{mg:AAC}{base:Heap}{h:Heap}
structure Df (K:AAA) (mg:AAC) (x:Str) (st:Stmt):Prop where
 ex:∃f fd,C3 K x x st f fd/\mg x=some (.ref f)
def P4 {f:Addr}{oc:Value}{kV pm ct:Value}(X:K.In h) (G:h.Ns mainGlobals mg) (a:PySem.W.nsIn K mainGlobals x=some (some (.ref f)))
  (l:K.lookup f=some ⟨oc,od,.func (PySem.W.fnOf x x (jD st) (dD st) (aF st) .none kV doc pm an cdv ct),osl⟩) (c:PySem.W.codeIn K cdv x=true) (k:PySem.W.keepIn K (.ref f)=true):Df K mg x st:=
 ⟨_,_,ET l c k,Yp X G a⟩
structure gP (P:Program) (w:World) (K:AAA) (mg:AAC) (base:Heap) (n:Nat) (x:Str) (ps:List Str) (fm:FM):Prop where
 ex:∃a d,gU P w K mg base uI n a d ps (spT K ps.length fm)/\Binds K d ps []/\PySem.W.keepIn K (.ref a)=true/\mg x=some (.ref a)
def Bd (x:Str) (st:Stmt) (ps:List Str):Prop:=∀(kV doc pm:Value) (an:Option Addr) (cdv ct:Value) (us:AAI),us.length=ps.length->bindArgs (PySem.W.fnOf x x (jD st) (dD st) (aF st) .none kV doc pm an cdv ct) ⟨us,[]⟩=pure (ps.zip us)
def sI {sc:Scope}(a:sc.kind= .function:=by rfl) (b:sc.isCoroutine=false:=by rfl) (c:sc.isGenerator=false:=by rfl) (d:N.Nodup:=by decide +kernel) (e:N.take ps.length=ps:=by rfl)
  (f:∀x∈ps,sc.names.lookup x=some .local\/sc.names.lookup x=some .cell:=by decide +kernel) (g:∀y∈sc.names,y.2≠.free:=by decide +kernel):bF N ps sc:=⟨a,b,c,d,e,f,g⟩
def uD {fm:FM}(D:Df K mg x st) (Sc:bF N ps (aF st))
  (hb:∀(f:Addr) (cdv:Value) (A:Around) (outer:List Env) (s:Shared) (H:Hp) (E:XK),dN k (A.deeper (envOfC x (aF st) s.heap.objs.size f cdv))->JB (pW uI P w K mg base N x (aF st) f cdv A outer s H E).HA (dD st) g)
  (hf:∀us r,fm us=some r->bM N.length g us=some r) (bd:Bd x st ps:=by intro _ _ _ _ _ _ us hl;rcases us with _ | ⟨_,_ | ⟨_,_ | ⟨_,_ | ⟨_,_ | ⟨_,_ | ⟨_,_ | ⟨_,_⟩⟩⟩⟩⟩⟩⟩ <;> first | rfl | cases hl):gP P w K mg base (k+1) x ps fm:=by
 obtain⟨f,fd,F,m⟩:=D.ex
 exact⟨f,fd,Vs F Sc (hb f) hf,F.binds bd,F.kp,m⟩
end
section
variable {X:Cx}{e:Expr}{es:List Expr}{gu:GU}{x:Str}{p pos:Pos}{k j:Nat}{ps:List Str}{fm:FM}
def jc (c:gP X.prog X.w X.K X.mg X.base j x ps fm) (hr:dN k X.A) (ha:JU X (e :: es) gu) (hj:j<=k:=by omega) (hg:Gl X x:=by rfl) (hn:(e :: es).length=ps.length:=by rfl)
  (hdb:(x == ("__debug__":Str))=false:=by decide) (he:starEach (e :: es) X.env=(false,eval e X.env) :: starEach es X.env:=by rfl) (hpl:(backTo pos (starEach es X.env)).any (·.1)=false:=by rfl):
  JE X (.Call (.Name x p) (e :: es) [] pos) (aX fm gu):=by
 obtain⟨a,d,G,b,kp,m⟩:=c.ex
 exact IF (G.mono hj) hr hg m kp b ha hn hdb he hpl
def W7 (c:gP X.prog X.w X.K X.mg X.base j x [] fm) (hr:dN k X.A) (hj:j<=k:=by omega) (hg:Gl X x:=by rfl) (hdb:(x == ("__debug__":Str))=false:=by decide):JE X (.Call (.Name x p) [] [] pos) (aX fm bT):=by
 obtain⟨a,d,G,b,kp,m⟩:=c.ex
 exact Fp (G.mono hj) hr hg m kp b hdb
end
section
variable {P:Program}{w:World}{K:AAA}{mg:AAC}{base:Heap}{h:Heap}{C:Addr}{m q x:Str}{st:Stmt}{ps:List Str}{fm:FM}
def W8 (x q:Str) (st:Stmt) (ps:List Str):Prop:=∀(kV doc pm:Value) (an:Option Addr) (cdv ct:Value) (us:AAI),us.length=ps.length->bindArgs (PySem.W.fnOf x q (jD st) (dD st) (aF st) .none kV doc pm an cdv ct) ⟨us,[]⟩=pure (ps.zip us)
end
section
variable {X:Cx}{C:Addr}{e:Expr}{es:List Expr}{gu:GU}{x m:Str}{px p pos apos:Pos}{k j:Nat}{ps:List Str}{fm:FM}
end
noncomputable def xw (C:Addr) (dx:Option Addr) (t:Addr):Obj:={cls:=.ref C,dict:=dx,data:=.fields #[.ref t,.none,.none,.none,.bool false,.none]}
section
variable {prog:Program}{w:World}{A:Around}{E:AAB}{h:Heap}{g:Array GenState}{d:Drawn}{t:Nat}{os:OsState}
variable {nm q:Str}{C N:Addr}{bs bm bmB:AAI}{hdct:Bool}{sn:List Str}{sub:AAI}{ab:Bool}{col:Option Bool}{dd:Option Addr}{k0 k1 k2 k3 k5:Option Value}{B newId initId:String}
def Jk (F:ExcBaseFacts B newId initId bmB) (T:OwnTail h bmB bm){oI:Obj}{Q:Fin->Shared->Prop}
  (hC:h.get? C=some (excClassObj nm q C N bs bm hdct sn sub ab col dd k0 k1 k2 k3 k5 newId)) (hn:h.Ns N mN) (hi:mN "__init__" =some (.ref fI)) (hfI:h.get? fI=some oI) (hfc:oI.cls= .type "function")
  (hq:∀h' e,Heap.MadeExcOf h h' e (.ref C) us->wpAny (model prog w) A (call (.ref fI) (.ref e :: us)) (fun r s'=>r= .none/\Q (.done (.ret (.ref e))) s') E ⟨h',g,d,t,os⟩) (Us:us.length<=sizeLine):
  wpAny (model prog w) A (Builtin.«type.__call__» ⟨.ref C :: us,[]⟩) Q E ⟨h,g,d,t,os⟩:=by
 repeat (first | with_reducible refine Y9 hC ?_ | with_reducible refine wpAny_madeBy_exc hC ?_ | wp_step)
 refine codeAny_call_builtin_code (Code.quiet_builtin _ F.quiet) (wpAny_check_new_subT F T hC ?_)
 refine codeAny_exc_new_subT F T hC ?_ Us
 show wpAny _ _ _ _ _ _
 have kp:∀b o,h.get? b=some o->((h.push {cls:=.type "tuple",data:=.seq us.toArray}).push (xw C none h.objs.size)).get? b=some o:=fun b o e=>X3 _ (X3 _ e)
 have hget:((h.push {cls:=.type "tuple",data:=.seq us.toArray}).push (xw C none h.objs.size)).get? (h.objs.size+1)=some (xw C none h.objs.size):=by unfold xw;heap_get
 have hcC:(Value.ref C :: bm).contains (.ref C)=true:=by simp
 have Ut:=kp _ _ hC
 have hn1:=hn.keeps kp
 have hf1:=kp _ _ hfI
 have T1:=T.keeps kp
 have mk:Heap.MadeExcOf h ((h.push {cls:=.type "tuple",data:=.seq us.toArray}).push (xw C none h.objs.size)) (h.objs.size+1) (.ref C) us:=
  ⟨kp,Z8 (aao _),h.objs.size,hget,Z8 (X6 _),X3 _ (Heap.get?_push_at rfl rfl)⟩
 unfold xw at hget Ut hn1 hf1 T1 mk
 clear kp
 unfold isInstance
 repeat (first | with_reducible refine Y9 hget ?_ | (with_reducible refine ZF Ut ?_;rw[hcC]) | wp_step)
 show wpAny _ _ (typeLookup (.ref C) _) _ _ _
 refine wpAny_typeLookup_tail Ut hn1 T1 F.mroIs F.init.lookup ?_
 rw[hi]
 refine YI (XY ?_)
 unfold bindSpecial
 refine XY (aaE (T:="function") ⟨_,hf1,hfc⟩ ?_)
 rw[if_pos (by decide)]
 refine XZ (XY (Yd (hq _ (h.objs.size+1) mk) (fun r s' hr=>?_) fun _ _ x=>x))
 obtain⟨rfl,hQ⟩:=hr
 wp_walk
 exact hQ
def Jl (F:ExcBaseFacts B newId initId bmB) (T:OwnTail h bmB bm){oI:Obj}
  (hC:h.get? C=some (excClassObj nm q C N bs bm hdct sn sub ab col dd k0 k1 k2 k3 k5 newId)) (hn:h.Ns N mN) (hi:mN "__init__" =some (.ref fI)) (hfI:h.get? fI=some oI) (hfc:oI.cls= .type "function")
  (hq:∀h' e,Heap.MadeExcOf h h' e (.ref C) us->wpAny (model prog w) (A.under (.builtin "type.__call__" ⟨.ref C :: us,[]⟩)) (call (.ref fI) (.ref e :: us)) (fun r s'=>r= .none/\Q (.ref e) s') E ⟨h',g,d,t,os⟩) (Us:us.length<=sizeLine):
  wpAny (model prog w) A (call (.ref C) us) Q E ⟨h,g,d,t,os⟩:=by
 have f1:=tc_lookup
 have f2:=tc_bind (.ref C)
 have hT:(⟨h,g,d,t,os⟩:Shared).TypeIs (.ref C) "type":=⟨_,hC,rfl⟩
 refine ZO (codeAny_of_tree ?_)
 show wpAny _ _ (callAny (.ref C) _) _ _ _
 repeat (any_goals (first | assumption | with_reducible refine Y9 hC ?_ | wp_step))
 refine⟨rfl,?_⟩
 exact codeAny_call_builtin_at (Code.quiet_builtin _ (by decide +kernel)) entry_typeCall (wpAny_check_type_call_sub hC (Jk F T hC hn hi hfI hfc (fun h' e hm=>hq h' e hm) Us))
end
section
variable {M:Model}{A:Around}{E:AAB}{env:Env}
variable {nm q:Str}{C N:Addr}{bs bm:AAI}{hdct:Bool}{sn:List Str}{sub:AAI}{ab:Bool}{col:Option Bool}{dd:Option Addr}{k0 k1 k2 k3 k5:Option Value}{newId:String}
def FW {s:Shared}{x:Sem Value}{Q:Flow->Shared->Prop}(hbase:bm.contains (.type "BaseException")=true) (hh:A.handled=none)
  (h:wpAny M A x (fun v s1=>∃e t dx,v= .ref e/\s1.heap.get? C=some (excClassObj nm q C N bs bm hdct sn sub ab col dd k0 k1 k2 k3 k5 newId)/\s1.heap.get? e=some (xw C dx t)/\E (.ref e) s1) E s):
  wpAny M A (raiseStmt env (some x) none) Q E s:=by
 have Uu:(Value.ref C :: bm).contains (.type "BaseException")=true:=by rw[List.contains_cons,hbase,Bool.or_true]
 unfold raiseStmt
 refine XY (Yd h (fun v s1 h1=>?_) fun _ _ x=>x)
 obtain⟨e,t,dx,rfl,hC,he,hE⟩:=h1
 obtain⟨hp,g,d,tk,os⟩:=s1
 unfold xw at he
 repeat (first | with_reducible refine Y9 he ?_ | with_reducible refine Y9 hC ?_ | (with_reducible refine ZF hC ?_;rw[Uu]) | wp_step)
 exact wpAny_raiseNew_none hh hE
end
inductive Fl (h:Heap) (e C:Addr) (dx:Option Addr) (T:Addr) (fl:Value):Prop
 | mk (oe:Obj) (vs:AAH) (oT:Obj) (ts:AAH) (he:h.get? e=some oe) (hc:oe.cls= .ref C) (hx:oe.dict=dx) (hd:oe.data= .fields vs) (h1:vs[1]? =some (.ref T)) (ne:T≠e)
   (hT:h.get? T=some oT) (zq:oT.data= .fields ts) (h3:ts[3]? =some fl)
structure Ch (fs:List Addr) (e T:Addr) (h h':Heap):Prop where
 keep:∀b o,b∉fs->b≠e->b≠T->h.get? b=some o->h'.get? b=some o
 slot:∀b o,b∈fs->h.get? b=some o->∃sl,h'.get? b=some {o with slots:=sl}
 size:h.objs.size<=h'.objs.size
section
variable {M:Model}{A:Around}{E:AAB}{s:Shared}{base:Heap}{env:Env}{outer:List Env}{L e C T:Addr}{dx:Option Addr}{fl:Value}{Q:Unit->Shared->Prop}
def Cg {l:List Env}{h:Heap}(hl:h.FunFrames base l) (he:h.get? e=some oe) (hd:oe.data= .fields vs):e∉l.filterMap (·.frame):=fun hm=>by
 obtain⟨_,o,ho,hnf⟩:=hl.mem hm
 rw[he] at ho
 cases ho
 exact hnf vs hd
def DH (o:Obj) (f:Array Value->Array Value):(o.mapFields f).dict=o.dict:=by
 obtain⟨c,d,dt,sl⟩:=o
 cases dt <;> rfl
def zu {head:Value}{hadNext:Bool}(hfr:A.frames=some (env :: outer)) (hl:s.heap.FunFrames base (env :: outer)) (hf:env.frame=some L)
  (he:s.heap.get? e=some oe) (hc:oe.cls= .ref C) (hx:oe.dict=dx) (hd:oe.data= .fields vs) (hsz:1 < vs.size)
  (h:∀h' T,s.heap.objs.size<=T->Ch ((env :: outer).filterMap (·.frame)) e e s.heap h'->Fl h' e C dx T (rawInt L)->Q () {s with heap:=h'}):
  wpAny M A (do let a <-frameOf env;let pl <-entryPlaceOf L hadNext;let b <-EntryCells.newEntry head a .none (rawInt L) .none pl;setField (.ref e) 1 b) Q E s:=by
 have P5:=Cg hl he hd
 refine XY (wpAny_frameOf_fun hfr hl hf fun h1 hs1=>?_)
 refine XY (wpAny_entryPlaceOf fun pl hpl=>?_)
 unfold EntryCells.newEntry newFields
 refine XY (YY ?_ (hpl.sizeOk5 _ _ _ _ _))
 have VF:h1.get? e=some oe:=(hs1.2.1 e P5).trans he
 generalize hob:({cls:=.type "traceback",dict:=none,data:=.fields ([head,.ref L,.none,rawInt L,.none]++(if pl.isEmpty then List.replicate 6 Value.none else pl)).toArray}:Obj)=ob
 have QS:=X3 (h:=h1) ob VF
 refine Zx QS hd hsz (h _ h1.objs.size ?_ ⟨fun b o hb By _ q=>?_,fun b o hb q=>?_,?_⟩ ?_)
 ·rw[hs1.1];exact X6 _
 ·rw[YB _ _ (Y8 By)]
  exact X3 _ ((hs1.2.1 b hb).trans q)
 ·obtain⟨sl,hs⟩:=hs1.2.2 b o q
  refine⟨sl,?_⟩
  rw[YB _ _ (fun z:e=b=>P5 (by rw[z];exact hb))]
  exact X3 _ hs
 ·show _<=((h1.push ob).update e _).objs.size
  rw[Ze,Heap.size_push,hs1.1]
  exact aao _
 ·have VG:h1.objs.size≠e:=aaa (X5 VF)
  have VH:=YR hd (·.setIfInBounds 1 (Value.ref h1.objs.size))
  refine⟨_,_,_,_,YQ _ QS (Zg VH),(Obj.cls_mapFields _ _).trans hc,(DH _ _).trans hx,VH,by simp[hsz],VG,(YB _ _ (Y8 VG)).trans (Yk h1 (by subst hob;rfl)),by subst hob;rfl,?_⟩
  first | (simp;done) | (rcases hpl with rfl | ⟨_,_,_,_,_,_,_,rfl⟩ <;> simp)
def tL {t:Addr}(hfr:A.frames=some (env :: outer)) (hl:s.heap.FunFrames base (env :: outer)) (hf:env.frame=some L) (he:s.heap.get? e=some (xw C dx t))
  (h:∀h' T,s.heap.objs.size<=T->Ch ((env :: outer).filterMap (·.frame)) e e s.heap h'->Fl h' e C dx T (rawInt L)->Q () {s with heap:=h'}):wpAny M A (noteFrame (.ref e) env) Q E s:=by
 unfold noteFrame
 simp only[hf]
 refine XY (YG he (vs:=#[.ref t,.none,.none,.none,.bool false,.none]) rfl (x:=.none) rfl ?_)
 rw[if_neg (by decide)]
 exact zu hfr hl hf he rfl rfl rfl (by simp) h
def Jm {o:Obj}{g:Array Value->Array Value}(hd:o.data= .fields vs) (hg:g vs=vs):o.mapFields g=o:=by
 obtain⟨c,d,dt,sl⟩:=o
 cases hd
 show Obj.mk c d (.fields (g vs)) sl=_
 rw[hg]
def tM (hfr:A.frames=some (env :: outer)) (hl:s.heap.FunFrames base (env :: outer)) (hf:env.frame=some L) (hF:Fl s.heap e C dx T .none)
  (h:∀h' T',s.heap.objs.size<=T'->Ch ((env :: outer).filterMap (·.frame)) e e s.heap h'->Fl h' e C dx T' (rawInt L)->Q () {s with heap:=h'}):wpAny M A (noteFrame (.ref e) env) Q E s:=by
 obtain⟨oe,vs,oT,ts,he,hc,hx,hd,h1,ne,hT,zq,h3⟩:=hF
 unfold noteFrame
 simp only[hf]
 refine XY (YG he hd h1 ?_)
 rw[if_pos (show(Value.ref T != Value.none)=true from by simp)]
 refine XY (YG hT zq h3 ?_)
 rw[if_neg (show ¬((Value.none == rawInt L)=true) from by simp[rawInt])]
 refine XY (Zx hT zq (YJ.mp h3).1 ?_)
 have W9:ts.setIfInBounds 3 Value.none=ts:=by
  apply Array.ext_getElem?
  intro i
  rw[Array.getElem?_setIfInBounds]
  split
  ·rename_i z
   subst z
   rw[h3]
   simp[(YJ.mp h3).1]
  ·rfl
 have all:∀b o,s.heap.get? b=some o->(s.heap.update T (Obj.mapFields (·.setIfInBounds 3 Value.none))).get? b=some o:=fun b o q=>by
  by_cases z:b=T
  ·subst z
   rw[hT] at q
   cases q
   rw[YQ _ hT (Zg (YR zq _)),Jm zq W9]
  ·rw[YB _ _ (Y8 z)];exact q
 refine zu (base:=base) hfr (hl.of_keeps fun b o hb _=>⟨o,all b o hb,rfl⟩) hf (all e oe he) hc hx hd (YJ.mp h1).1 fun h' T' Uv ch fF=>h h' T' ?_ ⟨fun b o hb By _ q=>ch.keep b o hb By By (all b o q),fun b o hb q=>ch.slot b o hb (all b o q),?_⟩ fF
 ·rw[Ze] at Uv
  exact Uv
 ·have:=ch.size
  rw[Ze] at this
  exact this
def tN (hf:env.frame=some L) (hF:Fl s.heap e C dx T (rawInt L)) (h:Q () s):wpAny M A (noteFrame (.ref e) env) Q E s:=by
 obtain⟨oe,vs,oT,ts,he,hc,hx,hd,h1,ne,hT,zq,h3⟩:=hF
 unfold noteFrame
 simp only[hf]
 refine XY (YG he hd h1 ?_)
 rw[if_pos (show(Value.ref T != Value.none)=true from by simp)]
 refine XY (YG hT zq h3 ?_)
 rw[if_pos (show(rawInt L == rawInt L)=true from by simp)]
 exact XZ h
def kP (hF:Fl s.heap e C dx T fl) (h:∀h',h'.objs.size=s.heap.objs.size->(∀b o,b≠T->s.heap.get? b=some o->h'.get? b=some o)->Fl h' e C dx T .none->Q () {s with heap:=h'}):wpAny M A (setFlight (.ref e) none) Q E s:=by
 obtain⟨oe,vs,oT,ts,he,hc,hx,hd,h1,ne,hT,zq,h3⟩:=hF
 have hz:3 < ts.size:=(YJ.mp h3).1
 unfold setFlight
 refine XY (YG he hd h1 ?_)
 rw[if_pos (show(Value.ref T != Value.none)=true from by simp)]
 have other:∀b,b≠T->(s.heap.update T (Obj.mapFields (·.setIfInBounds 3 ((none:Option Addr).elim Value.none fun f=>rawInt f)))).get? b=s.heap.get? b:=fun b hb=>YB _ _ (Y8 hb)
 refine Zx hT zq hz (h _ (Ze _ _ _) (fun b o hb q=>(other b hb).trans q) ⟨oe,vs,_,_,(other e (Y8 ne)).trans he,hc,hx,hd,h1,ne,YQ _ hT (Zg (YR zq _)),YR zq _,by simp[hz]⟩)
end
structure l7 (K:AAA) (C:Addr) (cd:ClassData):Prop where
 cls:PySem.W.clsIn K C=some cd
 Uw:cd.mro.isEmpty=false
 NW:cd.mro.contains (.type "BaseException")=true
 ga:PySem.W.findIn K (.ref C) "__getattribute__" =some (some (.builtin "BaseException.__getattribute__"))
 gt:PySem.W.findIn K (.ref C) "__getattr__" =some none
section
variable {prog:Program}{w:World}{A:Around}{E:AAB}{s:Shared}{K:AAA}{e C:Addr}{oe:Obj}{od:Option Obj}{cd:ClassData}{name:Str}{expr:Bool}{v:Value}{Q:AAB}
def Ci {M:Model}{h:Heap}(X:K.In h) (I:PySem.W.InstAt h e oe C od) (c:l7 K C cd) (b:Value):PySem.W.Looks M h (isInstance (.ref e) b) (cd.mro.contains b):=
 I.type.andThen (PySem.W.looks_mroIn X (by unfold PySem.W.mroIn;rw[c.cls,X4,if_neg (by rw[c.Uw];decide)]))
def Ms (X:K.In s.heap) (I:PySem.W.InstAt s.heap e oe C od) (c:l7 K C cd) (hf:PySem.W.findObj K C od name=some (.value v)) (hh:PySem.W.handedIn v=true) (h:Q v {s with toks:=s.toks+1}):
  wpAny (model prog w) A (getAttr (.ref e) name expr) Q E s:=by
 obtain⟨hp,g,d,t,os⟩:=s
 have L0:=I.type (M:=model prog w)
 have L1:=Zl (M:=model prog w) X c.ga
 have L2:=Zl (M:=model prog w) X c.gt
 have L3:=PySem.W.looks_find (M:=model prog w) X I hf
 have L4:=Ci (M:=model prog w) X I c (.type "BaseException")
 rw[c.NW] at L4
 have nX:(expr && onTheHeap (Value.builtin "BaseException.__getattribute__"))=false:=by cases expr <;> rfl
 have nO:(Value.builtin "BaseException.__getattribute__" == Value.builtin "object.__getattribute__")=false:=by decide +kernel
 have FX:ExcAttrFacts "ValueError":=F.attr_ValueError
 unfold getAttr getAttrBy
 refine XY (wpAny_mkText (YI (XY (L0.at (XY (L1.at ?_))))))
 dsimp only
 rw[if_neg (by rw[nO];simp)]
 unfold getAttrByItsOwn
 refine XY (show wpAny _ _ (typeLookup (.ref C) "__getattr__") _ _ _ from L2.at ?_)
 refine XY (wpAny_attempt (YI ?_))
 unfold callGetattribute
 rw[if_neg (by rw[nX];decide)]
 unfold boundAndCalled
 refine XY (wpAny_of_eq (FX.ga.bind (.ref e)) ?_)
 refine ZO (aae FX.ga.plain F.entry_bexc_ga ?_)
 have kB:builtinKind "BaseException.__getattribute__" =some .slot:=by decide +kernel
 have sB:splitId "BaseException.__getattribute__" =some ("BaseException","__getattribute__"):=by decide +kernel
 have ha:=F.args_bexc_ga (.ref e) (.str name t)
 simp only[checkBuiltinCall,kB,sB]
 refine XY (L4.at ?_)
 rw[if_neg (by decide)]
 have main:wpAny (model prog w) A.in1 (Builtin.«object.__getattribute__» {pos:=[Value.ref e]++[Value.str name t]})
   (fun fin s'=>fin= .done (.ret v)/\s'=⟨hp,g,d,t+1,os⟩) (fun _ _=>False) ⟨hp,g,d,t+1,os⟩:=by
  refine XY (XZ (XY (XZ (XY (L0.at (XY (L3.at ?_)))))))
  exact XZ ⟨rfl,rfl⟩
 have fin:∀(P:Fin->Shared->Prop) (G:AAB),P (.done (.ret v)) ⟨hp,g,d,t+1,os⟩->wpAny (model prog w) A.in1 (Builtin.«object.__getattribute__» {pos:=[Value.ref e]++[Value.str name t]}) P G ⟨hp,g,d,t+1,os⟩:=fun P G hP=>
  Yd main (fun a s' z=>by rw[z.1,z.2];exact hP) fun _ _ z=>z.elim
 have out:wpAny (model prog w) A (handedOut v) Q E ⟨hp,g,d,t+1,os⟩:=by rw[PySem.W.handedOut_of hh];exact XZ h
 cases Mt:Manifest.signature? "BaseException.__getattribute__" with
 | none=>exact XZ (fin _ _ out)
 | some sig=>
  simp only[argsOk,Mt] at ha
  have h2:Bind.checkArgs "BaseException.__getattribute__" sig ⟨[.ref e,.str name t],[]⟩=pure ():=ha
  show wpAny _ _ (Bind.checkArgs "BaseException.__getattribute__" sig ⟨[.ref e,.str name t],[]⟩) _ _ _
  rw[h2]
  exact XZ (fin _ _ out)
end
open PySem.Builtin PySem.Builtin.ObjectAttr
section
variable {prog:Program}{w:World}{A:Around}{E:AAB}{s:Shared}{K:AAA}{x C:Addr}{ox:Obj}{od:Option Obj}{cd:ClassData}{name:Str}{v:Value}{tk:Tok}{R:Result->Shared->Prop}
structure DI (K:AAA) (C:Addr) (cd:ClassData):Prop where
 cls:PySem.W.clsIn K C=some cd
 Uw:cd.mro.isEmpty=false
 obj:cd.mro.contains (.type "object")=true
 hd:cd.hasDict=true
 sa:PySem.W.findIn K (.ref C) "__setattr__" =some (some (.builtin "object.__setattr__"))
 Xa:∀self:Value,refuseLoop self "__setattr__" cd.mro=pure ()
def Jo (X:K.In s.heap) (I:PySem.W.InstAt s.heap x ox C od) (c:DI K C cd) (n:iH K C name)
  (h:∀b,wpAny (model prog w) A.in1 (storeInOwnDict (.ref x) (.ref C) (.str name tk) name v b)
   (fun fin s'=>match fin with | .done f=>R (.ok f) s' | .again c'=>c'.quiet=true/\codeAny (model prog w) A c' R s') (fun e s'=>R (.error e) s') s):
  codeAny (model prog w) A (.call (.builtin "object.__setattr__") ⟨[.ref x,.str name tk,v],[]⟩) R s:=by
 have SF:=PySem.F.store_object
 have sub:PySem.W.Looks (model prog w) s.heap (isInstance (.ref x) (.type "object")) true:=I.type.andThen (PySem.W.looks_mroIn X (by unfold PySem.W.mroIn;rw[c.cls,X4,if_neg (by rw[c.Uw];decide),c.obj]))
 refine aae SF.slot.plain SF.entry (@PySem.W.check_slot (model prog w) _ _ s "object.__setattr__" "object" "__setattr__" (.ref x) [.str name tk,v] [] _ SF.kind SF.split sub (SF.args (.ref x) (.str name tk) v) ?_)
 have hm:PySem.W.Looks (model prog w) s.heap (mroOf (.ref C)) cd.mro:=(PySem.W.looks_clsIn X c.cls).andThen .now
 have L3:PySem.W.Looks (model prog w) s.heap (storeTaker? none) none:=.now
 rw[PySem.W.osa_eq,refuse_eq]
 refine XY (XY (I.type.here (XY (hm.here ?_))))
 rw[c.Xa]
 refine XZ (XY (I.type.here (XY ((Zl X n).here (XY (L3.here ?_))))))
 exact h _
end
open PySem.Builtin PySem.Builtin.ObjectAttr
section
variable {prog:Program}{w:World}{A:Around}{E:AAB}{s:Shared}{K:AAA}{x C t:Addr}{cd:ClassData}{name:Str}{v:Value}{Q:Unit->Shared->Prop}
def FY (X:K.In s.heap) (hx:s.heap.get? x=some (xw C none t)) (c:DI K C cd) (n:iH K C name)
  (h:∀h' tk,h'.get? x=some (xw C (some s.heap.objs.size) t)->h'.Ns1 s.heap.objs.size (fun y=>if y=name then some v else none)->(∀b o,b≠x->s.heap.get? b=some o->h'.get? b=some o)->Q () {s with heap:=h',toks:=tk}):
  wpAny (model prog w) A (setAttr (.ref x) name v) Q E s:=by
 have J:PySem.W.InstAt s.heap x (xw C none t) C none:=⟨hx,rfl,rfl,trivial⟩
 refine PySem.W.set_plain X J c.sa (Jo (s:={s with toks:=s.toks+1}) X J c n fun b=>?_)
 refine XY (XZ (XY (XY (wpAny_loadPart hx (XY (PySem.W.Looks.here (s:={s with toks:=s.toks+1}) (PySem.W.looks_clsIn X c.cls) ?_))))))
 rw[c.hd]
 have hxs:x≠s.heap.objs.size:=Ym (X5 hx)
 have VI:(s.heap.push {cls:=.type "dict",data:=.dict #[]}).get? x=some (xw C none t):=X3 _ hx
 show wpAny _ _ (do
   let d <-alloc {cls:=Value.type "dict",data:=Data.dict #[]}
   update x fun o=>{cls:=o.cls,dict:=some d,data:=o.data,slots:=o.slots}
   dictMade (xw C none t).cls x d) _ _ _
 refine XY (wpAny_alloc' (XY (wpAny_update' VI (XZ ?_))))
 have hgd:((s.heap.push {cls:=.type "dict",data:=.dict #[]}).update x fun o=>{cls:=o.cls,dict:=some s.heap.objs.size,data:=o.data,slots:=o.slots}).get? s.heap.objs.size=some {cls:=.type "dict",data:=.dict #[]}:=
  (Heap.get?_update_ne _ _ _ _ hxs.symm).trans (Heap.get?_push_at rfl rfl)
 have hnd:((s.heap.push {cls:=.type "dict",data:=.dict #[]}).update x fun o=>{cls:=o.cls,dict:=some s.heap.objs.size,data:=o.data,slots:=o.slots}).Ns s.heap.objs.size (fun _=>none):=⟨_,#[],_,hgd,rfl,fun e he=>absurd he (by simp),fun _=>rfl⟩
 show wpAny _ _ (storeInDict s.heap.objs.size (.str name s.toks) name v) _ _ _
 unfold storeInDict newKeyGuard
 refine XY (XZ (XY (wpAny_nsSet1 (Heap.Ns1.of_empty hnd) fun h' hn' hs=>?_)))
 obtain⟨oD,esD,XM,Xb,Xc,Xd⟩:=hn'.count (Within.cons name v Within.nil)
 refine XY (wpAny_lookBehind Xb (by rw[Xc];exact pastItsLine_dict (Yc Xd (by rw[Ys,ZG,aan];omega))) ?_)
 refine XZ (h h' _ ?_ hn' fun b o Mu hb=>?_)
 ·refine(hs.2 x hxs).trans (YQ _ VI rfl)
 ·exact(hs.2 b (Ym (X5 hb))).trans ((Heap.get?_update_ne _ _ _ _ Mu).trans (X3 _ hb))
end
structure KY (P:Program) (w:World) (H':Hp) (s':Shared) (e C dx T:Addr) (fs:List (Str×V)):Prop where
 at_:H' e=some (.nu C dx fs)
 VJ:Fl s'.heap e C (some dx) T .none
 nt:H' T=none
def Cj (P:Program) (w:World):CS:=fun outer H s E ev s'=>∃e C dx T fs H',ev= .ref e/\s'.os=s.os/\AllBare s'.gens/\Un (frs outer) [] H H' s.heap s'.heap/\kr P w H' s'.heap/\KY P w H' s' e C dx T fs/\s.heap.objs.size<=T/\E ev (some e) H'
section
variable {P:Program}{w:World}{H:Hp}{h h':Heap}{e C dx T T':Addr}{fs:List (Str×V)}{fr:List Addr}
def A1 (ok:kr P w H h) (ch:Ch fr e T h h') (hf:∀b∈fr,H b=none) (hT:H T=none) (he:H e=some (.nu C dx fs)) (hF:∃oe vs,h'.get? e=some oe/\oe.cls= .ref C/\oe.dict=some dx/\oe.data= .fields vs):kr P w H h':=fun a o q=>by
 have kp:∀b u v,H b=some v->b≠e->h.get? b=some u->h'.get? b=some u:=fun b u v hb hne z=>ch.keep b u (fun m=>by rw[hf b m] at hb;cases hb) hne (fun m=>by rw[m,hT] at hb;cases hb) z
 by_cases ha:a=e
 ·subst ha
  rw[he] at q
  cases q
  obtain⟨d,z,ne,_,mA,⟨od,es,ep,e2,c⟩,r⟩:=(show c7 P w H h a (.nu C dx fs) from ok a _ he)
  exact⟨d,z,ne,hF,mA,⟨od,es,ep,kp dx _ _ d ne e2,c⟩,r⟩
 ·refine(ok a o q).stay (fun b u hb z=>?_) (fun _ z=>z) fun _ _ z=>z
  rcases hb with rfl | hb
  ·exact kp b u o q ha z
  ·refine kp b u _ hb (fun m=>?_) z
   rw[m,he] at hb
   cases hb
def Ch.land {h1 h2:Heap}(ch:Ch fr e T' h h1) (hz:h.objs.size<=T) (sz:h2.objs.size=h1.objs.size) (kp:∀b o,b≠T->h1.get? b=some o->h2.get? b=some o):Ch fr e T' h h2:=
 ⟨fun b o hb By Ux q=>kp b o (fun z=>absurd (X5 q) (by rw[z];exact aaf.mpr hz)) (ch.keep b o hb By Ux q),fun b o hb q=>let⟨sl,z⟩:=ch.slot b o hb q;⟨sl,kp b _ (fun z'=>absurd (X5 q) (by rw[z'];exact aaf.mpr hz)) z⟩,by rw[sz];exact ch.size⟩
def Fl.obj {fl:Value}(x:Fl h e C (some dx) T fl):∃oe vs,h.get? e=some oe/\oe.cls= .ref C/\oe.dict=some dx/\oe.data= .fields vs:=by
 obtain⟨oe,vs,oT,ts,he,hc,hx,hd,_⟩:=x
 exact⟨oe,vs,he,hc,hx,hd⟩
end
section
variable {X:Cx}{pins:AAD}{σ:St}{H:Hp}{s:Shared}{e C dx T0:Addr}{fs:List (Str×V)}{E0:XK}
def FZ {h2:Heap}(I:Inv X pins σ H s) (hst:X.stack=X.env :: X.outer) (hfr:X.env.frame=some X.env.locals) (hex:X.ex=[]) (ch:Ch (frs X.stack) e T0 s.heap h2) (he:H e=some (.nu C dx fs)) (Xe:∃o,h2.get? e=some o) (P6:T0=e\/X.s₀.heap.objs.size<=T0):Un (frs X.outer) [] X.H₀ H X.s₀.heap h2:=by
 have B:=I.base
 rw[hex] at B
 have nT:∀b o,X.s₀.heap.get? b=some o->b≠e->b≠T0:=fun b o q hb z=>by
  rcases P6 with r | r
  ·exact hb (z.trans r)
  ·exact absurd (X5 q) (by rw[z];exact aaf.mpr r)
 have nL:∀b o,X.s₀.heap.get? b=some o->b∈frs X.stack->b∈frs X.outer:=fun b o q hb=>by
  rw[hst] at hb
  unfold frs at hb
  rw[Zo,hfr] at hb
  rcases Yi.mp hb with z | z
  ·exact absurd (X5 q) (by rw[z];exact aaf.mpr I.ok.above)
  ·exact z
 have ne:∀b o,X.s₀.heap.get? b=some o->X.H₀ b=none->b≠e:=fun b o q n z=>by
  have:=B.free b o q n (by simp)
  rw[z,he] at this
  cases this
 have sub:∀b,b∈frs X.outer->b∈frs X.stack:=fun b hb=>by
  rw[hst]
  unfold frs
  rw[Zo,hfr]
  exact Yb _ hb
 refine⟨fun b o q n hb hx=>ch.keep b o (fun m=>hb (nL b o q m)) (ne b o q n) (nT b o q (ne b o q n)) (B.keep b o q n hb hx),fun b o q n hb hx=>?_,B.free,fun b o q hx=>?_,B.tups,B.qZ,B.rX⟩
 ·obtain⟨sl,z⟩:=B.slot b o q n hb hx
  obtain⟨RK,z'⟩:=ch.slot b _ (sub b hb) z
  exact⟨RK,z'⟩
 ·obtain⟨o',z⟩:=B.there b o q hx
  by_cases hb:b=e
  ·rw[hb];exact Xe
  ·by_cases hm:b∈frs X.stack
   ·obtain⟨sl,z'⟩:=ch.slot b o' hm z
    exact⟨_,z'⟩
   ·exact⟨o',ch.keep b o' hm hb (nT b o q hb) z⟩
def zw {t:Addr}(I:Inv X pins σ H s) (hst:X.stack=X.env :: X.outer) (hfr:X.env.frame=some X.env.locals) (hex:X.ex=[]) (he:H e=some (.nu C dx fs)) (ho:s.heap.get? e=some (xw C (some dx) t)) (hE:E0 (.ref e) (some e) H):
  wpAny (model X.prog X.w) X.A (leaving X.env (.ref e)) (fun _ s''=>Cj X.prog X.w X.outer X.H₀ X.s₀ E0 (.ref e) s'') (fun e' s''=>Cj X.prog X.w X.outer X.H₀ X.s₀ E0 e' s'') s:=by
 have fr:X.A.frames=some (X.env :: X.outer):=by rw[I.ok.frames,hst]
 have st:=I.stack
 rw[hst] at st
 have P7:∀b∈(X.env :: X.outer).filterMap (·.frame),H b=none:=fun b hb=>I.kC b (by rw[hst];exact hb)
 refine XY (tL fr st hfr ho fun h1 T hT ch hF=>kP hF fun h2 sz kp rm=>?_)
 have c2:=ch.land hT sz kp
 have nt:H T=none:=I.hok.fresh hT
 have c3:Ch ((X.env :: X.outer).filterMap (·.frame)) e T s.heap h2:=⟨fun b o h1 h2 _ q=>c2.keep b o h1 h2 h2 q,c2.slot,c2.size⟩
 exact⟨e,C,dx,T,fs,H,rfl,I.os,I.bare,FZ I hst hfr hex (by rw[hst];exact c2) he (let⟨oe,_,z,_⟩:=rm.obj;⟨oe,z⟩) (.inl rfl),A1 I.hok c3 P7 nt he rm.obj,⟨he,rm,nt⟩,Yc I.sz hT,hE⟩
def A2 (I:Inv X pins σ H s) (hst:X.stack=X.env :: X.outer) (hfr:X.env.frame=some X.env.locals) (hex:X.ex=[]) (fl:KY X.prog X.w H s e C dx T0 fs) (P6:X.s₀.heap.objs.size<=T0) (hE:E0 (.ref e) (some e) H):
  wpAny (model X.prog X.w) X.A (leaving X.env (.ref e)) (fun _ s''=>Cj X.prog X.w X.outer X.H₀ X.s₀ E0 (.ref e) s'') (fun e' s''=>Cj X.prog X.w X.outer X.H₀ X.s₀ E0 e' s'') s:=by
 have fr:X.A.frames=some (X.env :: X.outer):=by rw[I.ok.frames,hst]
 have st:=I.stack
 rw[hst] at st
 have P7:∀b∈(X.env :: X.outer).filterMap (·.frame),H b=none:=fun b hb=>I.kC b (by rw[hst];exact hb)
 refine XY (tM fr st hfr fl.VJ fun h1 T hT ch hF=>kP hF fun h2 sz kp rm=>?_)
 have c2:=ch.land hT sz kp
 have nt:H T=none:=I.hok.fresh hT
 have c3:Ch ((X.env :: X.outer).filterMap (·.frame)) e T s.heap h2:=⟨fun b o h1 h2 _ q=>c2.keep b o h1 h2 h2 q,c2.slot,c2.size⟩
 exact⟨e,C,dx,T,fs,H,rfl,I.os,I.bare,FZ I hst hfr hex (by rw[hst];exact c2) fl.at_ (let⟨oe,_,z,_⟩:=rm.obj;⟨oe,z⟩) (.inl rfl),A1 I.hok c3 P7 nt fl.at_ rm.obj,⟨fl.at_,rm,nt⟩,Yc I.sz hT,hE⟩
def zy (I:Inv X pins σ H s) (hst:X.stack=X.env :: X.outer) (hfr:X.env.frame=some X.env.locals) (hex:X.ex=[]) (he:H e=some (.nu C dx fs)) (hF:Fl s.heap e C (some dx) T0 (rawInt X.env.locals)) (nt:H T0=none) (P6:X.s₀.heap.objs.size<=T0) (hE:E0 (.ref e) (some e) H):
  wpAny (model X.prog X.w) X.A (leaving X.env (.ref e)) (fun _ s''=>Cj X.prog X.w X.outer X.H₀ X.s₀ E0 (.ref e) s'') (fun e' s''=>Cj X.prog X.w X.outer X.H₀ X.s₀ E0 e' s'') s:=by
 have st:=I.stack
 rw[hst] at st
 have P7:∀b∈(X.env :: X.outer).filterMap (·.frame),H b=none:=fun b hb=>I.kC b (by rw[hst];exact hb)
 obtain⟨_,_,oT,tt,_,_,_,_,_,_,hT,zq,_⟩:=id hF
 have nT:=Cg st hT zq
 refine XY (tN hfr hF (kP hF fun h2 sz kp rm=>?_))
 have c2:Ch ((X.env :: X.outer).filterMap (·.frame)) e T0 s.heap h2:=⟨fun b o _ _ Ux q=>kp b o Ux q,fun b o hb q=>⟨o.slots,kp b o (fun z=>nT (by rw[<-z];exact hb)) q⟩,Nat.le_of_eq sz.symm⟩
 exact⟨e,C,dx,T0,fs,H,rfl,I.os,I.bare,FZ I hst hfr hex (by rw[hst];exact c2) he (let⟨oe,_,z,_⟩:=rm.obj;⟨oe,z⟩) (.inr P6),A1 I.hok c2 P7 nt he rm.obj,⟨he,rm,nt⟩,P6,hE⟩
end
abbrev XQ:=St->Addr->Hp->Prop
inductive F6 (X:Cx) (pins:AAD) (Q:XQ) (ev:Value) (s':Shared):Prop
 | mk (e C dx:Addr) (fs:List (Str×V)) (σ':St) (H':Hp) (hv:ev= .ref e) (I:Inv X pins σ' H' s') (at_:H' e=some (.nu C dx fs))
   (fl:(∃t,s'.heap.get? e=some (xw C (some dx) t))\/∃T fl,(fl= .none\/fl=rawInt X.env.locals)/\Fl s'.heap e C (some dx) T fl/\H' T=none/\X.s₀.heap.objs.size<=T/\∀p∈X.pn++pins,p.1≠T) (q:Q σ' e H')
abbrev TX:=St->Hp->XQ->Prop
def Mv (X:Cx) (e:Expr) (t:TX):Prop:=∀(pins:AAD) (s:Shared) (σ:St) (H:Hp) (Q:XQ),Inv X pins σ H s->t σ H Q->wpAny (model X.prog X.w) X.A (eval e X.env) (fun _ _=>False) (F6 X pins Q) s
def Mw (X:Cx) (st:Stmt) (t:TX):Prop:=∀(pins:AAD) (s:Shared) (σ:St) (H:Hp) (Q:XQ),Inv X pins σ H s->t σ H Q->wpAny (model X.prog X.w) X.A (exec st X.env) (fun _ _=>False) (F6 X pins Q) s
def A3 (X:Cx) (st:List Stmt) (t:TX):Prop:=∀(pins:AAD) (s:Shared) (σ:St) (H:Hp) (Q:XQ),Inv X pins σ H s->t σ H Q->wpAny (model X.prog X.w) X.A (execs st X.env) (fun _ _=>False) (F6 X pins Q) s
def PS.wait {t:TS}(h:PS X st t) (hx:X.xe=fun _ _=>False){s:Shared}{D:Ends}(I:Inv X pins σ H s) (hw:t D σ H):
  wpAny (model X.prog X.w) X.A (exec st X.env) (SP X pins D) E s:=Yd (h pins s σ H D I hw) (fun _ _ z=>z) fun e s' z=>by rw[hx] at z;exact z.elim
def PT.wait {e:Expr}{t:TT}(h:PT X e t) (hx:X.xe=fun _ _=>False){s:Shared}{Q:Bool->Hp->Prop}(I:Inv X pins σ H s) (hw:t σ H Q):
  wpAny (model X.prog X.w) X.A (isTrue e X.env (eval e X.env)) (TP X pins σ Q) E s:=Yd (h pins s σ H Q I hw) (fun _ _ z=>z) fun e s' z=>by rw[hx] at z;exact z.elim
section
variable {X:Cx}{a b:Stmt}{r:List Stmt}{t u:TX}{ts:TS}
def vM (h:Mw X a t):A3 X (a :: r) t:=fun pins s σ H Q I hw=>ZY (Yd (h pins s σ H Q I hw) (fun _ _ z=>z.elim) fun _ _ z=>z)
def Ck (hx:X.xe=fun _ _=>False) (h:PS X a ts) (h2:A3 X r u):A3 X (a :: r) fun σ H Q=>ts {nx:=fun σ' H'=>u σ' H' Q,rt:=fun _ _=>False} σ H:=fun pins s σ H Q I hw=>
 ZY (Yd (h.wait hx I hw) (fun f s' z=>by
  cases f with
  | next=>obtain⟨σ',H',I',q⟩:=z;exact h2 pins s' σ' H' Q I' q
  | brk=>obtain⟨_,_,_,q⟩:=z;exact q.elim
  | cont=>obtain⟨_,_,_,q⟩:=z;exact q.elim
  | ret v=>obtain⟨_,_,_,_,_,q⟩:=z;exact q.elim) fun _ _ z=>z)
end
section
variable {P:Program}{w:World}{K:AAA}{mg:AAC}{base:Heap}
def C3.Uy {qual:Str}{f:Addr}{sp:Sp}(F:C3 K x qual st f fd) (S:bF N ps (aF st)) (len:∀vs H Q E,sp vs H Q E->vs.length=ps.length)
  (hbody:∀(cdv:Value) (A:Around) (outer:List Env) (s:Shared) (H:Hp) (vs:List V) (Q:VK) (E:XK),dN k (A.deeper (envOfC qual (aF st) s.heap.objs.size f cdv))->sp vs H Q E->
   ∃t,A3 (pW uI P w K mg base N qual (aF st) f cdv A outer s H E).HA (dD st) t/\t (start N vs) H fun _ e H'=>E (.ref e) (some e) H'):gU P w K mg base (Cj P w) (k+1) f fd ps sp:=by
 obtain⟨oc,od,kV,doc,pm,an,cdv,ct,osl,rfl,lk,hcd⟩:=F.ex
 refine Ky lk hcd S len fun A outer s H vs Q E hr HB=>?_
 obtain⟨t,h,q⟩:=hbody cdv A outer s H vs Q E hr HB
 refine⟨fun _ σ H1=>t σ H1 fun _ e H'=>E (.ref e) (some e) H',fun pins s1 σ H1 D I hw=>?_,q⟩
 have I0:Inv (pW uI P w K mg base N qual (aF st) f cdv A outer s H E).HA pins σ H1 s1:=⟨⟨I.ok.mod,I.ok.kind,I.ok.glob,I.ok.blt,I.ok.above,I.ok.inj,I.ok.has,I.ok.Km,I.ok.hd,I.ok.frames,I.ok.stk,I.ok.Nu,I.ok.bs,I.ok.BA,I.ok.wA,I.ok.yj,I.ok.nM,I.ok.Hz⟩,I.os,I.bare,I.base,I.loc,I.cell,I.free,I.iO,I.pin,I.hok,I.len⟩
 refine Yd (h pins s1 σ H1 _ I0 hw) (fun _ _ z=>z.elim) fun ev s' z=>?_
 obtain⟨e,C,dx,fs,σ',H',rfl,I',at_,fl,hq⟩:=z
 have I2:Inv (pW (Cj P w) P w K mg base N qual (aF st) f cdv A outer s H E) pins σ' H' s':=⟨⟨I'.ok.mod,I'.ok.kind,I'.ok.glob,I'.ok.blt,I'.ok.above,I'.ok.inj,I'.ok.has,I'.ok.Km,I'.ok.hd,I'.ok.frames,I'.ok.stk,I'.ok.Nu,I'.ok.bs,I'.ok.BA,I'.ok.wA,I'.ok.yj,I'.ok.nM,I'.ok.Hz⟩,I'.os,I'.bare,I'.base,I'.loc,I'.cell,I'.free,I'.iO,I'.pin,I'.hok,I'.len⟩
 rcases fl with⟨tt,ho⟩ | ⟨T,f1,hf,hF,nt,hT,_⟩
 ·exact zw I2 rfl rfl rfl at_ ho hq
 ·rcases hf with rfl | rfl
  ·exact A2 I2 rfl rfl rfl ⟨at_,hF,nt⟩ hT hq
  ·exact zy I2 rfl rfl rfl at_ hF nt hT hq
end
section
variable {X:Cx}{k:Nat}{f:Addr}{fd:FuncData}{ps:List Str}{sp:Sp}{yq:List V}{ds:AAI}{x:Str}{p pos:Pos}{e:Expr}{es:List Expr}{t:TA}
def PA.wait (h:PA X es t) (hx:X.xe=fun _ _=>False){s:Shared}{Q:List V->Hp->Prop}(I:Inv X pins σ H s) (hw:t σ H Q):
  wpAny (model X.prog X.w) X.A (spliced (backTo pos (starEach es X.env))) (AP X pins σ Q) E s:=Yd (h pos pins s σ H Q I hw) (fun _ _ z=>z) fun e s' z=>by rw[hx] at z;exact z.elim
def Jp {s:Shared}{Q:XQ}{vs:List V}(F:gU X.prog X.w X.K X.mg X.base (Cj X.prog X.w) k f fd ps sp) (hr:dN k X.A) (hb:Binds X.K fd ps ds) (hd:Vals yq ds)
  (I:Inv X pins σ H s) (r:Vals vs us) (h:sp (vs++yq) H (fun _ _=>False) fun ev _ H'=>∃a,ev= .ref a/\Q σ a H'):wpAny (model X.prog X.w) X.A (call (.ref f) us) (fun _ _=>False) (F6 X pins Q) s:=by
 have r2:Vals (vs++yq) (us++ds):=r.append hd
 have hl:(us++ds).length=ps.length:=by rw[<-r2.length];exact F.len _ _ _ _ h
 refine ZO (aab (F.run X.A X.stack s H ⟨us,[]⟩ (us++ds) (vs++yq) _ _ hr I.Lr (hb s us I.qK hl) r2 h) fun r s' hq=>?_)
 cases r with
 | error ev=>
  obtain⟨e,C,dx,T,fs,H',rfl,os,bare,un,hok,fl,hT,a,z,hq⟩:=(show Cj X.prog X.w X.stack H s (fun ev _ H'=>∃a,ev= .ref a/\Q σ a H') ev s' from hq)
  cases z
  exact⟨e,C,dx,fs,σ,H',rfl,I.Ko (ch:=[]) os un hok bare fun b z=>absurd z (by simp),fl.at_,.inr ⟨T,.none,.inl rfl,fl.VJ,fl.nt,Yc I.sz hT,fun p hp z=>absurd (X5 (I.pin p hp).1) (by rw[z];exact aaf.mpr hT)⟩,hq⟩
 | ok fl=>
  cases fl with
  | ret u=>obtain⟨_,_,_,_,_,_,_,z⟩:=(show CE X.stack X.prog X.w H s (fun _ _=>False) u s' from hq);exact z
  | next=>exact False.elim hq
  | brk=>exact False.elim hq
  | cont=>exact False.elim hq
def Jq (F:gU X.prog X.w X.K X.mg X.base (Cj X.prog X.w) k f fd ps sp) (hx:X.xe=fun _ _=>False) (hr:dN k X.A) (hg:Gl X x) (hm:X.mg x=some (.ref f)) (hk:PySem.W.keepIn X.K (.ref f)=true) (hb:Binds X.K fd ps ds) (hd:Vals yq ds)
  (ha:PA X (e :: es) t) (hdb:(x == ("__debug__":Str))=false:=by decide) (he:starEach (e :: es) X.env=(false,eval e X.env) :: starEach es X.env:=by rfl) (hpl:(backTo pos (starEach es X.env)).any (·.1)=false:=by rfl):
  Mv X (.Call (.Name x p) (e :: es) [] pos) fun σ H Q=>t σ H fun vs H1=>sp (vs++yq) H1 (fun _ _=>False) fun ev _ H'=>∃a,ev= .ref a/\Q σ a H':=by
 intro pins s σ H Q I h
 refine Y5 (kD I hg hm ?_ hdb)
 refine ZK (h₀:=X.base) I.ok.mod.Nt hk (dj (ha.wait hx I h) fun us s1 hh=>?_) he hpl
 obtain⟨vs,H1,I1,r,q⟩:=hh
 exact⟨I1.qK,Jp F hr hb hd I1 r q⟩
def F7 {g:Str}{tx:TX}{gf:Addr}(h:Mv X e tx) (hg:Gl X g) (hm:X.mg g=some (.ref gf)) (hk:PySem.W.keepIn X.K (.ref gf)=true) (hdb:(g == ("__debug__":Str))=false:=by decide)
  (he:starEach [e] X.env=[(false,eval e X.env)]:=by rfl):Mv X (.Call (.Name g p) [e] [] pos) tx:=by
 intro pins s σ H Q I hw
 refine Y5 (kD I hg hm ?_ hdb)
 refine ZK (h₀:=X.base) I.ok.mod.Nt hk ?_ he rfl
 rw[he]
 exact aat (Yd (h pins s σ H Q I hw) (fun _ _ z=>z.elim) fun _ _ z=>z)
end
def yc (a C t:Addr) (dx:Option Addr):HO:=.ext fun h=>h.get? a=some (xw C dx t)
section
variable {X:Cx}{pins:AAD}{σ:St}{H:Hp}{s:Shared}{a C t dx:Addr}{cd:ClassData}{f:Str}{y:V}{u:Value}{A:Around}{E:AAB}{Q:Unit->Shared->Prop}{fs:List (Str×V)}
def Mx (I:Inv X pins σ H s) (e:H a=some (yc a C t none)) (c:DI X.K C cd) (n:iH X.K C f) (ry:RelV y u)
  (h:∀s',H s.heap.objs.size=none->s.heap.objs.size≠a->Inv X pins σ (upd (upd H s.heap.objs.size (.xd [(f,y)])) a (yc a C t (some s.heap.objs.size))) s'->Q () s'):wpAny (model X.prog X.w) A (setAttr (.ref a) f u) Q E s:=by
 have hx:s.heap.get? a=some (xw C none t):=(I.hok a _ e).1
 have hz:H s.heap.objs.size=none:=I.hok.fresh (X6 _)
 have ne:s.heap.objs.size≠a:=aaa (X5 hx)
 refine FY I.qK hx c n fun h' tk ho hN kp=>h _ hz ne ?_
 have ed:upd (upd H s.heap.objs.size (.xd [(f,y)])) a (yc a C t (some s.heap.objs.size)) s.heap.objs.size=some (.xd [(f,y)]):=by rw[aE ne,aH]
 have HG:∀b,b≠a->b≠s.heap.objs.size->upd (upd H s.heap.objs.size (.xd [(f,y)])) a (yc a C t (some s.heap.objs.size)) b=H b:=fun b h1 h2=>by rw[aE h1,aE h2]
 have lt:∀b o,s.heap.get? b=some o->b≠s.heap.objs.size:=fun b o q=>Ym (X5 q)
 have na:∀b,H b=none->b≠a:=fun b q z=>by rw[z,e] at q;cases q
 have nz:∀b v,H b=some v->b≠s.heap.objs.size:=fun b v q z=>by rw[z,hz] at q;cases q
 refine I.un ⟨fun b o q m _ _=>kp b o (na b m) q,fun b o q m _ _=>⟨o.slots,kp b o (na b m) q⟩,fun b o q m _=>by rw[HG b (na b m) (lt b o q)];exact m,fun b o q _=>?_,fun b xs q=>?_,fun b o v q=>?_,fun b ps q=>⟨#[],?_⟩⟩ fun b o q=>?_
 ·by_cases hb:b=a
  ·rw[hb];exact⟨_,ho⟩
  ·exact⟨o,kp b o hb q⟩
 ·rw[HG b (fun z=>by rw[z,e] at q;cases q) (nz b _ q)];exact q
 ·rw[HG b (fun z=>by rw[z,e] at q;cases q) (nz b _ q)];exact q
 ·rw[HG b (fun z=>by rw[z,e] at q;cases q) (nz b _ q),q];simp
 ·by_cases hb:b=a
  ·subst hb
   rw[aH] at q
   cases q
   exact⟨ho,⟨_,ho⟩,fun h1 h2 p k=>k _ p⟩
  ·by_cases hd:b=s.heap.objs.size
   ·subst hd
    rw[ed] at q
    cases q
    refine⟨_,hN,fun g=>?_,fun g hg=>?_⟩
    ·by_cases z:g=f
     ·subst z;simp[List.lookup];exact ry
     ·have:(g == f)=false:=by simpa using z
      simp[List.lookup,this,z];trivial
    ·by_cases z:g=f
     ·simp[z]
     ·simp[z] at hg
   ·rw[HG b hb hd] at q
    refine(I.hok b o q).stay (fun d v hd' z=>kp d v (fun z'=>?_) z) (fun d z=>?_) fun d xs z=>?_
    ·rcases hd' with r | r
     ·exact hb (r.symm.trans z')
     ·rw[z',e] at r;cases r
    ·rw[HG d (fun z'=>by rw[z',e] at z;cases z) (nz d _ z)];exact z
    ·rw[HG d (fun z'=>by rw[z',e] at z;cases z) (nz d _ z)];exact z
end
section
variable {X:Cx}{C:Addr}{cd:ClassData}{f:Str}{o value:Expr}{ta tv:TE}{pos pos':Pos}
def My (c:DI X.K C cd) (n:iH X.K C f) (ha:PE X o ta) (hv:PE X value tv) (hs:swapsWith value (some (.Attribute o f pos')) pos.line X.env=pure false):PS X (.Assign [.Attribute o f pos'] value pos)
  fun D σ H=>tv σ H fun y H1=>ta σ H1 fun x H2=>∃a t,x= .ref a/\H2 a=some (yc a C t none)/\∀dx,H2 dx=none->dx≠a->D.nx σ (upd (upd H2 dx (.xd [(f,y)])) a (yc a C t (some dx))):=by
 intro pins s σ H D I h
 refine plainObj_wpAny_Assign_Attribute (dj (hv pins s σ H _ I h) fun u s1 h1=>?_) hs
 obtain⟨y,H1,I1,ry,q⟩:=h1
 refine dj (ha pins s1 σ H1 _ I1 q) fun ov s2 hh=>?_
 obtain⟨x,H2,I2,rx,a,t,ex,ea,q2⟩:=hh
 subst ex
 obtain rfl:ov=Value.ref a:=rx
 exact Mx I2 ea c n ry fun s3 hz ne I3=>⟨σ,_,I3,q2 _ hz ne⟩
end
def c7.has {P:Program}{w:World}{h:Heap}{a:Addr}{o:HO}(x:c7 P w H h a o):∃ob,h.get? a=some ob:=by
 cases o with
 | lst xs=>obtain⟨_,_,_,_,e⟩:=x;exact⟨_,e⟩
 | tup xs=>obtain⟨_,_,_,ob,e,_⟩:=x;exact⟨_,e⟩
 | dK kvs=>obtain⟨_,_,_,_,o,_,_,e,_⟩:=x;exact⟨_,e⟩
 | dT kvs=>obtain⟨_,_,_,_,o,_,_,e,_⟩:=x;exact⟨_,e⟩
 | set S n=>obtain⟨o,_,_,_,e,_⟩:=x;exact⟨_,e⟩
 | ins C dx fs=>obtain⟨_,_,_,e,_⟩:=x;exact⟨_,e⟩
 | nu C dx fs=>obtain⟨_,_,_,⟨_,_,e,_⟩,_⟩:=x;exact⟨_,e⟩
 | own y=>exact x
 | xd fs=>obtain⟨_,⟨_,_,_,e,_⟩,_⟩:=x;exact⟨_,e⟩
 | pT lo hi=>obtain⟨_,_,_,e⟩:=x;exact⟨_,e⟩
 | iN ob u=>obtain⟨e,_⟩:=x;exact⟨_,e⟩
 | Kl ps=>exact⟨_,(show h.get? a=some _ from x)⟩
 | met f y=>exact⟨_,(show h.get? a=some _ from x)⟩
 | ext φ=>obtain⟨_,e,_⟩:=x;exact e
structure Rp (K:AAA) (C fI:Addr) (bm bmB:AAI) (B newId initId:String):Prop where
 obj:∃nm q N bs hdct sn sub ab col dd k0 k1 k2 k3 k5,K.lookup C=some (excClassObj nm q C N bs bm hdct sn sub ab col dd k0 k1 k2 k3 k5 newId)/\PySem.W.nsOkIn K N=true/\PySem.W.nsIn K N "__init__" =some (some (.ref fI))
 tail:PySem.W.tailIn K bmB bm=true
 Uz:ExcBaseFacts B newId initId bmB
 NW:bmB.contains (.type "BaseException")=true
 fn:∃oI,K.lookup fI=some oI/\oI.cls= .type "function"
section
variable {X:Cx}{pins:AAD}{σ:St}{H:Hp}{s:Shared}{a C t dx:Addr}{fs:List (Str×V)}
def Inv.P8 {h':Heap}(I:Inv X pins σ H s) (m:Heap.MadeExcOf s.heap h' a (.ref C) us):∃t,H a=none/\Inv X pins σ (upd H a (yc a C t none)) {s with heap:=h'}:=by
 obtain⟨t,ho,_,_⟩:=m.there
 have hn:H a=none:=by
  cases q:H a with
  | none=>rfl
  | some o=>obtain⟨ob,z⟩:=(I.hok a o q).has;rw[m.new] at z;cases z
 refine⟨t,hn,?_⟩
 have na:∀b o,s.heap.get? b=some o->b≠a:=fun b o q z=>by rw[z,m.new] at q;cases q
 have nh:∀b v,H b=some v->b≠a:=fun b v q z=>by rw[z,hn] at q;cases q
 refine I.un (t':=s.toks) ⟨fun b o q _ _ _=>m.keeps b o q,fun b o q _ _ _=>⟨o.slots,m.keeps b o q⟩,fun b o q z _=>by rw[aE (na b o q)];exact z,fun b o q _=>⟨o,m.keeps b o q⟩,fun b xs q=>by rw[aE (nh b _ q)];exact q,fun b o v q=>by rw[aE (nh b _ q)];exact q,fun b ps q=>⟨#[],by rw[aE (nh b _ q),q];simp⟩⟩ fun b o q=>?_
 by_cases hb:b=a
 ·subst hb
  rw[aH] at q
  cases q
  exact⟨ho,⟨_,ho⟩,fun h1 h2 p k=>k _ p⟩
 ·rw[aE hb] at q
  exact(I.hok b o q).stay (fun c v _ z=>m.keeps c v z) (fun c z=>by rw[aE (nh c _ z)];exact z) fun c xs z=>by rw[aE (nh c _ z)];exact z
def Inv.Mz (I:Inv X pins σ H s) (e:H a=some (yc a C t (some dx))) (ed:H dx=some (.xd fs)) (hl:fs.length<=1000):Inv X pins σ (upd (upd H dx (.own a)) a (.nu C dx fs)) s:=by
 have ne:dx≠a:=fun z=>by rw[z,e] at ed;cases ed
 have ho:s.heap.get? a=some (xw C (some dx) t):=(I.hok a _ e).1
 obtain⟨mA,hN,r,wi⟩:=(show c7 X.prog X.w H s.heap dx (.xd fs) from I.hok dx _ ed)
 have hd:∃o,s.heap.get? dx=some o:=let⟨o,_,_,z,_⟩:=hN;⟨o,z⟩
 have I1:Inv X pins σ (upd H dx (.own a)) s:=I.write (x:=dx) (e:=dx) (t':=s.toks) (by rw[ed];exact True.intro) (.inl rfl) (fun b q _ z=>z) hd hd
 exact I1.write (x:=a) (e:=a) (t':=s.toks) (by rw[aE ne.symm,e];exact True.intro) (.inl rfl) (fun b q _ z=>z) ⟨_,ho⟩ ⟨by rw[aE ne,aH],hl,ne,⟨_,_,ho,rfl,rfl,rfl⟩,mA,hN,r,wi⟩
end
def A4 {h:Heap}{N:Addr}{mg:AAC}{v:Value}(X:K.In h) (G:h.Ns N mg) (e:PySem.W.nsIn K N n=some (some v)):mg n=some v:=by
 obtain⟨ob,ee,e0,gb,gd,_,Xf⟩:=G
 unfold PySem.W.nsIn at e
 split at e
 ·rename_i k1 k2 k3 k4 k5 look
  have w:=X _ _ look
  rw[gb] at w
  cases w
  cases gd
  split at e
  ·rename_i en hit
   cases e
   rw[<-Xf]
   unfold nsFind findBy
   rw[<-Array.find?_toList,hit]
   rfl
  ·split at e <;> cases e
 ·cases e
section
variable {X:Cx}{C fI:Addr}{bm bmB:AAI}{B newId initId:String}{kI:Nat}{KZ:FuncData}{HH:List Str}{Jr:Sp}{x:Str}{np cpos pos:Pos}{e:Expr}{es:List Expr}{t:TA}
def F8 (M:Rp X.K C fI bm bmB B newId initId) (FI:gU X.prog X.w X.K X.mg X.base uI kI fI KZ HH Jr) (hx:X.xe=fun _ _=>False) (hc:X.calm=true) (hr:dN (kI+1) X.A) (hg:Gl X x) (hm:X.mg x=some (.ref C)) (hk:PySem.W.keepIn X.K (.ref C)=true) (hb:Binds X.K KZ HH [])
  (ha:PA X (e :: es) t) (hdb:(x == ("__debug__":Str))=false:=by decide) (he:starEach (e :: es) X.env=(false,eval e X.env) :: starEach es X.env:=by rfl) (hpl:(backTo cpos (starEach es X.env)).any (·.1)=false:=by rfl):
  Mw X (.Raise (some (.Call (.Name x np) (e :: es) [] cpos)) none pos) fun σ H Q=>t σ H fun vs H1=>vs.length<=sizeLine/\∀a tt,H1 a=none->
   Jr (.ref a :: vs) (upd H1 a (yc a C tt none)) (fun v H2=>v= .cz/\∃dx fs,H2 a=some (yc a C tt (some dx))/\H2 dx=some (.xd fs)/\fs.length<=1000/\Q σ a (upd (upd H2 dx (.own a)) a (.nu C dx fs))) E0:=by
 intro pins s σ H Q I h
 obtain⟨nm,q,N,bs,hdct,sn,sub,ab,col,dd,k0,k1,k2,k3,k5,lk,Xg,Xh⟩:=M.obj
 obtain⟨oI,Xi,hfc⟩:=M.fn
 have tl:∀{h:Heap},X.K.In h->OwnTail h bmB bm:=fun {h} z=>PySem.W.tail_of_in z M.tail
 rw[arm_exec_Raise]
 refine XY (aaw (FW (C:=C) (nm:=nm) (q:=q) (N:=N) (bs:=bs) (bm:=bm) (hdct:=hdct) (sn:=sn) (sub:=sub) (ab:=ab) (col:=col) (dd:=dd) (k0:=k0) (k1:=k1) (k2:=k2) (k3:=k3) (k5:=k5) (newId:=newId) ((tl I.qK).hasType M.NW) (I.ok.hd hc) (XY (Yd ?_ (fun v s1 z=>XY (aaw (XZ z))) fun _ _ z=>z))))
 refine Y5 (kD I hg hm ?_ hdb)
 refine ZK (h₀:=X.base) I.ok.mod.Nt hk (dj (ha.wait hx I h) fun us s1 hh=>?_) he hpl
 obtain⟨vs,H1,I1,r,hz,q1⟩:=hh
 refine⟨I1.qK,?_⟩
 obtain⟨hp,g,d,tk,os⟩:=s1
 have KI:X.K.In hp:=I1.qK
 have Nn:hp.Ns N (hp.nsMap N):=.of_isNs (PySem.W.isNs_of_in KI Xg)
 refine Jl M.Uz (tl KI) (KI _ _ lk) Nn (A4 KI Nn Xh) (KI _ _ Xi) hfc (fun h' a m=>?_) (by show us.length<=sizeLine;rw[<-r.length];exact hz)
 obtain⟨tt,hn,I2⟩:=I1.P8 m
 have sp:=q1 a tt hn
 have r2:Vals (V.ref a :: vs) (Value.ref a :: us):=.cons rfl r
 have hl:(Value.ref a :: us).length=HH.length:=by rw[<-r2.length];exact FI.len _ _ _ _ sp
 refine ZO (aab (FI.run (X.A.under (.builtin "type.__call__" ⟨.ref C :: us,[]⟩)) X.stack _ _ ⟨.ref a :: us,[]⟩ (.ref a :: us) _ _ E0 (hr.make C us []) (I2.Lr.make C us []) (by have:=hb _ (.ref a :: us) I2.qK (by rw[Zr];exact hl);rw[Zr] at this;exact this) r2 sp) fun r s' hq=>?_)
 cases r with
 | error ev=>exact(show False from hq).elim
 | ok fl=>
  cases fl with
  | next=>exact False.elim hq
  | brk=>exact False.elim hq
  | cont=>exact False.elim hq
  | ret u=>
   obtain⟨v,H3,I3,rv,ev,dx,fs,e1,e2,e3,q3⟩:=I2.after hq
   subst ev
   exact⟨rv,a,tt,some dx,rfl,I3.qK _ _ lk,(I3.hok a _ e1).1,⟨a,C,dx,fs,σ,_,rfl,I3.Mz e1 e2 e3,aH,.inl ⟨tt,(I3.hok a _ e1).1⟩,q3⟩⟩
end
section
variable {X:Cx}{pins:AAD}{σ:St}{H:Hp}{s:Shared}{M:Model}{A:Around}{E:AAB}
def MA {i:Nat}{Q:Bool->Shared->Prop}(I:Inv X pins σ H s) (hN:X.N.Nodup) (hi:X.N[i]? =some n) (v:V) (hs:σ[i]? =some (some v)) (hk:X.env.kindOf n=some .local)
  (h:∀s',Inv X pins (σ.set i none) H s'->Q true s'):wpAny M A (nsDel X.env.locals n) Q E s:=by
 obtain⟨m,hn,hl⟩:=id I.loc
 have hb:(m n).isSome=true:=by
  obtain⟨u,_,z⟩:=hl i n v hi hs (.inl hk)
  rcases z with⟨_,z⟩ | ⟨z,_⟩
  ·rw[z];rfl
  ·rcases z with z | z <;> (rw[hk] at z;cases z)
 refine wpAny_nsDel_keeps hn fun h' w hn' sb=>?_
 rw[hb]
 have Nv:∀b o,X.s₀.heap.get? b=some o->b≠X.env.locals:=fun b o q=>Ym (X7 (X5 q) I.ok.above)
 have CI:i < σ.length:=by rw[I.len];exact(Ye.mp hi).1
 refine h _ ⟨I.ok,I.os,I.bare,⟨fun b o q z hb hx=>(sb.2 b (Nv b o q)).trans (I.base.keep b o q z hb hx),fun b o q z hb hx=>?_,I.base.free,fun b o q hx=>?_,I.base.tups,I.base.qZ,I.base.rX⟩,⟨_,hn',fun j y v' e1 e2 e3=>?_⟩,fun y c q=>?_,I.free,I.iO,fun p hp=>?_,fun b o q=>?_,by simpa using I.len⟩
 ·obtain⟨sl,r⟩:=I.base.slot b o q z hb hx
  exact⟨sl,(sb.2 b (Nv b o q)).trans r⟩
 ·obtain⟨o',r⟩:=I.base.there b o q hx
  exact⟨o',(sb.2 b (Nv b o q)).trans r⟩
 ·by_cases hj:j=i
  ·subst hj
   rw[Yw CI] at e2
   cases e2
  ·rw[Yl (Y8 hj)] at e2
   obtain⟨u,r,q⟩:=hl j y v' e1 e2 e3
   refine⟨u,r,?_⟩
   rcases q with⟨k,q⟩ | ⟨k,c,q,z⟩
   ·have:y≠n:=fun z=>hj (rZ hN e1 (z▸hi))
    exact .inl ⟨k,by simp[this,q]⟩
   ·exact .inr ⟨k,c,q,z.sameBut sb (I.HP y c q)⟩
 ·obtain⟨u,z⟩:=I.cell y c q
  exact⟨u,z.sameBut sb (I.HP y c q)⟩
 ·obtain⟨q,z,ne,nf,d⟩:=I.pin p hp
  exact⟨(sb.2 p.1 ne).trans q,z,ne,nf,d⟩
 ·refine(I.hok b o q).stay (fun c u hc z=>(sb.2 c fun z'=>?_).trans z) (fun _ z=>z) fun _ _ z=>z
  rcases hc with r | r
  ·rw[<-r,z',I.free] at q;cases q
  ·rw[z',I.free] at r;cases r
def rO {i:Nat}{Q:Unit->Shared->Prop}(I:Inv X pins σ H s) (hN:X.N.Nodup) (hi:X.N[i]? =some n) (hk:X.env.kindOf n=some .local) (h:∀s',Inv X pins (σ.set i none) H s'->Q () s'):
  wpAny M A (do bindName X.env n .none;unbindBehindTheSuite X.env n pos) Q E s:=by
 have hp:(X.env.scope.kind == .class || (X.env.scope.kind == .module && X.env.locals != X.env.globals))=false:=by rw[I.ok.kind];rfl
 have CI:i < σ.length:=by rw[I.len];exact(Ye.mp hi).1
 refine XY (wpAny_bindName (lE (v:=.cz) I hN hi (.inl hk) rfl (fun s1 I1=>?_) (.inr hk)))
 unfold unbindBehindTheSuite
 refine wpAny_onRaise ?_
 unfold unbindName
 refine XY (wpAny_point (XY ?_))
 unfold deleteName
 simp only[hk,hp]
 rw[if_neg (by decide)]
 refine XY (MA I1 hN hi .cz (Yw CI) hk fun s2 I2=>?_)
 rw[List.set_set] at I2
 simp only[if_true,aaN,aas,aal]
 exact XZ (wpAny_point (h _ (I2.tok _)))
def Inv.ch {h':Heap}{e C dx:Addr}{fs:List (Str×V)}(I:Inv X pins σ H s) (ch:Ch (frs X.stack) e e s.heap h') (he:H e=some (.nu C dx fs)) (hF:∃oe vs,h'.get? e=some oe/\oe.cls= .ref C/\oe.dict=some dx/\oe.data= .fields vs):Inv X pins σ H {s with heap:=h'}:=by
 have ne:∀b,H b=none->b≠e:=fun b q z=>by rw[z,he] at q;cases q
 have hok:kr X.prog X.w H h':=fun a o q=>by
  have kp:∀b u v,H b=some v->b≠e->s.heap.get? b=some u->h'.get? b=some u:=fun b u v hb hne z=>ch.keep b u (fun m=>by rw[I.kC b m] at hb;cases hb) hne hne z
  by_cases ha:a=e
  ·subst ha
   rw[he] at q
   cases q
   obtain⟨d,z,n1,_,mA,⟨od,es,ep,e2,c⟩,r⟩:=(show c7 X.prog X.w H s.heap a (.nu C dx fs) from I.hok a _ he)
   exact⟨d,z,n1,hF,mA,⟨od,es,ep,kp dx _ _ d n1 e2,c⟩,r⟩
  ·refine(I.hok a o q).stay (fun b u hb z=>?_) (fun _ z=>z) fun _ _ z=>z
   rcases hb with r | r
   ·rw[r] at z ⊢;exact kp a u o q ha z
   ·exact kp b u _ r (fun m=>by rw[m,he] at r;cases r) z
 refine I.call (g':=s.gens) (d':=s.drawn) (t':=s.toks) (ch:=[]) ⟨fun b o q z hb _=>ch.keep b o hb (ne b z) (ne b z) q,fun b o q z hb _=>ch.slot b o hb q,fun _ _ _ z _=>z,fun b o q _=>?_,fun _ _ z=>z,fun _ _ _ z=>z,fun b ps z=>⟨#[],by rw[z];simp⟩⟩ hok I.bare fun b z=>absurd z (by simp)
 by_cases hb:b=e
 ·rw[hb];obtain⟨oe,_,z,_⟩:=hF;exact⟨oe,z⟩
 ·by_cases hm:b∈frs X.stack
  ·obtain⟨sl,z⟩:=ch.slot b o hm q;exact⟨_,z⟩
  ·exact⟨o,ch.keep b o hm hb hb q⟩
def Inv.UA {h':Heap}{e dx T:Addr}{fs:List (Str×V)}{oT:Obj}{tt:AAH}(I:Inv X pins σ H s) (kp:∀b o,b≠T->s.heap.get? b=some o->h'.get? b=some o) (he:H e=some (.nu C dx fs)) (hT:H T=none) (hz:X.s₀.heap.objs.size<=T) (hp:∀p∈X.pn++pins,p.1≠T) (gT:s.heap.get? T=some oT) (dT:oT.data= .fields tt) (Uv:∃o,h'.get? T=some o):Inv X pins σ H {s with heap:=h'}:=by
 have nh:∀b v,H b=some v->b≠T:=fun b v q z=>by rw[z,hT] at q;cases q
 have hok:kr X.prog X.w H h':=fun a o q=>(I.hok a o q).stay (fun b u hb z=>kp b u (by
  rcases hb with r | r
  ·rw[r];exact nh a o q
  ·exact nh b _ r) z) (fun _ z=>z) fun _ _ z=>z
 refine I.call (g':=s.gens) (d':=s.drawn) (t':=s.toks) (ch:=[T]) ⟨fun b o q _ _ hx=>kp b o (fun z=>hx (by simp[z])) q,fun b o q _ _ hx=>⟨o.slots,kp b o (fun z=>hx (by simp[z])) q⟩,fun _ _ _ z _=>z,fun b o q hx=>⟨o,kp b o (fun z=>hx (by simp[z])) q⟩,fun _ _ z=>z,fun _ _ _ z=>z,fun b ps z=>⟨#[],by rw[z];simp⟩⟩ hok I.bare fun b hb=>?_
 obtain rfl:b=T:=by simpa using hb
 refine⟨.inr hz,fun z=>?_,fun x c q z=>?_,hp⟩
 ·obtain⟨m,⟨o,es,ep,g,d,_⟩,_⟩:=I.loc
  rw[<-z,gT] at g
  cases g
  rw[dT] at d
  cases d
 ·obtain⟨v,o,g,d⟩:=I.cell x c q
  rw[z,gT] at g
  cases g
  rw[dT] at d
  cases d
end
noncomputable def Cx.hand (X:Cx) (e:Addr):Cx:={X with A:=X.A.mark (some (.ref e)),calm:=false}
section
variable {X:Cx}{pins:AAD}{σ:St}{H:Hp}{s:Shared}{e:Addr}
def Inv.hand (I:Inv X pins σ H s) (e:Addr):Inv (X.hand e) pins σ H s:=
 ⟨⟨I.ok.mod,I.ok.kind,I.ok.glob,I.ok.blt,I.ok.above,I.ok.inj,I.ok.has,I.ok.Km,(fun z=>by cases z),I.ok.frames,I.ok.stk,I.ok.Nu,I.ok.bs,I.ok.BA,I.ok.wA,I.ok.yj,I.ok.nM,I.ok.Hz⟩,I.os,I.bare,I.base,I.loc,I.cell,I.free,I.iO,I.pin,I.hok,I.len⟩
def Inv.xx (I:Inv (X.hand e) pins σ H s) (ok:X.Ok):Inv X pins σ H s:=⟨ok,I.os,I.bare,I.base,I.loc,I.cell,I.free,I.iO,I.pin,I.hok,I.len⟩
end
def tR (K:AAA) (C:Addr) (bm:AAI):Prop:=∃nm q N bs hdct sn sub ab col dd k0 k1 k2 k3 k5 newId,K.lookup C=some (excClassObj nm q C N bs bm hdct sn sub ab col dd k0 k1 k2 k3 k5 newId)
def F9 {M:Model}{A:Around}{s:Shared}{e C0:Addr}{Js:AAI}{Q:Bool->Shared->Prop}(X:K.In s.heap) (hC:tR K C bm) (h0:tR K C0 Js) (he:s.heap.get? e=some oe) (hc:oe.cls= .ref C)
  (hb:Js.contains (.type "BaseException")=true) (hin:(Value.ref C :: bm).contains (.ref C0)=true) (h:Q true s):wpAny M A (excMatches (.ref e) (.ref C0)) Q E s:=by
 obtain⟨nm,q,N,bs,hdct,sn,sub,ab,col,dd,k0,k1,k2,k3,k5,ni,lC⟩:=hC
 obtain⟨nm',q',N',bs',VL,sn',sub',XN,col',KD,j0,j1,j2,j3,j5,XO,l0⟩:=h0
 obtain⟨hp,g,d,tk,os⟩:=s
 have gC:hp.get? C=some _:=X _ _ lC
 have g0:hp.get? C0=some _:=X _ _ l0
 have Uu:(Value.ref C0 :: Js).contains (.type "BaseException")=true:=by rw[List.contains_cons,hb,Bool.or_true]
 have hnt:=tc_notTuple
 unfold excMatches
 repeat (first | (with_reducible refine Y9 he ?_;rw[hc]) | with_reducible refine Y9 g0 ?_ | (with_reducible refine ZF g0 ?_;rw[Uu]) | (with_reducible refine ZF gC ?_;rw[hin]) | wp_step)
 exact h
section
variable {X:Cx}{body suite:List Stmt}{b0:Stmt}{x n:Str}{np hpos pos:Pos}{tx:TX}{ts:Addr->TS}{i:Nat}{C0:Addr}{Js:AAI}
def MB (hx:X.xe=fun _ _=>False) (hst:X.stack=X.env :: X.outer) (hfr:X.env.frame=some X.env.locals) (hN:X.N.Nodup) (hi:X.N[i]? =some n) (hk:X.env.kindOf n=some .local) (hg:Gl X x) (hm:X.mg x=some (.ref C0)) (h0:tR X.K C0 Js) (hb0:Js.contains (.type "BaseException")=true)
  (hb:A3 X body tx) (hs:∀a,wC (X.hand a) (b0 :: suite) (ts a)) (hdb:(x == ("__debug__":Str))=false:=by decide):PS X (.Try body [.ExceptHandler (some (.Name x np)) (some n) (b0 :: suite) hpos] [] [] pos)
  fun D σ H=>tx σ H fun σ1 a H1=>∃C dx fs bm,H1 a=some (.nu C dx fs)/\tR X.K C bm/\(Value.ref C :: bm).contains (.ref C0)=true/\
   ts a {nx:=fun σ2 H2=>D.nx (σ2.set i none) H2,rt:=D.rt,bk:=fun σ2 H2=>D.bk (σ2.set i none) H2,ct:=fun σ2 H2=>D.ct (σ2.set i none) H2} (σ1.set i (some (.ref a))) H1:=by
 intro pins s σ H D I h
 refine wpAny_Try_except (Yd (hb pins s σ H _ I h) (fun _ _ z=>z.elim) fun ev s1 UB=>?_)
 obtain⟨e,C,dx,fs,σ1,H1,rfl,I1,at_,fl,C',XR,fs',bm,e1,hC,hin,q⟩:=UB
 rw[at_] at e1
 cases e1
 have fr:X.A.frames=some (X.env :: X.outer):=by rw[I1.ok.frames,hst]
 have st:=I1.stack
 rw[hst] at st
 have key:∀h2 T,Inv X pins σ1 H1 {s1 with heap:=h2}->(∀h3:Heap,h3.objs.size=h2.objs.size->(∀b o,b≠T->h2.get? b=some o->h3.get? b=some o)->Fl h3 e C (some dx) T .none->Inv X pins σ1 H1 {s1 with heap:=h3})->Fl h2 e C (some dx) T .none->
   wpAny (model X.prog X.w) X.A (handleBy (.ref e) X.env [.ExceptHandler (some (.Name x np)) (some n) (b0 :: suite) hpos]) (SP X pins D) X.xe {s1 with heap:=h2}:=by
  intro h2 T I2 Xj hF
  refine wpAny_handleBy_cons (codeAny_handlers_test ?_) (by intro q;cases q)
  refine kD (X:=X.hand e) (I2.hand e) hg hm ?_ hdb
  obtain⟨oe,vs,ho,hc,_,_⟩:=hF.obj
  refine F9 I2.qK hC h0 ho hc hb0 hin ?_
  refine codeAny_handlers_suite_as ?_
  refine kP (s:={s1 with heap:=h2}) hF fun h3 sz kp P9=>?_
  have I3:=Xj h3 sz kp P9
  refine lE (v:=.ref e) I3 hN hi (.inl hk) rfl (fun s4 I4=>?_) (.inr hk)
  refine Yd (hs e pins s4 _ H1 _ (I4.hand e) q) (fun f s5 z=>?_) fun ev s5 z=>?_
  ·cases f with
   | next=>obtain⟨UC,H5,I5,z⟩:=z;exact rO (I5.xx I.ok) hN hi hk fun s6 I6=>⟨_,H5,I6,z⟩
   | brk=>obtain⟨UC,H5,I5,z⟩:=z;exact rO (I5.xx I.ok) hN hi hk fun s6 I6=>⟨_,H5,I6,z⟩
   | cont=>obtain⟨UC,H5,I5,z⟩:=z;exact rO (I5.xx I.ok) hN hi hk fun s6 I6=>⟨_,H5,I6,z⟩
   | ret u=>obtain⟨v,UC,H5,I5,rv,z⟩:=z;exact rO (I5.xx I.ok) hN hi hk fun s6 I6=>⟨v,_,H5,I6,rv,z⟩
  ·exact(show False from by have:X.xe ev s5:=z;rw[hx] at this;exact this).elim
 have Ga:∀h2 T,s1.heap.objs.size<=T->Ch (frs X.stack) e e s1.heap h2->Fl h2 e C (some dx) T .none->
   wpAny (model X.prog X.w) X.A (handleBy (.ref e) X.env [.ExceptHandler (some (.Name x np)) (some n) (b0 :: suite) hpos]) (SP X pins D) X.xe {s1 with heap:=h2}:=fun h2 T hT ch hF=>
  key h2 T (I1.ch ch at_ hF.obj) (fun h3 sz kp P9=>I1.ch (ch.land hT sz kp) at_ P9.obj) hF
 rcases fl with⟨t,ho⟩ | ⟨T,f1,hf,hF,nt,hz,hp⟩
 ·refine tL fr st hfr ho fun h1 T hT ch hF=>kP (s:={s1 with heap:=h1}) hF fun h2 sz kp rm=>?_
  exact Ga h2 T hT (by rw[hst];exact ch.land hT sz kp) rm
 ·rcases hf with rfl | rfl
  ·refine tM fr st hfr hF fun h1 T hT ch hF=>kP (s:={s1 with heap:=h1}) hF fun h2 sz kp rm=>?_
   exact Ga h2 T hT (by rw[hst];exact ch.land hT sz kp) rm
  ·obtain⟨_,_,oT,tt,_,_,_,_,_,_,gT,dT,_⟩:=id hF
   refine tN hfr hF (kP hF fun h2 sz kp rm=>?_)
   have tT:∀{h:Heap},Fl h e C (some dx) T .none->∃o,h.get? T=some o:=fun {h} z=>by obtain⟨_,_,o,_,_,_,_,_,_,_,g,_,_⟩:=z;exact⟨o,g⟩
   exact key h2 T (I1.UA kp at_ nt hz hp gT dT (tT rm)) (fun h3 XS Xk P9=>I1.UA (fun b o hb z=>Xk b o hb (kp b o hb z)) at_ nt hz hp gT dT (tT P9)) rm
def Jt {h0:ExceptHandler}{hs:List ExceptHandler}{tb:TS}(hx:X.xe=fun _ _=>False) (hb:wC X body tb):PS X (.Try body (h0 :: hs) [] [] pos) tb:=fun pins s σ H D I h=>
 wpAny_Try_except (Yd (hb pins s σ H D I h) (fun f s' z=>by cases f <;> first | exact Z9 z | exact z) fun ev s' z=>by rw[hx] at z;exact z.elim)
end
abbrev XV:=Addr×List (Str×D)
abbrev GX:=SS->Option (XV×SS)
inductive tX (K:AAA) (B:Base) (g:GX) (σ:St) (H:Hp) (Q:XQ):Prop
 | mk (S:SS) (F:Hp) (r:XV) (S':SS) (R:Rel K B S σ F H) (hg:g S=some (r,S')) (q:∀σ' a F' H',Rel K B S' σ' F' H'->(∀b o,F b=some o->F' b=some o)->m8 F' (.ref a) r.1 r.2->Q σ' a H')
inductive VM (K:AAA) (B:Base) (g:GX) (σ:St) (H:Hp) (Q:XQ):Prop
 | mk (S:SS) (F:Hp) (r:XV) (S':SS) (R:Rel K B S σ F H) (hg:g S=some (r,S')) (q:∀a F' H',Rel K B S' σ F' H'->Step S S' σ F H F' H'->m8 F' (.ref a) r.1 r.2->Q σ a H')
def Mv.imp {e:Expr}{t t':TX}(h:Mv X e t) (k:∀σ H Q,t' σ H Q->t σ H Q):Mv X e t':=fun pins s σ H Q I q=>h pins s σ H Q I (k σ H Q q)
def Mw.imp {e:Stmt}{t t':TX}(h:Mw X e t) (k:∀σ H Q,t' σ H Q->t σ H Q):Mw X e t':=fun pins s σ H Q I q=>h pins s σ H Q I (k σ H Q q)
structure DJ (X:Cx) (e:Expr) (g:GX):Prop where
 h:∀B,Mv X e (VM X.K B g)
structure HJ (X:Cx) (st:Stmt) (g:GX):Prop where
 h:∀B,Mw X st (tX X.K B g)
structure vN (X:Cx) (st:List Stmt) (g:GX):Prop where
 h:∀B,A3 X st (tX X.K B g)
abbrev FX:=List U->Option (XV×List MO)
def Rq (K:AAA) (n:Nat) (f:FX):Sp:=fun vs H _ E=>vs.length=n/\∃F us r outs,Sub F H/\Paired (Dh K F H) vs us/\(addrs vs us).Nodup/\f us=some (r,outs)/\∀a F' H',Post F H F' H' (addrs vs us) outs->m8 F' (.ref a) r.1 r.2->E (.ref a) (some a) H'
def tU (n:Nat) (g:GX):FX:=fun us=>(g (us.map some++List.replicate (n - us.length) none)).bind fun o=>(aL us o.2).map fun os=>(o.1,os)
section
variable {P:Program}{w:World}{K:AAA}{mg:AAC}{base:Heap}
def Uy {x qual:Str}{st:Stmt}{f:Addr}{fd:FuncData}{N ps:List Str}{k:Nat}{fx:FX}{g:GX}(F:C3 K x qual st f fd) (Sc:bF N ps (aF st))
  (hb:∀(cdv:Value) (A:Around) (outer:List Env) (s:Shared) (H:Hp) (E:XK),dN k (A.deeper (envOfC qual (aF st) s.heap.objs.size f cdv))->vN (pW uI P w K mg base N qual (aF st) f cdv A outer s H E).HA (dD st) g)
  (hf:∀us r,fx us=some r->tU N.length g us=some r):gU P w K mg base (Cj P w) (k+1) f fd ps (Rq K ps.length fx):=by
 refine F.Uy Sc (fun vs H Q E h=>h.1) fun cdv A outer s H vs Q E hr h=>?_
 obtain⟨hlen,F0,us,r,outs,sb,ar,nd,hfm,q⟩:=h
 have hrun:=hf us (r,outs) hfm
 refine⟨_,(hb cdv A outer s H E hr).h ⟨lent vs us,F0,H⟩,?_⟩
 have R0:=j7 sb ar nd N rfl
 obtain⟨⟨rr,S'⟩,ho,hrun⟩:=ah hrun
 obtain⟨os,h1,h2⟩:=ao hrun
 cases h2
 exact⟨_,F0,_,S',R0,ho,fun σ' a F' H' R' le xr=>q a F' H' (post_of ar S' σ' F' H' outs R' h1) xr⟩
end
section
variable {X:Cx}
noncomputable def Gb (ga:GX) (g:GS) (gb:GX):GX:=fun S=>match ga S with
 | some r=>some r
 | none=>match g S with
  | some (.nx S1)=>gb S1
  | _=>none
def MC {ga gb:GX}(hx:X.xe=fun _ _=>False) (ha:HJ X a ga) (h:JS X a g) (hb:vN X r gb):vN X (a :: r) (Gb ga g gb):=⟨fun B pins s σ H Q I hw=>by
 obtain⟨S,F,rr,S',R,hg,q⟩:=hw
 unfold Gb at hg
 cases e:ga S with
 | some v=>
  rw[e] at hg
  cases hg
  exact vM (ha.h B) pins s σ H Q I ⟨S,F,_,S',R,e,q⟩
 | none=>
  rw[e] at hg
  dsimp only at hg
  split at hg
  ·rename_i S1 e2
   refine Ck hx (h.h B) (hb.h B) pins s σ H Q I ⟨S,F,_,R,e2,fun σ1 F1 H1 R1 le=>?_⟩
   exact⟨S1,F1,rr,S',R1,hg,fun σ' a F' H' R' le' xr=>q σ' a F' H' R' (fun b o z=>le' b o (le b o z)) xr⟩
  ·cases hg⟩
noncomputable def Gd (g:GS) (gb:GX):GX:=fun S=>match g S with
 | some (.nx S1)=>gb S1
 | _=>none
def Qa {gb:GX}(hx:X.xe=fun _ _=>False) (h:JS X a g) (hb:vN X r gb):vN X (a :: r) (Gd g gb):=⟨fun B pins s σ H Q I hw=>by
 obtain⟨S,F,rr,S',R,hg,q⟩:=hw
 unfold Gd at hg
 split at hg
 ·rename_i S1 e2
  refine Ck hx (h.h B) (hb.h B) pins s σ H Q I ⟨S,F,_,R,e2,fun σ1 F1 H1 R1 le=>?_⟩
  exact⟨S1,F1,rr,S',R1,hg,fun σ' a F' H' R' le' xr=>q σ' a F' H' R' (fun b o z=>le' b o (le b o z)) xr⟩
 ·cases hg⟩
def l8 {g:GX}(ha:HJ X a g):vN X (a :: r) g:=⟨fun B=>vM (ha.h B)⟩
end
section
variable {X:Cx}{e:Expr}{es:List Expr}{gx hx':GX}{pos pos':Pos}
def tX.ofS {B:Base}{g:GX}{Q:XQ}(h:tX K B g σ H Q):VM K B g σ H Q:=by
 obtain⟨S,F,r,S',R,hg,q⟩:=h
 exact⟨S,F,r,S',R,hg,fun a F' H' R' st xr=>q σ a F' H' R' st.ext.le xr⟩
def MD (h:DJ X e gx) (hs:swapsWith e (some (.Name x pos')) pos.line X.env=pure false:=by rfl):HJ X (.Assign [.Name x pos'] e pos) gx:=⟨fun B pins s σ H Q I hw=>wpAny_Assign_Name (Yd (h.h B pins s σ H Q I hw.ofS) (fun _ _ z=>z.elim) fun _ _ z=>z) hs⟩
noncomputable def Ju (q:GT) (a b:GX):GX:=fun S=>(q S).bind fun p=>if p.1 then a p.2 else b p.2
noncomputable def Qc:GX:=fun _=>none
def A5 {st:List Stmt}:vN X st Qc:=⟨fun B pins s σ H Q I hw=>by obtain⟨_,_,_,_,_,hg,_⟩:=hw;cases hg⟩
def Qd {c:Expr}{q1:GT}{g1 g2:GX}(hx:X.xe=fun _ _=>False) (hc:JT X c q1) (ha:vN X b1 g1) (hb:vN X b2 g2):HJ X (.If c b1 b2 pos) (Ju q1 g1 g2):=⟨fun B pins s σ H Q I hw=>by
 obtain⟨S,F,r,S',R,hg,q⟩:=hw
 obtain⟨⟨d,S1⟩,h1,hg⟩:=ah hg
 refine wpAny_If (Yd ((hc.h B).wait hx (Q:=fun b H1=>∃F1,b=d/\Rel X.K B S1 σ F1 H1/\Step S S1 σ F H F1 H1) I ⟨S,F,d,S1,R,h1,fun F1 H1 R1 st1=>⟨F1,rfl,R1,st1⟩⟩) (fun b s1 hh=>?_) fun _ _ z=>z)
 obtain⟨H1,I1,F1,rfl,R1,st1⟩:=hh
 cases b with
 | true=>exact ha.h B pins s1 σ H1 Q I1 ⟨S1,F1,r,S',R1,hg,fun σ' a F' H' R' le xr=>q σ' a F' H' R' (fun b o z=>le b o (st1.ext.le b o z)) xr⟩
 | false=>exact hb.h B pins s1 σ H1 Q I1 ⟨S1,F1,r,S',R1,hg,fun σ' a F' H' R' le xr=>q σ' a F' H' R' (fun b o z=>le b o (st1.ext.le b o z)) xr⟩⟩
def zz (f:FX) (gu:GU):GX:=fun S=>(gu S).bind fun p=>
 if(slotsOf p.1).Nodup/\b6 p.1<=1 then(b7 p.2 p.1).bind fun us=>(f us).bind fun r=>(wb p.1 r.2 p.2).map fun S2=>(r.1,S2) else none
def Jv {n:Nat}{fa:Addr}{f:FX}{p:Pos}{gu:GU}(F:gU X.prog X.w X.K X.mg X.base (Cj X.prog X.w) k fa fd ps (Rq X.K n f)) (hx:X.xe=fun _ _=>False) (hr:dN k X.A) (hg:Gl X x) (hm:X.mg x=some (.ref fa)) (hk:PySem.W.keepIn X.K (.ref fa)=true) (hb:Binds X.K fd ps []) (ha:JU X (e :: es) gu) (hn:(e :: es).length=n)
  (hdb:(x == ("__debug__":Str))=false:=by decide) (he:starEach (e :: es) X.env=(false,eval e X.env) :: starEach es X.env:=by rfl) (hpl:(backTo pos (starEach es X.env)).any (·.1)=false:=by rfl):
  DJ X (.Call (.Name x p) (e :: es) [] pos) (zz f gu):=⟨fun B=>(Jq F hx hr hg hm hk hb .nil (ha.h B) hdb he hpl).imp fun σ H Q hh=>by
 obtain⟨S,F0,r,S',R,hg,q⟩:=hh
 obtain⟨⟨us,S1⟩,h1,hg⟩:=ah hg
 dsimp only at hg
 split at hg
 ·rename_i hc
  obtain⟨ws,h2,hg⟩:=ah hg
  obtain⟨⟨r',outs⟩,h3,hg⟩:=ah hg
  obtain⟨S2,h4,hg⟩:=ao hg
  cases hg
  refine⟨S,F0,us,S1,R,h1,fun vs F1 H1 R1 st1 rr=>?_⟩
  show Rq X.K n f (vs++[]) H1 _ _
  rw[Zr]
  have hlen:vs.length=n:=by rw[rr.length,ha.len _ _ _ h1];exact hn
  refine⟨hlen,F1,ws,_,outs,R1.sub,mW R1 rr h2,cN R1 rr h2 hc.1 hc.2,h3,fun a F2 H2 po xr=>⟨a,rfl,?_⟩⟩
  obtain⟨R2,st2,mu⟩:=gW R1 st1 rr h2 h4 hc.1 po
  exact q a F2 H2 R2 st2 xr
 ·cases hg⟩
noncomputable def qo (C:Addr) (ns:List Str) (ga:GA):GX:=fun S=>(ga S).bind fun p=>if p.1.length=ns.length then some ((C,ns.zip p.1),p.2) else none
theorem tV {F:Hp}:∀{ns:List Str}{vs:List V}{ds:List D},bz F vs ds->Paired (fC F) (ns.zip vs) (ns.zip ds)
 | [],_,_,_=>.nil
 | _ :: _,_,_,.nil=>.nil
 | n :: ns,_,_,.cons r rs=>.cons ⟨rfl,r⟩ (tV rs)
def Ge {B0:String}{kI:Nat}{KZ:FuncData}{HH:List Str}{Jr:Sp}{np cpos:Pos}{ns:List Str}{ga:GA}(M:Rp X.K C fI bm bmB B0 newId initId) (FI:gU X.prog X.w X.K X.mg X.base uI kI fI KZ HH Jr)
  (hI:∀(a tt:Addr) (vs:List V) (H:Hp) (Q:VK),vs.length=ns.length->H a=none->(∀dx H2,H dx=none->dx≠a->H2 a=some (yc a C tt (some dx))->H2 dx=some (.xd (ns.zip vs))->(∀b,b≠a->b≠dx->H2 b=H b)->Q .cz H2)->Jr (.ref a :: vs) (upd H a (yc a C tt none)) Q E0)
  (hx:X.xe=fun _ _=>False) (hc:X.calm=true) (hl:ns.length<=1000) (hr:dN (kI+1) X.A) (hg:Gl X x) (hm:X.mg x=some (.ref C)) (hk:PySem.W.keepIn X.K (.ref C)=true) (hb:Binds X.K KZ HH []) (ha:JA X (e :: es) ga)
  (hdb:(x == ("__debug__":Str))=false:=by decide) (he:starEach (e :: es) X.env=(false,eval e X.env) :: starEach es X.env:=by rfl) (hpl:(backTo cpos (starEach es X.env)).any (·.1)=false:=by rfl):
  HJ X (.Raise (some (.Call (.Name x np) (e :: es) [] cpos)) none pos) (qo C ns ga):=⟨fun B=>(F8 M FI hx hc hr hg hm hk hb (ha.h B) hdb he hpl).imp fun σ H Q hh=>by
 obtain⟨S,F,r,S',R,hg,q⟩:=hh
 obtain⟨⟨ds,S1⟩,h1,hg⟩:=ah hg
 dsimp only at hg
 split at hg
 ·rename_i hlen
  cases hg
  refine⟨S,F,ds,_,R,h1,fun vs F1 H1 R1 st1 rs=>⟨?_,fun a tt hn=>hI a tt vs H1 _ (rs.length.trans hlen) hn fun dx H2 hd ne e1 e2 HG=>⟨rfl,dx,ns.zip vs,e1,e2,?_,?_⟩⟩⟩
  ·rw[rs.length,hlen];exact Yc hl (by decide)
  ·rw[List.length_zip];exact Yc (Nat.min_le_left _ _) hl
  ·have fa:F1 a=none:=R1.sub.fresh hn
   have fd':F1 dx=none:=R1.sub.fresh hd
   have hH:∀b o,H1 b=some o->b≠a/\b≠dx:=fun b o z=>⟨(fun y=>by rw[y,hn] at z;cases z),(fun y=>by rw[y,hd] at z;cases z)⟩
   have hF:∀b o,F1 b=some o->b≠a/\b≠dx:=fun b o z=>⟨(fun y=>by rw[y,fa] at z;cases z),(fun y=>by rw[y,fd'] at z;cases z)⟩
   have le:∀b o,F1 b=some o->upd (upd F1 dx (.own a)) a (.nu C dx (ns.zip vs)) b=some o:=fun b o z=>by rw[aE (hF b o z).1,aE (hF b o z).2];exact z
   have nw:fH F1 H1 (upd (upd F1 dx (.own a)) a (.nu C dx (ns.zip vs))) (upd (upd H2 dx (.own a)) a (.nu C dx (ns.zip vs))):=
    ⟨le,fun b o z=>by rw[aE (hH b o z).1,aE (hH b o z).2,HG b (hH b o z).1 (hH b o z).2];exact z,fun b o z f=>by rw[aE (hH b o z).1,aE (hH b o z).2];exact f⟩
   have sb:Sub (upd (upd F1 dx (.own a)) a (.nu C dx (ns.zip vs))) (upd (upd H2 dx (.own a)) a (.nu C dx (ns.zip vs))):=fun b o z=>by
    by_cases h1:b=a
    ·rw[h1,aH] at z ⊢;exact z
    ·rw[aE h1] at z ⊢
     by_cases h2:b=dx
     ·rw[h2,aH] at z ⊢;exact z
     ·rw[aE h2] at z ⊢
      rw[HG b h1 h2]
      exact R1.sub b o z
   exact q σ a _ _ (R1.new nw sb) (fun b o z=>le b o (st1.ext.le b o z)) ⟨a,dx,ns.zip vs,rfl,aH,by rw[aE ne,aH],tV (rs.le le)⟩
 ·cases hg⟩
end
section
variable {K:AAA}{B:Base}{S:SS}{σ:St}{F H:Hp}{i:Nat}
def Rel.clear (R:Rel K B S σ F H) (hi:∀a,B.P[i]?≠some (some a)):Rel K B (S.set i none) (σ.set i none) F H:=by
 have back:∀(j:Nat) (u:U),(S.set i none)[j]? =some (some u)->i≠j/\S[j]? =some (some u):=fun j u h=>by
  rcases get_set h with⟨_,q,_⟩ | q
  ·cases q
  ·exact q
 have out:∀{j:Nat},i≠j->(σ.set i none)[j]? =σ[j]?:=fun ne=>Yl ne
 refine⟨R.sub,by rw[Y0,Y0];exact R.len,fun j u h=>?_,fun j k u w a h1 m1 h2 m2 v1 v2=>?_,fun j o a h v=>?_,fun j o a h v=>?_,fun j a h=>?_,R.ext⟩
 ·obtain⟨ne,h⟩:=back j u h
  rw[out ne];exact R.rep j u h
 ·obtain⟨n1,h1⟩:=back j u h1
  obtain⟨n2,h2⟩:=back k w h2
  rw[out n1] at v1
  rw[out n2] at v2
  exact R.Az j k u w a h1 m1 h2 m2 v1 v2
 ·obtain⟨ne,h⟩:=back j _ h
  rw[out ne] at v
  exact R.own j o a h v
 ·obtain⟨ne,h⟩:=back j _ h
  rw[out ne] at v
  exact R.bor j o a h v
 ·have ne:i≠j:=fun z=>hi a (by rw[z];exact h)
  obtain⟨h1,o,h2⟩:=R.par j a h
  exact⟨by rw[out ne];exact h1,o,by rw[Yl ne];exact h2⟩
end
section
variable {X:Cx}{e:Expr}{g:GE}{pos pos':Pos}{i:Nat}{x:Str}
def Cm (i:Nat) (g:GE):GS:=fun S=>(g S).bind fun p=>match p.1 with
 | .x C k=>(jZ i (.x C k) p.2).map .nx
 | _=>none
def Jw (hN:X.N.Nodup) (hi:X.N[i]? =some x) (hx:Loc X.env.scope x) (he:JE X e g) (hs:swapsWith e (some (.Name x pos')) pos.line X.env=pure false:=by rfl)
  (hf:X.fn x=true\/X.env.scope.names.lookup x=some .local:=by first | exact .inl rfl | exact .inr rfl | assumption):JS X (.Assign [.Name x pos'] e pos) (Cm i g):=
 ⟨fun B=>(Ep hN hi hx (he.h B) hs hf).imp fun D σ H h=>by
  obtain⟨S,F,o,R,h,k⟩:=h
  obtain⟨⟨u,S1⟩,h1,h⟩:=ah h
  refine⟨S,F,u,S1,R,h1,fun v F1 H1 R1 st1 r1=>?_⟩
  dsimp only at h
  split at h
  ·obtain⟨S3,h3,h⟩:=ao h
   subst h
   exact k _ F1 H1 (R1.put h3 r1) st1.ext.le
  ·cases h⟩
end
section
variable {X:Cx}{body suite:List Stmt}{b0:Stmt}{x n:Str}{np hpos pos:Pos}{i:Nat}{C0:Addr}{Js:AAI}{gb gs:GS}{gx:GX}
def Gf (i:Nat) (cl:List Addr) (gb:GS) (gx:GX) (gs:GS):GS:=fun S=>match gx S with
 | some (r,S1)=>if r.1∈cl then(jZ i (.x r.1 r.2) S1).bind fun S2=>(gs S2).bind fun o=>match o with
  | .nx S3=>some (.nx (S3.set i none))
  | .rt (.t d) S3=>some (.rt (.t d) (S3.set i none))
  | _=>none else none
 | none=>gb S
def ME (hx:X.xe=fun _ _=>False) (hst:X.stack=X.env :: X.outer) (hfr:X.env.frame=some X.env.locals) (hN:X.N.Nodup) (hi:X.N[i]? =some n) (hk:X.env.kindOf n=some .local) (hg:Gl X x) (hm:X.mg x=some (.ref C0)) (h0:tR X.K C0 Js) (hb0:Js.contains (.type "BaseException")=true)
  (hcl:∀C∈cl,∃bm,tR X.K C bm/\(Value.ref C :: bm).contains (.ref C0)=true) (hb:vN X body gx) (hb2:JB X body gb) (hs:∀a,JB (X.hand a) (b0 :: suite) gs) (hdb:(x == ("__debug__":Str))=false:=by decide):
  JS X (.Try body [.ExceptHandler (some (.Name x np)) (some n) (b0 :: suite) hpos] [] [] pos) (Gf i cl gb gx gs):=⟨fun B pins s σ H D I hw=>by
 obtain⟨S,F,o,R,hg',k⟩:=hw
 unfold Gf at hg'
 cases e:gx S with
 | none=>
  rw[e] at hg'
  exact Jt hx (hb2.h B) pins s σ H D I ⟨S,F,o,R,hg',k⟩
 | some r=>
  obtain⟨⟨C,kvs⟩,S1⟩:=r
  rw[e] at hg'
  dsimp only at hg'
  split at hg'
  ·rename_i hC
   obtain⟨S2,h2,hg'⟩:=ah hg'
   obtain⟨o3,h3,hg'⟩:=ah hg'
   obtain⟨bm,hO,hin⟩:=hcl C hC
   refine MB (ts:=fun a=>tO X.K B gs) hx hst hfr hN hi hk hg hm h0 hb0 (hb.h B) (fun a=>(hs a).h B) hdb pins s σ H D I ⟨S,F,(C,kvs),S1,R,e,fun σ1 a F1 H1 R1 VN xr=>?_⟩
   obtain⟨a',dx,fs,ea,fa,fd,pr⟩:=id xr
   cases ea
   have R2:Rel X.K B S2 (σ1.set i (some (.ref a))) F1 H1:=R1.put h2 xr
   refine⟨C,dx,fs,bm,R1.sub _ _ fa,hO,hin,S2,F1,o3,R2,h3,?_⟩
   have np:∀{S3:SS}{σ3:St}{F3 H3:Hp},Rel X.K B S3 σ3 F3 H3->∀c,B.P[i]?≠some (some c):=fun {S3 σ3 F3 H3} R3 c z=>by
    obtain⟨_,ob,q⟩:=R1.par i c z
    exact(vp h2).2.2 ob q
   cases o3 with
   | nx S3=>
    cases hg'
    exact fun σ3 F3 H3 R3 UD=>k (σ3.set i none) F3 H3 (R3.clear (np R3)) fun b o z=>UD b o (VN b o z)
   | bk S3=>cases hg'
   | ct S3=>cases hg'
   | rt u S3=>
    cases u with
    | t d=>
     cases hg'
     exact fun v σ3 F3 H3 R3 UD rr=>k v (σ3.set i none) F3 H3 (R3.clear (np R3)) (fun b o z=>UD b o (VN b o z)) rr
    | m d=>cases hg'
    | b d=>cases hg'
    | v d=>cases hg'
    | s d=>cases hg'
    | f d=>cases hg'
    | x c d=>cases hg'
  ·cases hg'⟩
end
section
variable {M:Model}{A:Around}{E:AAB}{s:Shared}{env:Env}{L e C T:Addr}{dx:Option Addr}{fl:Value}
def xy (hf:env.frame=some L) (hF:Fl s.heap e C dx T fl) (h:∀h',h'.objs.size=s.heap.objs.size->(∀b o,b≠T->s.heap.get? b=some o->h'.get? b=some o)->Fl h' e C dx T (rawInt L)->E (.ref e) {s with heap:=h'}):cameBackBy M A env E (.ref e) s:=by
 obtain⟨oe,vs,oT,ts,he,hc,hx,hd,h1,ne,hT,zq,h3⟩:=hF
 have hz:3 < ts.size:=(YJ.mp h3).1
 unfold cameBackBy
 refine XY (YG he hd h1 ?_)
 rw[if_neg (show ¬((Value.ref T == Value.none)=true) from by simp)]
 rw[hf]
 unfold setFlight
 refine XY (YG he hd h1 ?_)
 rw[if_pos (show(Value.ref T != Value.none)=true from by simp)]
 have other:∀b,b≠T->(s.heap.update T (Obj.mapFields (·.setIfInBounds 3 ((some L:Option Addr).elim Value.none fun f=>rawInt f)))).get? b=s.heap.get? b:=fun b hb=>YB _ _ (Y8 hb)
 refine Zx hT zq hz (h _ (Ze _ _ _) (fun b o hb q=>(other b hb).trans q) ⟨oe,vs,_,_,(other e (Y8 ne)).trans he,hc,hx,hd,h1,ne,YQ _ hT (Zg (YR zq _)),YR zq _,by simp[hz]⟩)
end
section
variable {X:Cx}{pins:AAD}{Q:XQ}
def Jx (hst:X.stack=X.env :: X.outer) (hfr:X.env.frame=some X.env.locals):PassesOwn (model X.prog X.w) X.A X.env (F6 X pins Q):=by
 intro ev s1 UB
 obtain⟨e,C,dx,fs,σ1,H1,rfl,I1,at_,fl,q⟩:=UB
 have fr:X.A.frames=some (X.env :: X.outer):=by rw[I1.ok.frames,hst]
 have st:=I1.stack
 rw[hst] at st
 have np:∀T,s1.heap.objs.size<=T->∀p∈X.pn++pins,p.1≠T:=fun T hT p hp z=>absurd (X5 (I1.pin p hp).1) (by rw[z];exact aaf.mpr hT)
 have Ga:∀h2 T,s1.heap.objs.size<=T->Ch (frs X.stack) e e s1.heap h2->Fl h2 e C (some dx) T (rawInt X.env.locals)->F6 X pins Q (.ref e) {s1 with heap:=h2}:=fun h2 T hT ch hF=>
  ⟨e,C,dx,fs,σ1,H1,rfl,I1.ch ch at_ hF.obj,at_,.inr ⟨T,_,.inr rfl,hF,I1.hok.fresh hT,Yc I1.sz hT,np T hT⟩,q⟩
 rcases fl with⟨t,ho⟩ | ⟨T,f1,hf,hF,nt,hz,hp⟩
 ·exact tL fr st hfr ho fun h1 T hT ch hF=>xy (s:={s1 with heap:=h1}) hfr hF fun h2 sz kp rm=>Ga h2 T hT (by rw[hst];exact ch.land hT sz kp) rm
 ·rcases hf with rfl | rfl
  ·exact tM fr st hfr hF fun h1 T hT ch hF=>xy (s:={s1 with heap:=h1}) hfr hF fun h2 sz kp rm=>Ga h2 T hT (by rw[hst];exact ch.land hT sz kp) rm
  ·obtain⟨_,_,oT,tt,_,_,_,_,_,_,gT,dT,_⟩:=id hF
   refine tN hfr hF (xy hfr hF fun h2 sz kp rm=>?_)
   have tT:∃o,h2.get? T=some o:=by obtain⟨_,_,o,_,_,_,_,_,_,_,g,_,_⟩:=id rm;exact⟨o,g⟩
   exact⟨e,C,dx,fs,σ1,H1,rfl,I1.UA kp at_ nt hz hp gT dT tT,at_,.inr ⟨T,_,.inr rfl,rm,nt,hz,hp⟩,q⟩
def F6.Qe {pl:AAD}{ev:Value}{s':Shared}(h:F6 X (pins++pl) Q ev s'):F6 X pins Q ev s':=by
 obtain⟨e,C,dx,fs,σ1,H1,rfl,I1,at_,fl,q⟩:=h
 refine⟨e,C,dx,fs,σ1,H1,rfl,I1.jd,at_,?_,q⟩
 rcases fl with z | ⟨T,f1,hf,hF,nt,hz,hp⟩
 ·exact .inl z
 ·exact .inr ⟨T,f1,hf,hF,nt,hz,fun p Ur=>hp p (by
   rcases YN.mp Ur with z | z
   ·exact YW _ z
   ·exact X8 _ (YW _ z))⟩
variable {tg:Expr}
noncomputable def Qg (wi:TI) (g:TG) (tb:TS) (tx:TX):TX:=fun σ H Q=>wi σ H fun J H1=>∃W:Nat->Nat->St->Hp->Prop,(∃m,W 0 m σ H1)/\∀i m σ H,W i m σ H->
 J.go i H/\((∃N:St->Hp->Prop,(∀σ' H',N σ' H'->∃m',m' < m/\W (i+1) m' σ' H')/\∀x H',J.HS i H x H'->g x σ H' fun σ2 H2=>tb {nx:=N,ct:=N,bk:=fun _ _=>False,rt:=fun _ _=>False} σ2 H2)\/
  ∀x H',J.HS i H x H'->g x σ H' fun σ2 H2=>tx σ2 H2 Q)
def MF {wi:TI}{g:TG}{tb:TS}{tx:TX}(hx:X.xe=fun _ _=>False) (hst:X.stack=X.env :: X.outer) (hfr:X.env.frame=some X.env.locals) (hc:X.calm=true) (hi:PI X tg iter wi) (hg:PG X tg g) (hb:wC X body tb) (Mu:A3 X body tx)
  (hs:∀x,foldedSetIterable iter X.env x=pure x:=by intro _;rfl):Mw X (.For tg iter body [] pos) (Qg wi g tb tx):=by
 intro pins s σ H Q I h
 have no:∀{E:AAB}{e:Value}{s':Shared},X.xe e s'->E e s':=fun {E e s'} z=>by rw[hx] at z;exact z.elim
 have hp:PassesOwn (model X.prog X.w) X.A X.env (F6 X pins Q):=Jx hst hfr
 refine wpAny_For (Yd (hi pins s σ H _ I h) (fun v s1 h1=>Yd h1 (fun itv s2 h2=>?_) fun _ _ z=>no z) fun _ _ z=>no z) hs
 obtain⟨it,fp,tn,J,H2,e,I2,T,st2,f2,W,⟨m0,w0⟩,turn⟩:=h2
 subst e
 have CM:∀{H':Hp},(∀b∈fp,H' b=none)->∀b∈fp,lg X pins H' b:=fun hn b hb=>⟨hn b hb,(f2 b hb).2⟩
 refine codeAny_forLoop_any (fun n s'=>∃i σ' H',Inv X pins σ' H' s'/\tn i s'.heap/\(∀b∈fp,H' b=none)/\W i n σ' H') ?_ m0 ⟨0,σ,H2,I2,st2,fun b hb=>(f2 b hb).1,w0⟩
 rintro n s3 ⟨i,σ3,H3,I3,st3,QF,w3⟩
 obtain⟨go,step⟩:=turn i n σ3 H3 w3
 refine YF hp (dj (T.item X rfl rfl rfl hc i pins s3 σ3 H3 (F6 X pins Q) I3 (CM QF) st3 go) fun r s4 hh=>?_)
 obtain⟨u,hr,h4⟩:=hh
 subst hr
 refine YF hp (dj h4 fun _ s5 hh=>?_)
 obtain⟨x,H5,I5,r5,y5,Lf,Sg⟩:=hh
 have QG:=I5.pinned (CM Sg) (T.obj _ _ Lf)
 rcases step with⟨N,hN,step⟩ | step
 ·refine YF hp (Yd (hg _ s5 σ3 H5 x u _ QG r5 (step x H5 y5)) (fun _ s6 hh=>?_) fun _ _ z=>no z)
  obtain⟨Oj,H6,I6,q6⟩:=hh
  refine YF hp (Yd (hb _ s6 Oj H6 _ I6 q6) (fun f s7 q7=>?_) fun _ _ z=>no z)
  have again:∀{uF:St}{H7:Hp},Inv X (pins++lG fp s5.heap) uF H7 s7->N uF H7->∃m,m < n/\∃i σ' H',Inv X pins σ' H' s7/\tn i s7.heap/\(∀b∈fp,H' b=none)/\W i m σ' H':=fun {uF H7} I7 n7=>by
   obtain⟨m',hm,w7⟩:=hN uF H7 n7
   refine⟨m',hm,i+1,uF,H7,I7.jd,T.keep _ _ _ Lf fun b hb o e=>(I7.pin (b,o) (X8 _ (X8 _ (dM hb e)))).1,fun b hb=>?_,w7⟩
   obtain⟨o,e,d⟩:=T.obj _ _ Lf b hb
   exact(I7.pin (b,o) (X8 _ (X8 _ (dM hb e)))).2.1
  cases f with
  | next=>obtain⟨uF,H7,I7,n7⟩:=q7;exact again I7 n7
  | cont=>obtain⟨uF,H7,I7,n7⟩:=q7;exact again I7 n7
  | brk=>obtain⟨uF,H7,I7,q7⟩:=q7;exact q7.elim
  | ret v=>obtain⟨x7,uF,H7,I7,r7,q7⟩:=q7;exact q7.elim
 ·refine YF hp (Yd (hg _ s5 σ3 H5 x u _ QG r5 (step x H5 y5)) (fun _ s6 hh=>?_) fun _ _ z=>no z)
  obtain⟨Oj,H6,I6,q6⟩:=hh
  exact YF hp (Yd (Mu _ s6 Oj H6 _ I6 q6) (fun _ _ z=>z.elim) fun _ _ z=>z.Qe)
end
noncomputable def nH (bd:GB) (gx:GX) (g:GS):List D->SS->Option (XV×SS)
 | [],_=>none
 | d :: ds,S=>(bd d S).bind fun S1=>match gx S1 with
  | some r=>some r
  | none=>(g S1).bind fun o=>match o with
   | .nx S2=>nH bd gx g ds S2
   | .ct S2=>nH bd gx g ds S2
   | _=>none
def zA (bd:GB) (gi:GI) (gx:GX) (g:GS):GX:=fun S=>(gi S).bind fun p=>nH bd gx g p.1 p.2
section
variable {X:Cx}{pos:Pos}
def Jy {tg:Expr}{s1:GS}{gx:GX}{bd:GB}{gi:GI}(hx:X.xe=fun _ _=>False) (hst:X.stack=X.env :: X.outer) (hfr:X.env.frame=some X.env.locals) (hc:X.calm=true) (hi:QT X tg iter gi) (hg:JG X tg bd) (hb:JB X stmts s1) (Mu:vN X stmts gx) (hs:∀x,foldedSetIterable iter X.env x=pure x:=by intro _;rfl):
  HJ X (.For tg iter stmts [] pos) (zA bd gi gx s1):=⟨fun B=>(MF hx hst hfr hc (hi.h B) (hg.h B) (hb.h B) (Mu.h B) hs).imp fun σ H Q hh=>by
 obtain⟨S,F,r,Sr,R,h,k⟩:=hh
 obtain⟨⟨ds,S1⟩,h1,h⟩:=ah h
 refine⟨S,F,ds,S1,R,h1,fun J F1 H1 R1 st1 w=>?_⟩
 refine⟨fun i m σ' H'=>∃S' F',Rel X.K B S' σ' F' H'/\(∀b o,F1 b=some o->F' b=some o)/\i<=ds.length/\m=ds.length - i/\nH bd gx s1 (ds.drop i) S'=some (r,Sr),⟨_,S1,F1,R1,fun _ _ z=>z,Y4 _,rfl,h⟩,?_⟩
 rintro i m σ' H' ⟨S',F',R',le,hl,rfl,cJ⟩
 have w':=w F' H' le R'.sub i
 by_cases hlt:i < ds.length
 ·have hd:ds[i]? =some ds[i]:=Yo hlt
  obtain⟨go,yl⟩:=w'.1 _ hd
  rw[YC hlt] at cJ
  obtain⟨S2,e2,cJ⟩:=ah cJ
  refine⟨go,?_⟩
  cases e:gx S2 with
  | some v=>
   rw[e] at cJ
   cases cJ
   refine .inr fun x H2 y=>?_
   obtain⟨F2,nw,Px,rx⟩:=yl x H2 y
   have R2:=R'.new nw Px
   exact⟨S',F2,_,S2,R2,rx,e2,fun σ3 R3=>⟨S2,F2,r,Sr,R3,e,fun AH a F4 H4 R4 uK xr=>k AH a F4 H4 R4 (fun b o z=>uK b o (nw.le b o (le b o (st1.ext.le b o z)))) xr⟩⟩
  | none=>
   rw[e] at cJ
   obtain⟨o2,e3,cJ⟩:=ah cJ
   refine .inl ⟨_,fun σ2 H2 n=>⟨ds.length - (i+1),by omega,n⟩,fun x H2 y=>?_⟩
   obtain⟨F2,nw,Px,rx⟩:=yl x H2 y
   have R2:=R'.new nw Px
   have le:∀b o,F1 b=some o->F2 b=some o:=fun b o z=>nw.le b o (le b o z)
   refine⟨S',F2,_,S2,R2,rx,e2,fun σ3 R3=>⟨S2,F2,o2,R3,e3,?_⟩⟩
   cases o2 with
   | nx S3=>exact fun AH F4 H4 R4 uK=>⟨S3,F4,R4,fun b o z=>uK b o (le b o z),hlt,rfl,cJ⟩
   | ct S3=>exact fun AH F4 H4 R4 uK=>⟨S3,F4,R4,fun b o z=>uK b o (le b o z),hlt,rfl,cJ⟩
   | bk S3=>cases cJ
   | rt u S3=>cases cJ
 ·have e:i=ds.length:=by omega
  subst e
  rw[Zm] at cJ
  cases cJ⟩
end
section
variable {X:Cx}{a b c e:Expr}{es:List Expr}{gx:GX}{pos p:Pos}
def Gg {q1:GT}{g1 g2:GX}(hx:X.xe=fun _ _=>False) (hc:JT X c q1) (ha:DJ X a g1) (hb:DJ X b g2):DJ X (.IfExp c a b pos) (Ju q1 g1 g2):=⟨fun B pins s σ H Q I hw=>by
 obtain⟨S,F,r,S',R,hg,q⟩:=hw
 obtain⟨⟨d,S1⟩,h1,hg⟩:=ah hg
 refine wpAny_IfExp (Yd ((hc.h B).wait hx (Q:=fun b H1=>∃F1,b=d/\Rel X.K B S1 σ F1 H1/\Step S S1 σ F H F1 H1) I ⟨S,F,d,S1,R,h1,fun F1 H1 R1 st1=>⟨F1,rfl,R1,st1⟩⟩) (fun b s1 hh=>?_) fun _ _ z=>z)
 obtain⟨H1,I1,F1,rfl,R1,st1⟩:=hh
 cases b with
 | true=>exact ha.h B pins s1 σ H1 Q I1 ⟨S1,F1,r,S',R1,hg,fun a F' H' R' st xr=>q a F' H' R' (st1.trans st) xr⟩
 | false=>exact hb.h B pins s1 σ H1 Q I1 ⟨S1,F1,r,S',R1,hg,fun a F' H' R' st xr=>q a F' H' R' (st1.trans st) xr⟩⟩
def Gh {g:Str}{gf:Addr}(h:DJ X e gx) (hg:Gl X g) (hm:X.mg g=some (.ref gf)) (hk:PySem.W.keepIn X.K (.ref gf)=true) (hdb:(g == ("__debug__":Str))=false:=by decide)
  (he:starEach [e] X.env=[(false,eval e X.env)]:=by rfl):DJ X (.Call (.Name g p) [e] [] pos) gx:=⟨fun B=>F7 (h.h B) hg hm hk hdb he⟩
end
section
variable {X:Cx}{pins:AAD}{σ:St}{H:Hp}{s:Shared}{a C dx:Addr}{cd:ClassData}{f:Str}{v:V}{A:Around}{E:AAB}{fs:List (Str×V)}
def A6 (I:Inv X pins σ H s) (e:H a=some (.nu C dx fs)):∃(oe od:Obj) (mA:AAC),PySem.W.InstAt s.heap a oe C (some od)/\(∀f,PySem.W.lookIn f od=some (mA f))/\∀f,pS (fs.lookup f) (mA f):=by
 obtain⟨_,_,_,⟨oe,vs,g,hc,hd,hf⟩,mA,hN,r,_⟩:=(show c7 X.prog X.w H s.heap a (.nu C dx fs) from I.hok a _ e)
 obtain⟨od,ho,hl⟩:=CP hN
 exact⟨oe,od,mA,⟨g,hc,by unfold PySem.W.notCls;rw[hf],by rw[hd];exact ho⟩,hl,r⟩
def Jz {b:Bool}(I:Inv X pins σ H s) (e:H a=some (.nu C dx fs)) (c:l7 X.K C cd) (hd:PySem.W.hasDictIn X.K C=true) (n:iH X.K C f) (l:fs.lookup f=some v)
  (h:∀u s',Inv X pins σ H s'->RelV v u->Q u s'):wpAny (model X.prog X.w) A (getAttr (.ref a) f b) Q E s:=by
 obtain⟨oe,od,mA,J,hl,r⟩:=A6 I e
 obtain⟨u,hu,ru⟩:=pS.some_of (v:=v) (o:=mA f) (by rw[<-l];exact r f)
 exact Ms I.qK J c (PySem.W.findObj_own hd n rfl (by rw[hl,hu])) (CQ ru) (h u _ (I.tok _) ru)
end
section
variable {X:Cx}{e:Expr}{g:GE}{f:Str}{pos:Pos}{ta:TE}
def JC (he:PE X e ta) (hb:attributeBase e f X.env (eval e X.env)=eval e X.env):PE X (.Attribute e f pos) fun σ H Q=>ta σ H fun x H1=>∃a C dx fs cd v,x= .ref a/\H1 a=some (.nu C dx fs)/\l7 X.K C cd/\PySem.W.hasDictIn X.K C=true/\iH X.K C f/\fs.lookup f=some v/\Q v H1:=by
 intro pins s σ H Q I h
 refine HX hb (dj (he pins s σ H _ I h) fun u s1 hh=>?_)
 obtain⟨x,H1,I1,rx,a,C,dx,fs,cd,v,ex,ea,c,hd,n,l,q⟩:=hh
 subst ex
 obtain rfl:u=Value.ref a:=rx
 exact Jz I1 ea c hd n l fun u' s2 I2 ru=>⟨v,H1,I2,ru,q⟩
noncomputable def Gi (cl:List Addr) (f:Str) (g:GE):GD:=fun S=>(g S).bind fun p=>match p.1 with
 | .x C k=>if C∈cl then(k.lookup f).map fun d=>(d,p.2) else none
 | _=>none
theorem nI {F:Hp}{f:Str}:∀{fs:List (Str×V)}{k:List (Str×D)}{d:D},Paired (fC F) fs k->k.lookup f=some d->∃v,fs.lookup f=some v/\Rep F v d
 | _,_,_,.nil,h=>by cases h
 | (_,v) :: _,(y,d') :: _,d,.cons ⟨e,r⟩ rs,h=>by
  dsimp only at e
  subst e
  rw[ZE] at h ⊢
  split at h
  ·cases h
   exact⟨v,rfl,r⟩
  ·exact nI rs h
def JF (hcl:∀C∈cl,(∃cd,l7 X.K C cd)/\PySem.W.hasDictIn X.K C=true/\iH X.K C f) (he:JE X e g) (hb:attributeBase e f X.env (eval e X.env)=eval e X.env:=by rfl):JD X (.Attribute e f pos) (Gi cl f g):=⟨fun B=>(JC (he.h B) hb).imp fun σ H Q hh=>by
 obtain⟨S,F,d,S',R,hg,q⟩:=hh
 obtain⟨⟨u,S1⟩,h1,hg⟩:=ah hg
 dsimp only at hg
 split at hg
 ·rename_i C k
  split at hg
  ·rename_i hC
   obtain⟨d',h2,hg⟩:=ao hg
   cases hg
   refine⟨S,F,_,S',R,h1,fun v F1 H1 R1 st1 r1=>?_⟩
   obtain⟨a,dx,fs,rfl,ea,_,pr⟩:=(show m8 F1 v C k from r1)
   obtain⟨w,l,rw'⟩:=nI pr h2
   obtain⟨⟨cd,c⟩,hd,n⟩:=hcl C hC
   exact⟨a,C,dx,fs,cd,w,rfl,R1.sub _ _ ea,c,hd,n,l,q w F1 H1 R1 st1 rw'⟩
  ·cases hg
 ·cases hg⟩
end
section
variable {prog:Program}{w:World}{A:Around}{E:AAB}{s:Shared}{K:AAA}{e C:Addr}{oe od:Obj}{cd:ClassData}
structure D9 (K:AAA) (C:Addr):Prop where
 ha:PySem.W.findIn K (.ref C) "__class__" =some (some (.builtin "object.__class__"))
 hn:PySem.W.specialIn K (.builtin "object.__class__") "__get__" =some (some (.builtin "getset_descriptor.__get__"))
 htk:PySem.W.takesIn K (.builtin "object.__class__")=some true
 hm:PySem.W.mroIn K C (.type "object")=some true
def MG {Q:Option Value->Shared->Prop}(X:K.In s.heap) (I:PySem.W.InstAt s.heap e oe C (some od)) (c:l7 K C cd) (G:D9 K C) (h:Q (some (.ref C)) {s with toks:=s.toks+1}):
  wpAny (model prog w) A (getAttr? (.ref e) "__class__") Q E s:=by
 have hf:PySem.W.findObj K C (some od) "__class__" =some (.bind (.builtin "getset_descriptor.__get__") (.builtin "object.__class__")):=PySem.W.findObj_data (by rw[c.cls];rfl) G.ha G.hn G.htk
 obtain⟨hp,g,d,t,os⟩:=s
 have wT:=I.type (M:=model prog w)
 have wG:=Zl (M:=model prog w) X c.ga
 have wH:=Zl (M:=model prog w) X c.gt
 have wF:=PySem.W.looks_find (M:=model prog w) X I hf
 have wB:=Ci (M:=model prog w) X I c (.type "BaseException")
 rw[c.NW] at wB
 have nO:(Value.builtin "BaseException.__getattribute__" == Value.builtin "object.__getattribute__")=false:=by decide +kernel
 have FX:ExcAttrFacts "ValueError":=F.attr_ValueError
 unfold getAttr? getAttrBy? getAttrBy
 refine XY (wpAny_mkText (XY (wpAny_attempt (YI (XY (wT.at (XY (wG.at ?_))))))))
 dsimp only
 rw[if_neg (by rw[nO];simp)]
 unfold getAttrByItsOwn
 refine XY (show wpAny _ _ (typeLookup (.ref C) "__getattr__") _ _ _ from wH.at ?_)
 refine XY (wpAny_attempt (YI ?_))
 unfold callGetattribute
 rw[if_neg (by simp)]
 unfold boundAndCalled
 refine XY (wpAny_of_eq (FX.ga.bind (.ref e)) ?_)
 refine ZO (aae FX.ga.plain F.entry_bexc_ga ?_)
 have kB:builtinKind "BaseException.__getattribute__" =some .slot:=by decide +kernel
 have sB:splitId "BaseException.__getattribute__" =some ("BaseException","__getattribute__"):=by decide +kernel
 have ha:=F.args_bexc_ga (.ref e) (.str "__class__" t)
 simp only[checkBuiltinCall,kB,sB]
 refine XY (wB.at ?_)
 rw[if_neg (by decide)]
 have main:wpAny (model prog w) A.in1 (Builtin.«object.__getattribute__» {pos:=[Value.ref e]++[Value.str "__class__" t]})
   (fun fin s'=>fin= .done (.ret (.ref C))/\s'=⟨hp,g,d,t+1,os⟩) (fun _ _=>False) ⟨hp,g,d,t+1,os⟩:=by
  refine XY (XZ (XY (XZ (XY (wT.at (XY (wF.at ?_)))))))
  show wpAny _ _ (holding [.builtin "object.__class__"] (call (.builtin "getset_descriptor.__get__") [.builtin "object.__class__",.ref e,.ref C]) >>= ret) _ _ _
  exact XY (YI (ZO (PySem.W.class_get (s:=⟨hp,g,d,t+1,os⟩) X I G.hm (XZ ⟨rfl,rfl⟩))))
 have fin:∀(P:Fin->Shared->Prop) (G:AAB),P (.done (.ret (.ref C))) ⟨hp,g,d,t+1,os⟩->wpAny (model prog w) A.in1 (Builtin.«object.__getattribute__» {pos:=[Value.ref e]++[Value.str "__class__" t]}) P G ⟨hp,g,d,t+1,os⟩:=fun P G hP=>
  Yd main (fun a s' z=>by rw[z.1,z.2];exact hP) fun _ _ z=>z.elim
 have out:wpAny (model prog w) A (handedOut (.ref C)) (fun v s''=>Q (some v) s'') (fun _ _=>False) ⟨hp,g,d,t+1,os⟩:=PySem.W.handed_on rfl h
 cases Mt:Manifest.signature? "BaseException.__getattribute__" with
 | none=>exact XZ (fin _ _ (Yd out (fun _ _ z=>XZ z) fun _ _ z=>z.elim))
 | some sig=>
  simp only[argsOk,Mt] at ha
  have h2:Bind.checkArgs "BaseException.__getattribute__" sig ⟨[.ref e,.str "__class__" t],[]⟩=pure ():=ha
  show wpAny _ _ (Bind.checkArgs "BaseException.__getattribute__" sig ⟨[.ref e,.str "__class__" t],[]⟩) _ _ _
  rw[h2]
  exact XZ (fin _ _ (Yd out (fun _ _ z=>XZ z) fun _ _ z=>z.elim))
def zB (c:l7 K C cd) (G:D9 K C):PySem.W.KitX K (.ref e) (.ref C) (fun h=>∃oe od,PySem.W.InstAt h e oe C (some od)) where
 ty:=fun _ _ _ ⟨_,_,I⟩=>I.type
 it:=fun _ _ X _=>by
  have hc:=c.cls
  unfold PySem.W.clsIn at hc
  split at hc
  ·rename_i ho
   intro _ _ _ _ kp qq
   unfold isType loadHead
   refine XY (wpAny_loadPart (kp _ _ (X _ _ ho)) ?_)
   exact XZ qq
  ·cases hc
 ne:=fun h tp dd its n sl X htp=>by
  have hc:=c.cls
  cases qe:(Value.ref C == Value.ref tp) with
  | false=>rfl
  | true=>
   cases(beq_iff_eq.mp qe)
   unfold PySem.W.clsIn at hc
   split at hc
   ·rename_i ho
    cases(X _ _ ho).symm.trans htp
   ·cases hc
 ca:=fun X ⟨_,_,I⟩ k=>MG X I c G k
end
section
variable {X:Cx}{pins:AAD}{σ:St}{H:Hp}{s:Shared}{a C dx:Addr}{cd:ClassData}{fs:List (Str×V)}{A:Around}{E:AAB}{Q:AAB}{b:Bool}
def JH (I:Inv X pins σ H s) (e:H a=some (.nu C dx fs)) (c:l7 X.K C cd) (G:D9 X.K C){k:Value}(hk:PySem.W.kitOne X.K (.ref C) k=some b) (h:∀tk,Q (.bool b) {s with toks:=tk}):wpAny (model X.prog X.w) A (call (.builtin "isinstance") [.ref a,k]) Q E s:=by
 obtain⟨oe,od,_,J,_,_⟩:=A6 I e
 exact Zf (zB c G) I.qK ⟨oe,od,J⟩ hk (fun z=>nomatch z) h
def Gj (I:Inv X pins σ H s) (e:H a=some (.nu C dx fs)) (c:l7 X.K C cd) (G:D9 X.K C){p:Addr}{ks:List V}(hp:q8 X.K H p ks) (hv:Vals ks us->PySem.W.kitAny X.K (.ref C) us=some b) (hu:∀us',Vals ks us'->us'=us) (h:∀tk,Q (.bool b) {s with toks:=tk}):wpAny (model X.prog X.w) A (call (.builtin "isinstance") [.ref a,.ref p]) Q E s:=by
 obtain⟨oe,od,_,J,_,_⟩:=A6 I e
 obtain⟨its,rv,pt,hz⟩:=I.tuple hp
 obtain rfl:=hu its rv
 obtain⟨⟨cls,dd,data,sl⟩,ho,hc,n,hd⟩:=pt
 simp only at hc hd
 subst hc hd
 exact PySem.W.kia_tup (zB c G) I.qK ⟨oe,od,J⟩ ho (hv rv) (fun z=>nomatch z) h
end
noncomputable def uN (tb:List (Addr×Bool)) (g:GE):GD:=fun S=>(g S).bind fun p=>match p.1 with
 | .x C _=>(tb.lookup C).map fun b=>(.bl b,p.2)
 | _=>none
section
variable {X:Cx}{a ke:Expr}{g:GE}{pos p:Pos}{kv:V}{ku:Value}{tb:List (Addr×Bool)}
def Gk (hg:Gl X "isinstance") (hm:X.mg "isinstance" =none) (hk:PE X ke (tC kv)) (hu:∀u,RelV kv u->u=ku) (hcl:∀C b,tb.lookup C=some b->(∃cd,l7 X.K C cd)/\D9 X.K C/\PySem.W.kitOne X.K (.ref C) ku=some b) (ha:JE X a g)
  (hs:starEach [a,ke] X.env=(false,eval a X.env) :: starEach [ke] X.env:=by rfl) (hs2:starEach [ke] X.env=(false,eval ke X.env) :: starEach [] X.env:=by rfl) (hpl:(backTo pos (starEach [ke] X.env)).any (·.1)=false:=by rfl):
  JD X (.Call (.Name "isinstance" p) [a,ke] [] pos) (uN tb g):=⟨fun B=>
 (iw (r:=fun xs H Q=>∃x C dx fs cd b,xs=[.ref x,kv]/\H x=some (.nu C dx fs)/\l7 X.K C cd/\D9 X.K C/\PySem.W.kitOne X.K (.ref C) ku=some b/\Q (.bl b) H) (fun pins s σ H xs us Q I r hh=>by
   obtain⟨x,C,dx,fs,cd,b,e1,ex,c,G,hk,q⟩:=hh
   subst e1
   obtain⟨u,w',rfl,ru,rw'⟩:=vals2 r
   cases ru
   cases hu _ rw'
   exact JH I ex c G hk fun tk=>⟨.bl b,H,I.tok tk,rfl,q⟩) hg hm Zw (gm (ha.h B) (gm hk nN hs2) hs) (by decide) (by decide) hs hpl).imp fun σ H Q hh=>by
 obtain⟨S,F,d,S',R,hg,q⟩:=hh
 obtain⟨⟨u1,S1⟩,h1,hg⟩:=ah hg
 dsimp only at hg
 split at hg
 ·rename_i C k
  obtain⟨b,h2,hg⟩:=ao hg
  cases hg
  obtain⟨⟨cd,c⟩,G,hk⟩:=hcl C b h2
  refine⟨S,F,_,_,R,h1,fun v F1 H1 R1 st1 r1=>?_⟩
  obtain⟨x,dx,fs,rfl,ex,_,_⟩:=(show m8 F1 v C k from r1)
  exact⟨x,C,dx,fs,cd,b,rfl,R1.sub _ _ ex,c,G,hk,q _ F1 H1 R1 st1 (.bl b)⟩
 ·cases hg⟩
end
section
variable {X:Cx}{a:Expr}{ks:List Expr}{g:GE}{pos p px:Pos}{kvs:List V}{UE:AAI}{tb:List (Addr×Bool)}{k1:Nat}
def UG {e:Expr}{v:V}{vs:List V}(h:PE X e (tC v)) (h2:PA X es fun σ H Q=>Q vs H) (hs:starEach (e :: es) X.env=(false,eval e X.env) :: starEach es X.env:=by rfl):PA X (e :: es) fun σ H Q=>Q (v :: vs) H:=
 (gm h h2 hs).imp fun σ H Q q=>q
def JJ (hg:Gl X "isinstance") (hm:X.mg "isinstance" =none) (hk:PA X ks fun σ H Q=>Q kvs H) (hl:kvs.length<=sizeLine) (hu:∀us,Vals kvs us->us=UE) (hcl:∀C b,tb.lookup C=some b->(∃cd,l7 X.K C cd)/\D9 X.K C/\PySem.W.kitAny X.K (.ref C) UE=some b) (ha:JE X a g)
  (hs:starEach [a,.Tuple ks k1 px] X.env=(false,eval a X.env) :: starEach [.Tuple ks k1 px] X.env:=by rfl) (hs2:starEach [.Tuple ks k1 px] X.env=(false,eval (.Tuple ks k1 px) X.env) :: starEach [] X.env:=by rfl) (hpl:(backTo pos (starEach [.Tuple ks k1 px] X.env)).any (·.1)=false:=by rfl):
  JD X (.Call (.Name "isinstance" p) [a,.Tuple ks k1 px] [] pos) (uN tb g):=⟨fun B=>
 (iw (r:=fun xs H Q=>∃x C dx fs cd b t,xs=[.ref x,.ref t]/\H x=some (.nu C dx fs)/\l7 X.K C cd/\D9 X.K C/\q8 X.K H t kvs/\PySem.W.kitAny X.K (.ref C) UE=some b/\Q (.bl b) H) (fun pins s σ H xs us Q I r hh=>by
   obtain⟨x,C,dx,fs,cd,b,t,e1,ex,c,G,hp,hk,q⟩:=hh
   subst e1
   obtain⟨u,w',rfl,ru,rw'⟩:=vals2 r
   cases ru
   cases rw'
   exact Gj I ex c G hp (fun _=>hk) hu fun tk=>⟨.bl b,H,I.tok tk,rfl,q⟩) hg hm Zw (gm (ha.h B) (gm (Ez hk) nN hs2) hs) (by decide) (by decide) hs hpl).imp fun σ H Q hh=>by
 obtain⟨S,F,d,S',R,hg,q⟩:=hh
 obtain⟨⟨u1,S1⟩,h1,hg⟩:=ah hg
 dsimp only at hg
 split at hg
 ·rename_i C k
  obtain⟨b,h2,hg⟩:=ao hg
  cases hg
  obtain⟨⟨cd,c⟩,G,hk⟩:=hcl C b h2
  refine⟨S,F,_,_,R,h1,fun v F1 H1 R1 st1 r1=>⟨hl,fun t ht=>?_⟩⟩
  obtain⟨x,dx,fs,rfl,ex,_,_⟩:=(show m8 F1 v C k from r1)
  have n:=fH.obj (F:=F1) ht (.tup kvs)
  have ne:x≠t:=fun z=>by have:=R1.sub _ _ ex;rw[z,ht] at this;cases this
  exact⟨x,C,dx,fs,cd,b,t,rfl,by rw[aE ne];exact R1.sub _ _ ex,c,G,q8.of aH,hk,q _ F1 _ (R1.new n (R1.sub.same n.same)) (st1.trans n.step) (.bl b)⟩
 ·cases hg⟩
end
noncomputable def tW:D->Bool
 | .cz=>true
 | _=>false
def Gm (g:GE):GT:=fun S=>(g S).bind fun p=>match p.1 with
 | .x _ _=>some (false,p.2)
 | .t d=>some (tW d,p.2)
 | _=>none
def A7 {F:Hp}{v:V}{d:D}(r:Rep F v d):decide (v= .cz)=tW d:=by
 cases r <;> rfl
def JK {a:Expr}{g:GE} {j}(ha:JE X a g):JT X (.Compare a [.Is] [.Constant .none j pos'] pos) (Gm g):=⟨fun B=>(Ek (K5 (ha.h B))).imp fun σ H Q hh=>by
 obtain⟨S,F,b,S',R,hg,q⟩:=hh
 obtain⟨⟨u,S1⟩,h1,hg⟩:=ah hg
 refine⟨S,F,u,S1,R,h1,fun v F1 H1 R1 st1 r1=>⟨_,rfl,?_⟩⟩
 dsimp only at hg
 split at hg
 ·rename_i C k
  cases hg
  obtain⟨x,dx,fs,rfl,_⟩:=(show m8 F1 v C k from r1)
  exact q F1 H1 R1 st1
 ·rename_i d
  cases hg
  rw[A7 (show Rep F1 v d from r1)]
  exact q F1 H1 R1 st1
 ·cases hg⟩
def MH (C:Addr) (f:Str):Sp:=fun vs H Q _=>∃a tt y,vs=[.ref a,y]/\H a=some (yc a C tt none)/\∀dx,H dx=none->dx≠a->Q .cz (upd (upd H dx (.xd [(f,y)])) a (yc a C tt (some dx)))
section
variable {P:Program}{w:World}{K:AAA}{mg:AAC}{base:Heap}{C:Addr}{cd:ClassData}{f g s0 a0 b0 x qual:Str}{st:Stmt}{fI:Addr}{fd:FuncData}{p1 p2 p3 p4 q1 q2 q3 q4:Pos}
def Gn (F:C3 K x qual st fI fd) (S:bF [s0,a0] [s0,a0] (aF st)) (hb:dD st=[.Assign [.Attribute (.Name s0 p1) f p2] (.Name a0 p3) p4]) (c:DI K C cd) (n:iH K C f)
  (v0:wu (aF st) s0) (v1:wu (aF st) a0) (d0:(s0 == ("__debug__":Str))=false:=by decide) (d1:(a0 == ("__debug__":Str))=false:=by decide) (c0:(s0 == ("__classdict__":Str))=false:=by decide) (c1:(a0 == ("__classdict__":Str))=false:=by decide):
  gU P w K mg base uI 1 fI fd [s0,a0] (MH C f):=by
 refine F.ok S (fun vs H Q E h=>by obtain⟨a,tt,y,rfl,_⟩:=h;rfl) fun cdv A outer s H vs Q E hr h=>?_
 rw[hb]
 obtain⟨a,tt,y,rfl,ea,q⟩:=h
 exact⟨_,BD (My c n (fG (i:=0) rfl v0 d0 c0) (fG (i:=1) rfl v1 d1 c1) rfl),y,rfl,.ref a,rfl,a,tt,rfl,ea,q⟩
def Xl (a tt:Addr) (vs:List V) (H:Hp) (Q:VK) (hl:vs.length=[f].length) (hn:H a=none) (k:∀dx H2,H dx=none->dx≠a->H2 a=some (yc a C tt (some dx))->H2 dx=some (.xd ([f].zip vs))->(∀b,b≠a->b≠dx->H2 b=H b)->Q .cz H2):MH C f (.ref a :: vs) (upd H a (yc a C tt none)) Q E0:=by
 match vs,hl with
 | [y],_=>
  refine⟨a,tt,y,rfl,aH,fun dx hd ne=>?_⟩
  rw[aE ne] at hd
  exact k dx _ hd ne aH (by rw[aE ne,aH];rfl) fun b h1 h2=>by rw[aE h1,aE h2,aE h1]
end
noncomputable def vO:List D->Option U
 | [.str x,.str y]=>((Builtin.Str.occurrences x y 0 x.length 1).head?).map fun(i:Nat)=>.t (.int i)
 | _=>none
def zC {ds:List D}{u:U}(h:vO ds=some u):∃x y i r,ds=[.str x,.str y]/\Builtin.Str.occurrences x y 0 x.length 1=i :: r/\u= .t (.int (i:Nat)):=by
 unfold vO at h
 split at h
 ·rename_i x y
  obtain⟨i,h1,h2⟩:=ao h
  cases e:Builtin.Str.occurrences x y 0 x.length 1 with
  | nil=>rw[e] at h1;cases h1
  | cons j r=>rw[e] at h1;cases h1;exact⟨x,y,_,r,rfl,e,h2.symm⟩
 ·cases h
def A8 :dU X (.builtin "str.index") (rP vO):=by
 intro pins s σ H xs us Q I r ⟨F,ds,w,sb,rs,hw,q⟩
 obtain⟨x,y,i,l,rfl,ho,rfl⟩:=zC hw
 obtain⟨t,u,rfl⟩:=sX rs r
 exact SC.index ho ⟨.int _,H,I.tok _,⟨_,rfl⟩,q _ F H (fH.refl ..) sb (.int _)⟩
def Gp (d1 d2:D) (u:U) (h:vO [d1,d2]=some u):∃z,d1= .str z:=by obtain⟨x,y,_,_,e,_⟩:=zC h;cases e;exact⟨_,rfl⟩
section
variable {P:Program}{w:World}{K:AAA}{mg:AAC}{base:Heap}{h:Heap}
structure DK (P:Program) (w:World) (K:AAA) (mg:AAC) (base:Heap) (n:Nat) (x:Str) (ps:List Str) (fx:FX):Prop where
 ex:∃a d,gU P w K mg base (Cj P w) n a d ps (Rq K ps.length fx)/\Binds K d ps []/\PySem.W.keepIn K (.ref a)=true/\mg x=some (.ref a)
def Qh {fx:FX}{g:GX}(D:Df K mg x st) (Sc:bF N ps (aF st))
  (hb:∀(f:Addr) (cdv:Value) (A:Around) (outer:List Env) (s:Shared) (H:Hp) (E:XK),dN k (A.deeper (envOfC x (aF st) s.heap.objs.size f cdv))->vN (pW uI P w K mg base N x (aF st) f cdv A outer s H E).HA (dD st) g)
  (hf:∀us r,fx us=some r->tU N.length g us=some r) (bd:Bd x st ps:=by intro _ _ _ _ _ _ us hl;rcases us with _ | ⟨_,_ | ⟨_,_ | ⟨_,_ | ⟨_,_ | ⟨_,_ | ⟨_,_ | ⟨_,_⟩⟩⟩⟩⟩⟩⟩ <;> first | rfl | cases hl):DK P w K mg base (k+1) x ps fx:=by
 obtain⟨f,fd,F,m⟩:=D.ex
 exact⟨f,fd,Uy F Sc (hb f) hf,F.binds bd,F.kp,m⟩
structure UH (P:Program) (w:World) (K:AAA) (mg:AAC) (base:Heap) (x:Str) (C:Addr) (ns:List Str):Prop where
 ex:∃fI bm bmB B newId initId KZ HH Jr,Rp K C fI bm bmB B newId initId/\gU P w K mg base uI 1 fI KZ HH Jr/\Binds K KZ HH []/\
  ∀(a tt:Addr) (vs:List V) (H:Hp) (Q:VK),vs.length=ns.length->H a=none->(∀dx H2,H dx=none->dx≠a->H2 a=some (yc a C tt (some dx))->H2 dx=some (.xd (ns.zip vs))->(∀b,b≠a->b≠dx->H2 b=H b)->Q .cz H2)->Jr (.ref a :: vs) (upd H a (yc a C tt none)) Q E0
 nm:mg x=some (.ref C)
 kp:PySem.W.keepIn K (.ref C)=true
 ln:ns.length<=1000
structure VO (K:AAA) (C fI:Addr) (bm bmB:AAI) (B newId initId:String) (m q:Str) (st:Stmt) (fd:FuncData):Prop where
 xm:Rp K C fI bm bmB B newId initId
 fn:C3 K m q st fI fd
def MI {N:Addr}{B:String}{m qn nm q:Str}{ab:Bool}{kV pm ct:Value}
  (lC:K.lookup C=some (excClassObj nm q C N bs bm hdct sn sub ab col dd k0 k1 k2 k3 k5 newId)) (ni:PySem.W.nsIn K N "__init__" =some (some (.ref fI))) (l:K.lookup fI=some ⟨.type "function",od,.func (PySem.W.fnOf m qn (jD st) (dD st) (aF st) .none kV doc pm an cdv ct),osl⟩)
  (c:PySem.W.codeIn K cdv qn=true) (k:PySem.W.keepIn K (.ref fI)=true) (no:PySem.W.nsOkIn K N=true) (tl:PySem.W.tailIn K bmB bm=true) (Uz:ExcBaseFacts B newId initId bmB) (NW:bmB.contains (.type "BaseException")=true):
  ∃fd,VO K C fI bm bmB B newId initId m qn st fd:=⟨_,⟨⟨_,_,_,_,_,_,_,_,_,_,_,_,_,_,_,lC,no,ni⟩,tl,Uz,NW,⟨_,l,rfl⟩⟩,ET l c k⟩
def Cn {N:Addr}{nm q:Str}{ab:Bool}
  (lC:K.lookup C=some (excClassObj nm q C N bs bm hdct sn sub ab col dd k0 k1 k2 k3 k5 newId)):tR K C bm:=⟨_,_,_,_,_,_,_,_,_,_,_,_,_,_,_,_,lC⟩
def UI {B:String}{m qn s0 a0 f:Str}{cd:ClassData}{p1 p2 p3 p4:Pos}(M:∃fd,VO K C fI bm bmB B newId initId m qn st fd) (nm:mg x=some (.ref C)) (kp:PySem.W.keepIn K (.ref C)=true) (c:DI K C cd) (n:iH K C f)
  (S:bF [s0,a0] [s0,a0] (aF st)) (hb:dD st=[.Assign [.Attribute (.Name s0 p1) f p2] (.Name a0 p3) p4]) (v0:wu (aF st) s0) (v1:wu (aF st) a0) (bd:W8 m qn st [s0,a0])
  (d0:(s0 == ("__debug__":Str))=false:=by decide) (d1:(a0 == ("__debug__":Str))=false:=by decide) (c0:(s0 == ("__classdict__":Str))=false:=by decide) (c1:(a0 == ("__classdict__":Str))=false:=by decide):UH P w K mg base x C [f]:=by
 obtain⟨fd,M,F⟩:=M
 exact⟨⟨fI,bm,bmB,B,newId,initId,fd,[s0,a0],MH C f,M,Gn F S hb c n v0 v1 d0 d1 c0 c1,F.binds bd,fun a tt vs H Q=>Xl a tt vs H Q⟩,nm,kp,Nat.le_of_ble_eq_true rfl⟩
end
section
variable {X:Cx}{e:Expr}{es:List Expr}{gu:GU}{ga:GA}{x:Str}{p pos cpos:Pos}{k j:Nat}{ps ns:List Str}{fx:FX}{C:Addr}
def xc (c:DK X.prog X.w X.K X.mg X.base j x ps fx) (hr:dN k X.A) (ha:JU X (e :: es) gu) (hj:j<=k:=by omega) (hx:X.xe=fun _ _=>False:=by rfl) (hg:Gl X x:=by rfl) (hn:(e :: es).length=ps.length:=by rfl)
  (hdb:(x == ("__debug__":Str))=false:=by decide) (he:starEach (e :: es) X.env=(false,eval e X.env) :: starEach es X.env:=by rfl) (hpl:(backTo pos (starEach es X.env)).any (·.1)=false:=by rfl):
  DJ X (.Call (.Name x p) (e :: es) [] pos) (zz fx gu):=by
 obtain⟨a,d,G,b,kp,m⟩:=c.ex
 exact Jv (G.mono hj) hx hr hg m kp b ha hn hdb he hpl
def xr (R:UH X.prog X.w X.K X.mg X.base x C ns) (hr:dN k X.A) (ha:JA X (e :: es) ga) (hj:2<=k:=by omega) (hx:X.xe=fun _ _=>False:=by rfl) (hc:X.calm=true:=by rfl) (hg:Gl X x:=by rfl)
  (hdb:(x == ("__debug__":Str))=false:=by decide) (he:starEach (e :: es) X.env=(false,eval e X.env) :: starEach es X.env:=by rfl) (hpl:(backTo cpos (starEach es X.env)).any (·.1)=false:=by rfl):
  HJ X (.Raise (some (.Call (.Name x p) (e :: es) [] cpos)) none pos) (qo C ns ga):=by
 obtain⟨fI,bm,bmB,B,ni,ii,fd,HH,Jr,M,FI,hb,hI⟩:=R.ex
 exact Ge M FI hI hx hc R.ln (hr.mono hj) hg R.nm R.kp hb ha hdb he hpl
def xa {fm:FM}{gx:GX}(c:gP X.prog X.w X.K X.mg X.base j x ps fm) (h:DJ X e gx) (hg:Gl X x:=by rfl) (hdb:(x == ("__debug__":Str))=false:=by decide) (he:starEach [e] X.env=[(false,eval e X.env)]:=by rfl):DJ X (.Call (.Name x p) [e] [] pos) gx:=by
 obtain⟨a,d,G,b,kp,m⟩:=c.ex
 exact Gh h hg m kp hdb he
variable {a:Stmt}{r:List Stmt}{gx gb g1 g2:GX}{g:GS}{q1:GT}
def xq (ha:HJ X a gx) (h:JS X a g) (hb:vN X r gb) (hx:X.xe=fun _ _=>False:=by rfl):vN X (a :: r) (Gb gx g gb):=MC hx ha h hb
def xo (h:JS X a g) (hb:vN X r gb) (hx:X.xe=fun _ _=>False:=by rfl):vN X (a :: r) (Gd g gb):=Qa hx h hb
def xi {c:Expr}(hc:JT X c q1) (ha:vN X b1 g1) (hb:vN X b2 g2) (hx:X.xe=fun _ _=>False:=by rfl):HJ X (.If c b1 b2 pos) (Ju q1 g1 g2):=Qd hx hc ha hb
def Xm {a b c:Expr}(hc:JT X c q1) (ha:DJ X a g1) (hb:DJ X b g2) (hx:X.xe=fun _ _=>False:=by rfl):DJ X (.IfExp c a b pos) (Ju q1 g1 g2):=Gg hx hc ha hb
def VP {tg:Expr}{s1:GS}{bd:GB}{gi:GI}(hi:QT X tg iter gi) (hg:JG X tg bd) (hb:JB X stmts s1) (Mu:vN X stmts gx) (hx:X.xe=fun _ _=>False:=by rfl) (hst:X.stack=X.env :: X.outer:=by rfl) (hfr:X.env.frame=some X.env.locals:=by rfl) (hc:X.calm=true:=by rfl) (hs:∀x,foldedSetIterable iter X.env x=pure x:=by intro _;rfl):
  HJ X (.For tg iter stmts [] pos) (zA bd gi gx s1):=Jy hx hst hfr hc hi hg hb Mu hs
def xt {suite:List Stmt}{b0:Stmt}{np hpos:Pos}{gb gs:GS}{C0:Addr}(hN:X.N.Nodup) (i:Nat) (hm:X.mg x=some (.ref C0)) (h0:∃bm,tR X.K C0 bm/\bm.contains (.type "BaseException")=true)
  (hcl:∀C∈cl,∃bm,tR X.K C bm/\(Value.ref C :: bm).contains (.ref C0)=true) (hb:vN X body gx) (hb2:JB X body gb) (hs:∀a,JB (X.hand a) (b0 :: suite) gs) (hx:X.xe=fun _ _=>False:=by rfl) (hst:X.stack=X.env :: X.outer:=by rfl) (hfr:X.env.frame=some X.env.locals:=by rfl)
  (hi:X.N[i]? =some n:=by rfl) (hk:X.env.kindOf n=some .local:=by rfl) (hg:Gl X x:=by rfl) (hdb:(x == ("__debug__":Str))=false:=by decide):
  JS X (.Try body [.ExceptHandler (some (.Name x np)) (some n) (b0 :: suite) hpos] [] [] pos) (Gf i cl gb gx gs):=by
 obtain⟨bm,o,b⟩:=h0
 exact ME hx hst hfr hN hi hk hg hm o b hcl hb hb2 hs hdb
def zx {g:GE}(hN:X.N.Nodup) (i:Nat) (he:JE X e g) (hi:X.N[i]? =some x:=by rfl) (hx:Loc X.env.scope x:=by first | exact Or.inl rfl | exact Or.inr rfl) (hs:swapsWith e (some (.Name x pos')) pos.line X.env=pure false:=by rfl)
  (hf:X.fn x=true\/X.env.scope.names.lookup x=some .local:=by first | exact .inl rfl | exact .inr rfl):JS X (.Assign [.Name x pos'] e pos) (Cm i g):=Jw hN hi hx he hs hf
end
def xA {Q:Addr->Bool->Prop}:∀C b,([]:List (Addr×Bool)).lookup C=some b->Q C b:=fun _ _ h=>by cases h
def rQ {Q:Addr->Bool->Prop}{b:Bool}{tb:List (Addr×Bool)}(h:Q C b) (r:∀C b,tb.lookup C=some b->Q C b):∀C' b',((C,b) :: tb).lookup C'=some b'->Q C' b':=fun C' b' e=>by
 rw[ZE] at e
 split at e
 ·rename_i q
  cases e
  rw[eq_of_beq q]
  exact h
 ·exact r C' b' e
def Gq {Q:Addr->Prop}:∀C∈([]:List Addr),Q C:=fun _ h=>by cases h
def Co {Q:Addr->Prop}(h:Q C) (r:∀C∈cl,Q C):∀C'∈C :: cl,Q C':=fun C' e=>by
 rcases Yi.mp e with rfl | e
 ·exact h
 ·exact r C' e
theorem vP:∀{as:List Addr}{us:AAI},Vals (as.map V.ref) us->us=as.map Value.ref
 | [],_,h=>by cases h;rfl
 | a :: as,_,h=>by
  cases h with
  | cons r rs=>rw[vP rs];cases r;rfl
section
variable {X:Cx}{a:Expr}{ks:List Expr}{g:GE}{pos p px:Pos}{tb:List (Addr×Bool)}{k1:Nat}{as:List Addr}
def uO (hm:X.mg x=some (.ref c)) (h2:PA X es fun σ H Q=>Q (as.map V.ref) H) (hg:Gl X x:=by rfl) (hd:(x == ("__debug__":Str))=false:=by decide) (hs:starEach (.Name x p :: es) X.env=(false,eval (.Name x p) X.env) :: starEach es X.env:=by rfl):
  PA X (.Name x p :: es) fun σ H Q=>Q ((c :: as).map V.ref) H:=UG (mR (v:=.ref c) hg hm rfl hd) h2 hs
def K0:PA X [] fun σ H Q=>Q (([]:List Addr).map V.ref) H:=nN
def VQ (hm:X.mg "isinstance" =none) (hk:PA X ks fun σ H Q=>Q (as.map V.ref) H) (hcl:∀C b,tb.lookup C=some b->(∃cd,l7 X.K C cd)/\D9 X.K C/\PySem.W.kitAny X.K (.ref C) (as.map Value.ref)=some b) (ha:JE X a g) (hg:Gl X "isinstance":=by rfl) (hl:(as.map V.ref).length<=sizeLine:=by simp only[Yj,List.map_nil,Ys,ZG];decide)
  (hs:starEach [a,.Tuple ks k1 px] X.env=(false,eval a X.env) :: starEach [.Tuple ks k1 px] X.env:=by rfl) (hs2:starEach [.Tuple ks k1 px] X.env=(false,eval (.Tuple ks k1 px) X.env) :: starEach [] X.env:=by rfl) (hpl:(backTo pos (starEach [.Tuple ks k1 px] X.env)).any (·.1)=false:=by rfl):
  JD X (.Call (.Name "isinstance" p) [a,.Tuple ks k1 px] [] pos) (uN tb g):=JJ hg hm hk hl (fun us h=>vP h) hcl ha hs hs2 hpl
def Xn (hm:X.mg "isinstance" =none) (hx:X.mg x=some (.ref c)) (hcl:∀C b,tb.lookup C=some b->(∃cd,l7 X.K C cd)/\D9 X.K C/\PySem.W.kitOne X.K (.ref C) (.ref c)=some b) (ha:JE X a g) (hg:Gl X "isinstance":=by rfl) (UJ:Gl X x:=by rfl) (hd:(x == ("__debug__":Str))=false:=by decide)
  (hs:starEach [a,.Name x px] X.env=(false,eval a X.env) :: starEach [.Name x px] X.env:=by rfl) (hs2:starEach [.Name x px] X.env=(false,eval (.Name x px) X.env) :: starEach [] X.env:=by rfl) (hpl:(backTo pos (starEach [.Name x px] X.env)).any (·.1)=false:=by rfl):
  JD X (.Call (.Name "isinstance" p) [a,.Name x px] [] pos) (uN tb g):=Gk hg hm (mR (v:=.ref c) UJ hx rfl hd) (fun u h=>h) hcl ha hs hs2 hpl
def Xo {T:String}(hm:X.mg "isinstance" =none) (hx:X.mg x=none) (hv:bootBuiltins x=some (.type T)) (hcl:∀C b,tb.lookup C=some b->(∃cd,l7 X.K C cd)/\D9 X.K C/\PySem.W.kitOne X.K (.ref C) (.type T)=some b) (ha:JE X a g) (hg:Gl X "isinstance":=by rfl) (UJ:Gl X x:=by rfl) (hn:x≠"__name__":=by decide) (hd:(x == ("__debug__":Str))=false:=by decide)
  (hs:starEach [a,.Name x px] X.env=(false,eval a X.env) :: starEach [.Name x px] X.env:=by rfl) (hs2:starEach [.Name x px] X.env=(false,eval (.Name x px) X.env) :: starEach [] X.env:=by rfl) (hpl:(backTo pos (starEach [.Name x px] X.env)).any (·.1)=false:=by rfl):
  JD X (.Call (.Name "isinstance" p) [a,.Name x px] [] pos) (uN tb g):=Gk hg hm (BC (v:=.ty T) UJ hx hv rfl hn hd) (fun u h=>h) hcl ha hs hs2 hpl
end
end L2
end
section
namespace Sw
open PySem PySem.Spec PyProof.Rows L2
noncomputable def UK:Str:="abcdefghijklmnopqrstuvwxyz"
def jQ (y:Str):Bool:=!(Builtin.Str.occurrences UK y 0 UK.length 1).isEmpty
noncomputable def signs (z:Str):List Str:=z.cps.toList.map fun c=>(⟨#[c]⟩:Str)
def vQ (z:Str):(signs z).length=z.length:=by unfold signs;rw[Yh];rfl
def zD (z:Str):qc (eF (aj 0)) [XU (.str z)]=some ((signs z).map D.str,[XU (.str z)]):=by unfold signs;rw[Zn];rfl
def nameB:D->Bool
 | .str z=>decide (1<=z.length) && decide (z.length<=8) && (signs z).all jQ
 | _=>false
def dX {z:Str}(h:z.length<=20000):qh (.t (.str z))=some z.length:=by show(if z.length<=100000 then some z.length else none)=_;rw[if_pos (by lia)]
def kj:GS:=
 (aJ (kH (nR (nQ (qB (HF ["str"] (eF (aj 0))))) (nR (qB (eF (eP KH (aa (gB 0) (aa (eC (.int 1)) ak))))) (qB (eF (eP HC (aa (gB 0) (aa (eC (.int 8)) ak))))))) (cI (eT (eC (.bl false)))) dO)
 (cI (eP LO (aa (eF (sG [] (qc (eF (aj 0))) nB (eF (eP IK (aa (eF (aj 0)) (aa (eC (.str "abcdefghijklmnopqrstuvwxyz")) ak)))))) ak))))
noncomputable def UL:D->Nat
 | .str z=>z.length
 | _=>0
def jI:FM
 | [.t d]=>if UL d<=20000 then some (.t (.bl (nameB d)),[]) else none
 | _=>none
def Gr:∀us r,jI us=some r->bM 1 kj us=some r:=by
 intro us r h
 unfold jI at h
 split at h
 ·rename_i d
  obtain⟨hb,rfl⟩:=bh h
  cases d with
  | str z=>
   have hb:z.length<=20000:=hb
   have dX:=dX hb
   by_cases h1:(z.length:Int) < 1
   ·have h2:¬1<=z.length:=by lia
    simp[bM,kj,nameB,iz,lA,lJ,dX,h1,h2]
   ·by_cases h3:(8:Int) < z.length
    ·have h2:¬z.length<=8:=by lia
     simp[bM,kj,nameB,iz,lA,lJ,dX,h1,h2,h3]
    ·have h4:1<=z.length:=by lia
     have h5:z.length<=8:=by lia
     have h6:((signs z).map D.str).length<=100000:=by rw[Yh,vQ];lia
     have ei:=zD z
     generalize hx:signs z=xs at h6 ei
     have e:=ki (cap:=[]) (g:=eF (eP IK (aa (eF (aj 0)) (aa (eC (.str "abcdefghijklmnopqrstuvwxyz")) ak)))) (S:=[XU (.str z)]) (ts:=[]) rfl (fun d=>match d with | .str y=>.bl (jQ y) | _=>.cz) (xs.map D.str) [] (fun d hd=>by
      obtain⟨c,_,rfl⟩:=Yz.mp hd
      kernel_rfl)
     have e2:([]:List D)++((xs.map D.str).map fun d=>match d with | .str y=>D.bl (jQ y) | _=>.cz)=xs.map fun y=>D.bl (jQ y):=by rw[Zn];rfl
     have e3:=qm jQ xs
     rw[e2] at e
     generalize xs.map D.str=L at e ei h6
     generalize (xs.map fun y=>D.bl (jQ y))=M at e e3
     simp[bM,kj,nameB,iz,lA,lJ,dX,h1,h3,h4,h5,ei,h6,e,e3,hx]
  | _=>kernel_rfl
 ·cases h
def eU:GS:=
 (aJ (kH (nR (nQ (qB (HF ["str"] (eF (aj 0))))) (nQ (qB (QL LG LG (eC (.int 1)) (gB 0) (eC (.int 8)))))) (cI (eT (eC (.bl false)))) dO)
 (cI (eP rK (aa (eF (sG [] (qc (eF (aj 0))) (qB (eF (eP sL (aa (eF (aj 0)) (aa (eC (.str "abcdefghijklmnopqrstuvwxyz")) ak))))) (eF (aj 0)))) (aa (eF (eP gn ak)) ak)))))
def ow:D->Bool
 | .str y=>!jQ y
 | _=>false
theorem tY:∀xs:List Str,(xs.map D.str).filter ow=(xs.filter fun y=>!jQ y).map D.str
 | []=>rfl
 | y :: xs=>by
  by_cases h:jQ y=true
  ·have e:ow (.str y)=false:=by simp[ow,h]
   rw[Yj,Zc (by simp[e]),Zc (by simp[h]),tY xs]
  ·have e:ow (.str y)=true:=by simp[ow,h]
   rw[Yj,Zb e,Zb (by simp[h]),tY xs,Yj]
def eq_nil (xs:List Str):kL (.lst (xs.map D.str)) (.lst [])=xs.isEmpty:=by cases xs <;> kernel_rfl
def jr (xs:List Str):lz (.lst (xs.map D.str))<=40:=by
 have:cy (xs.map D.str)=0:=by
  induction xs with
  | nil=>rfl
  | cons x xs ih=>show max 0 (cy (xs.map D.str))=0;lia
 show cy (xs.map D.str)+1<=40
 lia
theorem zE:∀xs:List Str,(xs.filter fun y=>!jQ y).isEmpty=xs.all jQ
 | []=>rfl
 | y :: xs=>by
  by_cases h:jQ y=true
  ·rw[Zc (by simp[h]),zE xs,YU,h,Bool.true_and]
  ·rw[Zb (by simp[h]),YU]
   simp[h]
def xB:∀us r,jI us=some r->bM 1 eU us=some r:=by
 intro us r h
 unfold jI at h
 split at h
 ·rename_i d
  obtain⟨hb,rfl⟩:=bh h
  cases d with
  | str z=>
   have hb:z.length<=20000:=hb
   have dX:=dX hb
   by_cases h1:(1:Int)<=z.length
   ·by_cases h3:(z.length:Int)<=8
    ·have h4:1<=z.length:=by lia
     have h5:z.length<=8:=by lia
     have h6:((signs z).map D.str).length<=100000:=by rw[Yh,vQ];lia
     have ei:=zD z
     generalize hx:signs z=xs at h6 ei
     have e:=rM (cap:=[]) (q:=qB (eF (eP sL (aa (eF (aj 0)) (aa (eC (.str "abcdefghijklmnopqrstuvwxyz")) ak))))) (g:=eF (aj 0)) (S:=[XU (.str z)]) (ts:=[]) rfl ow (fun d=>d) (xs.map D.str) [] (fun d hd=>by
      obtain⟨c,_,rfl⟩:=Yz.mp hd
      kernel_rfl) (fun d hd _=>by
      obtain⟨c,_,rfl⟩:=Yz.mp hd
      simp)
     have e2:([]:List D)++((xs.map D.str).filter ow).map (fun d=>d)=(xs.filter fun y=>!jQ y).map D.str:=by rw[tY];simp
     rw[e2] at e
     have e3:=eq_nil (xs.filter fun y=>!jQ y)
     have e4:=jr (xs.filter fun y=>!jQ y)
     rw[zE xs] at e3
     generalize xs.map D.str=L at e ei h6
     generalize (xs.filter fun y=>!jQ y).map D.str=M at e e3 e4
     simp[bM,eU,nameB,iz,lA,lJ,dX,h1,h3,h4,h5,ei,h6,e,e3,e4,hx]
    ·have h2:¬z.length<=8:=by lia
     simp[bM,eU,nameB,iz,lA,lJ,dX,h1,h2,h3]
   ·have h2:¬1<=z.length:=by lia
    simp[bM,eU,nameB,iz,lA,lJ,dX,h1,h2]
  | _=>kernel_rfl
 ·cases h
end Sw
end
section
namespace L2
open PySem PySem.Spec PyProof.Rows
section
variable (S:SS) (d:D) (i:Nat) (g ga gb gc:GD) (gA:GA)
@[simp] theorem UM (f:Int->Int->Int):AQ f i g S=match S[i]? with
 | some (some (.t (.int n)))=>(g S).bind fun p=>match p.1 with
  | .int m=>(jZ i (.t (.int (f n m))) p.2).map .nx
  | _=>none
 | _=>none:=rfl
@[simp] theorem UN:gG [d,.cz]=XU (.bl (fE d)):=rfl
@[simp] theorem UO (ds:List D) (k:Int):Ti [.lst ds,.int k]=if 0<=k/\k.toNat<=100000/\ds.length * k.toNat<=100000 then some (.m (.lst (List.replicate k.toNat ds).flatten)) else none:=rfl
@[simp] theorem Rr:vE gA S=(gA S).bind fun p=>match p.1 with
 | [d]=>(sU d).map fun q=>(yR q.2,p.2)
 | _=>none:=rfl
@[simp] theorem Qi (ds:List D):sU (.lst ds)=some (true,ds):=rfl
@[simp] theorem Qj (ds:List D):sU (.tup ds)=some (false,ds):=rfl
@[simp] theorem Rt (x y:Int):Pf [.int x,.int y]=XX (if y < x then y else x):=rfl
end
end L2
namespace Sq
open PySem PySem.Spec PyProof.Rows L2 Sw
theorem Cp {bd:GB}{body:GS}:∀(ds:List D) (I:List D->SS->Prop) (S:SS),I ds S->(∀d r S,I (d :: r) S->∃S1 S2,bd d S=some S1/\body S1=some (.nx S2)/\I r S2)->∃S',loop bd body ds S=some (.nx S')/\I [] S'
 | [],I,S,h,_=>⟨S,rfl,h⟩
 | d :: ds,I,S,h,k=>by
  obtain⟨S1,S2,e1,e2,h2⟩:=k d ds S h
  obtain⟨S',e,h'⟩:=Cp ds I S2 h2 k
  refine⟨S',?_,h'⟩
  show((bd d S).bind fun S1=>(body S1).bind _)=_
  rw[e1,X4,e2,X4]
  exact e
def qp {gA:GA}{S S':SS}{j:Int}(h:gA S=some ([.int j],S')) (h1:j < 1000000) (h2:-1000000 < j):j4 gA S=some (pT 0 j.toNat,S'):=by
 unfold j4
 rw[h]
 simp only[X4]
 rw[if_pos ⟨h1,h2⟩]
noncomputable abbrev fd (c i l:Int):MO:=.lst [.int c,.int i,.int l]
end Sq
end
section
namespace L2
open PySem PySem.Spec PyProof.Rows
@[simp] theorem UP (n:Nat) (bs:HD) (ds:List D) (S:SS):lN n bs (.tup ds) S=if ds.length=n then bs ds S else none:=rfl
@[simp] theorem Ru (b:GB) (bs:HD) (d:D) (r:List D) (S:SS):dc b bs (d :: r) S=(b d S).bind fun S1=>bs r S1:=rfl
@[simp] theorem UQ (S:SS):lM [] S=some S:=rfl
@[simp] theorem Qk (z:Str):k8 (.str z)=true:=rfl
@[simp] theorem Ql (b:Bool):k8 (.bl b)=true:=rfl
@[simp] theorem Qm (b:Int):k8 (.int b)=true:=rfl
@[simp] theorem PZ (g:GD) (lo hi:Option GD) (S:SS):xh g lo hi S=(g S).bind fun p=>(jk lo p.2).bind fun l=>(jk hi l.2).bind fun h=>(IS p.1 l.1 h.1).map fun u=>(u,h.2):=rfl
@[simp] theorem NX (S:SS):jk none S=some (none,S):=rfl
@[simp] theorem NY (g:GD) (S:SS):jk (some g) S=(g S).bind fun p=>match p.1 with | .int i=>some (some i,p.2) | _=>none:=rfl
@[simp] theorem Jf (ds:List D) (lo hi:Option Int):IS (.tup ds) lo hi=XU (.tup (cutD ds lo hi)):=rfl
@[simp] theorem Jg (ds:List D) (lo hi:Option Int):IS (.lst ds) lo hi=XW (cutD ds lo hi):=rfl
def Gs {bd:GB}{body:GS}(ds:List D) (I:Nat->SS->Prop) (S:SS) (h0:I 0 S) (hs:∀j d S,ds[j]? =some d->I j S->∃S1 S2,bd d S=some S1/\body S1=some (.nx S2)/\I (j+1) S2):∃S',loop bd body ds S=some (.nx S')/\I ds.length S':=by
 obtain⟨S',e,j,hr,hj,hI⟩:=Sq.Cp (bd:=bd) (body:=body) ds (fun r S=>∃j,ds.drop j=r/\j<=ds.length/\I j S) S ⟨0,rfl,Y4 _,h0⟩ (by
  rintro d r S ⟨j,hr,hj,hI⟩
  have hlt:j < ds.length:=by
   have:=congrArg List.length hr
   rw[ZC,Ys] at this
   lia
  rw[YC hlt] at hr
  injection hr with h1 h2
  obtain⟨S1,S2,e1,e2,h3⟩:=hs j d S (by rw[Yo hlt,h1]) hI
  exact⟨S1,S2,e1,e2,j+1,h2,hlt,h3⟩)
 have:j=ds.length:=by
  have:=congrArg List.length hr
  rw[ZC,ZG] at this
  lia
 subst this
 exact⟨S',e,hI⟩
def JL {n j:Nat}{d:D}(h:(pT 0 n)[j]? =some d):j < n/\d= .int j:=by
 unfold pT at h
 rw[Yu] at h
 cases e:(List.range n)[j]? with
 | none=>rw[e] at h;cases h
 | some k=>
  rw[e] at h
  obtain⟨h1,h2⟩:=Ye.mp e
  rw[List.getElem_range] at h2
  rw[List.length_range] at h1
  subst h2
  refine⟨h1,?_⟩
  have:=Yn h
  rw[<-this]
  show D.int (0+(j:Int))=_
  rw[Int.zero_add]
theorem iZ (bd:GB) (body:GS) (d:D) (ds:List D) (S:SS):loop bd body (d :: ds) S=(bd d S).bind fun S1=>(body S1).bind fun o=>match o with
  | .nx S2=>loop bd body ds S2
  | .ct S2=>loop bd body ds S2
  | .bk S2=>some (.nx S2)
  | .rt u S2=>some (.rt u S2):=rfl
end L2
end
section
namespace Sr
open PySem PySem.Spec PyProof.Rows L2 Sw
variable {p:Str×Int}{k:Int}{T:AAG}
def Gu (c:Nat) (a b:Str) (r:List Str):(Str.join ⟨#[c]⟩ (a :: b :: r)).cps.toList=a.cps.toList++c :: (Str.join ⟨#[c]⟩ (b :: r)).cps.toList:=by
 show(a++⟨#[c]⟩++Str.join ⟨#[c]⟩ (b :: r)).cps.toList=_
 simp only[Str.cps_append,Array.toList_append]
 simp
noncomputable def UR:List Str:=["0","1","2","3","4","5"]
noncomputable def dig (k:Int):Str:=UR.getD k.toNat ""
def word (p:Str×Int):Str:=(p.1++".")++dig p.2
structure zF (p:Str×Int):Prop where
 nm:p.1∈dI
 lo:0<=p.2
 hi:p.2<=5
def w_all {P:Str×Int->Prop}(h:∀z∈dI,∀k∈([0,1,2,3,4,5]:List Int),P (z,k))(hp:zF p):P p:=by
 obtain⟨z,k⟩:=p
 refine h z hp.nm k ?_
 have a:0<=k:=hp.lo
 have b:k<=5:=hp.hi
 have:k=0\/k=1\/k=2\/k=3\/k=4\/k=5:=by omega
 rcases this with rfl | rfl | rfl | rfl | rfl | rfl <;> simp
def Gv (h:zF p):(word p).length<=10:=w_all (P:=fun p=>(word p).length<=10) (by decide +kernel) h
def Gw (h0:0<=k) (h1:k<=5):qU [.int k]=XU (.str (dig k)):=by
 have:k=0\/k=1\/k=2\/k=3\/k=4\/k=5:=by omega
 rcases this with rfl | rfl | rfl | rfl | rfl | rfl <;> rfl
def Gx (kvs:AAG) (g:GD) (S:SS):L7 kvs g S=(g S).bind fun p=>match p.1 with | .str z=>(dJ kvs z).map fun i=>(.int i,p.2) | _=>none:=rfl
def zG (n:Bool) (kvs:AAG) (g:GD) (S:SS):sV n kvs g S=(g S).bind fun p=>match p.1 with | .str z=>some (.bl (n != (dJ kvs z).isSome),p.2) | _=>none:=rfl
def A9 (a b c:D):gR [a,b,c] 0=some a:=rfl
def Ba (a b c:D):gR [a,b,c] 2=some c:=rfl
def fX (Gy:FM):GS:=
 (aJ (bL 1 (eP vL (aa (eF (aj 0)) (aa (eC (.str ".")) ak))))
 (aJ (kH (nR (nQ (qB (eF (aX Gy (bC (cH 1 (eC (.int 0))) bT))))) (qB (sV true [("0",0),("1",1),("2",2),("3",3),("4",4),("5",5),("6",6),("7",7),("8",8),("9",9)] (cH 1 (eC (.int 2)))))) (cI (eT (eC .cz))) dO)
 (cI (eP oV (aa (cH 1 (eC (.int 0))) (aa (L7 [("0",0),("1",1),("2",2),("3",3),("4",4),("5",5),("6",6),("7",7),("8",8),("9",9)] (cH 1 (eC (.int 2)))) ak))))))
def pairF:FM:=bM 2 (fX jI)
def Gz:∀us r,pairF us=some r->bM 2 (fX jI) us=some r:=fun _ _ h=>h
def GC:D->D
 | .tup [.str z,.int k]=>.str (word (z,k))
 | _=>.cz
theorem vR {α:Type}(f:α->Str):∀L:List α,lU (L.map fun p=>D.str (f p))=some (L.map f)
 | []=>rfl
 | a :: L=>by show(lU (L.map fun p=>D.str (f p))).map _=_;rw[vR f L];rfl
def MJ (h:zF p):p.1.length+(Str.ofString ".").length<=100000/\(p.1++Str.ofString ".").length+(dig p.2).length<=100000:=w_all (P:=fun p=>p.1.length+(Str.ofString ".").length<=100000/\(p.1++Str.ofString ".").length+(dig p.2).length<=100000) (by decide +kernel) h
def JM (T:AAG):Str:=Txt.join " " (T.map word)
theorem Bb:∀{T:AAG},(∀p∈T,zF p)->((T.map word).map (·.length)).sum<=10 * T.length
 | [],_=>X6 _
 | p :: T,h=>by
  have:=Bb fun q hq=>h q (Yb _ hq)
  have:=Gv (h p Yg)
  simp only[Yj,List.sum_cons,Ys]
  omega
def DL (h:∀p∈T,zF p) (hl:T.length<=1000):JoinOk " " (T.map word)=true:=by
 refine joinOk_of_weight ?_ (by decide)
 have:=Bb h
 rw[Yh]
 omega
def GF (h:∀p∈T,zF p) (hl:T.length<=1000):kh [.str " ",.lst (T.map fun p=>D.str (word p))]=XU (.str (JM T)):=by
 show((lU (T.map fun p=>D.str (word p))).bind fun zs=>if JoinOk " " zs=true then some (U.t (.str (Txt.join " " zs))) else none)=_
 rw[vR word T,X4,if_pos (DL h hl)]
 rfl
def l9 (a b:D):gR [a,b] 0=some a:=rfl
def nj (a b:D):gR [a,b] 1=some b:=rfl
def dY:GS:=
 (cI (eP kh (aa (eC (.str " ")) (aa (eF (sG [] (qc (eF (aj 0))) nB (eF (eP cB (aa (eF (eP cB (aa (cH 0 (eC (.int 0))) (aa (eC (.str ".")) ak)))) (aa (eF (eP qU (aa (cH 0 (eC (.int 1))) ak))) ak)))))) ak))))
def fT:FM:=bM 1 dY
def DM:∀us r,fT us=some r->bM 1 dY us=some r:=fun _ _ h=>h
def zH {d:D}(hd:d= .tup (T.map dW)\/d= .lst (T.map dW)) (h:∀p∈T,zF p) (hl:T.length<=1000):fT [.t d]=some (.t (.str (JM T)),[]):=by
 have e:=ki (cap:=[]) (g:=eF (eP cB (aa (eF (eP cB (aa (cH 0 (eC (.int 0))) (aa (eC (.str ".")) ak)))) (aa (eF (eP qU (aa (cH 0 (eC (.int 1))) ak))) ak)))) (S:=[XU d]) (ts:=[]) rfl GC (T.map dW) [] (fun x hx=>by
  obtain⟨p,hp,rfl⟩:=Yz.mp hx
  have w:=h p hp
  have e1:=Gw w.lo w.hi
  obtain⟨l1,l2⟩:=MJ w
  simp[dW,l9,nj,e1,GC,word,l1,l2])
 have e2:([]:List D)++(T.map dW).map GC=T.map fun p=>D.str (word p):=by rw[Zh,Zn];rfl
 rw[e2] at e
 have e3:=GF h hl
 have e4:T.length<=100000:=by omega
 rcases hd with rfl | rfl
 ·simp[fT,bM,dY,ql,e4,e,e3,aL]
 ·simp[fT,bM,dY,ql,e4,e,e3,aL]
def eV (kQ:FM):GS:=
 (aJ (kH (qB (eF (eP rK (aa (gB 0) (aa (eC (.int 0)) ak))))) (cI (eT (eC (.str "-")))) dO)
 (cI (aX kQ (bC (eF (aj 0)) bT))))
def cG:FM:=bM 1 (eV fT)
def xC:∀us r,cG us=some r->bM 1 (eV fT) us=some r:=fun _ _ h=>h
def due (T:AAG):Str:=if T=[] then "-" else JM T
def zI {d:D}(hd:d= .tup (T.map dW)\/d= .lst (T.map dW)) (h:∀p∈T,zF p) (hl:T.length<=1000):cG [.t d]=some (.t (.str (due T)),[]):=by
 have e:=zH hd h hl
 have e4:T.length<=100000:=by omega
 by_cases q:T=[]
 ·subst q
  rcases hd with rfl | rfl <;> simp[cG,bM,eV,qh,due,aL]
 ·have q2:¬((T.length:Int)=0):=fun z=>q (aaJ.mp (by omega))
  rcases hd with rfl | rfl <;> simp[cG,bM,eV,qh,due,aL,q,q2,e,e4]
def fK (kQ:FM):GS:=
 (cI (aX kQ (bC (eF (aj 0)) bT)))
def cS:FM:=bM 1 (fK fT)
def xD:∀us r,cS us=some r->bM 1 (fK fT) us=some r:=fun _ _ h=>h
def zJ (h:∀p∈T,zF p) (hl:T.length<=1000):cS [.t (.tup (T.map dW))]=some (.t (.str (JM T)),[]):=by
 have e:=zH (.inl rfl) h hl
 simp[cS,bM,fK,e,aL]
def MK (T:AAG):JM T=Str.join ⟨#[32]⟩ (T.map word):=StrLaws.glued_eq_join _ _
def fY (bE:FM) (cC:FM):GS:=
 (aJ (bL 5 (aX bE (bC (eF (aj 4)) bT)))
 (aJ (kH (nQ (qB (eF (aX cC (bC (eF (aj 0)) (bC (eF (aj 5)) bT)))))) Jd dO)
 (qP (eT (eM 2 hAppend (aa (eF (aj 5)) ak))))))
def ju (bE:FM) (cC:FM):GS:=
 (aJ (kH (qB (eF (eP rK (aa (eF (aj 1)) (aa (eC (.str "-")) ak))))) (cI (eP oV ak)) dO)
 (aJ (bL 2 (eP gn ak))
 (aJ (lq (lN 2 (dc (bName 3) (dc (bName 4) lM))) (vE (aa (eF (eP fS (aa (eF (aj 1)) (aa (eC (.str " ")) ak)))) ak)) (fY bE cC))
 (cI (eP nZ (aa (eF (aj 2)) ak))))))
def gI:FM:=bM 6 (ju pairF jq)
def zK:∀us r,gI us=some r->bM 6 (ju pairF jq) us=some r:=fun _ _ h=>h
def tZ {d:D}(h:T.length<=1000):jq [.t (bu T),.t d]=some (.t (.bl (iR T d)),[]):=by simp[jq,h]
noncomputable def tot:List (Str×Int)->Int
 | []=>0
 | p :: T=>p.2+1+tot T
theorem pD (p:Str×Int):∀T:List (Str×Int),tot (T++[p])=tot T+p.2+1
 | []=>by show p.2+1+0=0+p.2+1;omega
 | q :: T=>by show q.2+1+tot (T++[p])=q.2+1+tot T+p.2+1;rw[pD p T];omega
def Bc {z:Str}{L:AAG}(h:z∉L.map (·.1)):inD (.str z) (L.map fun p=>D.str p.1)=false:=by
 unfold inD
 rw[List.any_map,List.any_eq_false]
 intro p hp q
 have:=DF (show kL (.str p.1) (.str z)=true from q)
 injection this with t
 exact h (Yz.mpr ⟨p,hp,t.symm⟩)
theorem jr:∀L:List (Str×Int),cy (L.map fun p=>D.str p.1)<=40
 | []=>Y4 _
 | p :: L=>by
  have:=jr L
  show max (lz (.str p.1)) (cy (L.map fun p=>D.str p.1))<=40
  have e:lz (.str p.1)=0:=rfl
  omega
noncomputable def headD:D->D
 | .tup (a :: _)=>a
 | _=>.cz
theorem uc (i:Nat) (q:GT) (g:GD) (S:SS):n6 i q g S=match S[i]? with
 | some (some (.m (.lst ds)))=>if ds.length<=100000 then(iP [] q g ds S []).map fun r=>(.m (.lst r.1),r.2) else none
 | some (some (.b (.lst ds)))=>if ds.length<=100000 then(iP [] q g ds S []).map fun r=>(.m (.lst r.1),r.2) else none
 | _=>none:=rfl
def dw (bE:FM):GS:=
 (aJ (bL 5 (aX bE (bC (eF (aj 4)) bT)))
 (aJ (kH (nR (qB (eF (eP gG (aa (eF (aj 5)) (aa (eC .cz) ak))))) (nR (qB (eF (eP HC (aa (cH 5 (eC (.int 1))) (aa (eC (.int 5)) ak))))) (qB (eF (eP LH (aa (eF (aj 3)) (aa (eC (.int 4)) ak))))))) Jd dO)
 (aJ (AQ (fun i j=>i - j) 2 (eF (eP cB (aa (cH 5 (eC (.int 1))) (aa (eC (.int 1)) ak)))))
 (aJ (kH (nR (qB (eF (eP KH (aa (eF (aj 2)) (aa (eC (.int 0)) ak))))) (qB (eF (eP IK (aa (cH 5 (eC (.int 0))) (aa (eF (n6 1 nB (cH 0 (eC (.int 0))))) ak)))))) Jd dO)
 (qP (eT (eM 1 hAppend (aa (eF (aj 5)) ak))))))))
def iU (bE:FM):GS:=
 (aJ (bL 1 (eP gn ak))
 (aJ (bL 2 (eT (eC (.int 12))))
 (aJ (lq (lN 2 (dc (bName 3) (dc (bName 4) lM))) (vE (aa (eF (eP fS (aa (eF (aj 0)) (aa (eC (.str " ")) ak)))) ak)) (dw bE))
 (cI (eP nZ (aa (eF (aj 1)) ak))))))
def iA:FM:=bM 6 (iU pairF)
def zL:∀us r,iA us=some r->bM 6 (iU pairF) us=some r:=fun _ _ h=>h
def GG {ns:List Int}(h:0<=k) (h1:k < 1000000) (h2:ns.length < 1000000):qV [.s ns,.t (.int k)]=some (.m (.dct (aT (y9 ns k))),[]):=by simp[qV,h,h1,h2]
def DN {t:cK}(h:0<=t.n) (h1:t.n < 800000):l6 [.b (.dct (aT t))]=some (.t (bu (d7 t).tab),[.dct (aT (d7 t).t)]):=by simp[l6,h,h1]
def JN {t:cK}{most:Int}(ok:pC T) (h0:0<=most) (h1:most<=100) (h:0<=t.n) (h2:t.n < 700000):zj [.b (.dct (aT t)),.t (bu T),.t (.int most)]=some (.t (bu (qk t T most).1),[.dct (aT (qk t T most).2)]):=by
 simp[zj,tH.mpr ok,h0,h1,h,h2]
structure Rv (s:AZ):Prop where
 nm:∀p∈s.tab,p.1∈dI
 lf:s.left=12 - tot s.tab
def GH {s:AZ}(h:qW k s) (h2:Rv s) (hn:0 < s.names.length):Rv (cA s k):=by
 have p1:=bD (t:=s.t) (m:=s.names.length) (by omega)
 have hi:(bg s.t s.names.length).toNat < s.names.length:=by omega
 refine⟨fun p hp=>?_,?_⟩
 ·rcases YN.mp (show p∈s.tab++[_] from hp) with hp | hp
  ·exact h2.nm p hp
  ·have hp:=Yq.mp hp
   subst hp
   exact h.sub _ (getD_mem hi)
 ·have e:=h2.lf
  show s.left - qj 5 (s.left - 4+k) (bg (b8 s.t s.names.length) 6) - 1=12 - tot (s.tab++[(s.names.getD (bg s.t s.names.length).toNat "",qj 5 (s.left - 4+k) (bg (b8 s.t s.names.length) 6))])
  rw[pD]
  generalize qj 5 (s.left - 4+k) (bg (b8 s.t s.names.length) 6)=m
  show s.left - m - 1=12 - (tot s.tab+m+1)
  omega
theorem zM:∀(n:Nat) (s:AZ),n<=4->qW 0 s->n<=s.names.length->Rv s->Rv ((Sw.upTo n).foldl cA s)
 | 0,s,_,_,_,h=>h
 | n+1,s,hn,h,hl,h2=>by
  obtain⟨i1,i2,i3,i4⟩:=rN n s (by omega) h (by omega)
  have e:(Sw.upTo (n+1)).foldl cA s=cA ((Sw.upTo n).foldl cA s) n:=by
   unfold Sw.upTo
   rw[List.range_succ,Zi,List.foldl_append]
   rfl
  rw[e]
  exact GH i1 (zM n s (by omega) h (by omega) h2) (by omega)
def JP (t:cK):(∀p∈(d7 t).tab,zF p)/\tot (d7 t).tab<=12:=by
 have b:=xu t
 have h0:qW 0 ⟨dI,[],12,b8 t 5⟩:=⟨by show([]++dI).Nodup;decide,fun z hz=>hz,(fun p hp=>by cases hp),by show(4:Int) - 0<=12;omega⟩
 obtain⟨i1,i2,i3,i4⟩:=rN (lZ t) ⟨dI,[],12,b8 t 5⟩ b.2 h0 (by show lZ t<=8;omega)
 have j:=zM (lZ t) ⟨dI,[],12,b8 t 5⟩ b.2 h0 (by show lZ t<=8;omega) ⟨(fun p hp=>by cases hp),rfl⟩
 have e:(Sw.upTo (lZ t)).foldl cA ⟨dI,[],12,b8 t 5⟩=d7 t:=rfl
 rw[e] at i1 j
 have l1:=i1.left
 have l2:=j.lf
 exact⟨fun p hp=>⟨j.nm p hp,(i1.ok p hp).1.lo,(i1.ok p hp).2⟩,by omega⟩
structure In (T:AAG) (p:Str×Int):Prop where
 ex:∃q∈T,p.1=q.1/\0<=p.2/\p.2<=q.2
theorem GJ {T:AAG}(ok:pC T):∀(ks:List Int) (s:List (Str×Int)×cK),(∀p∈s.1,In T p)->∀p∈(ks.foldl (cT T) s).1,In T p
 | [],s,h=>h
 | k :: ks,s,h=>GJ ok ks (cT T s k) fun p hp=>by
  have p0:=ok.pos
  have p1:=bD (t:=s.2) (m:=T.length) (by omega)
  have hi:(bg s.2 T.length).toNat < T.length:=by omega
  have hm:=getD_mem (x:=(("":Str),(0:Int))) hi
  rcases YN.mp (show p∈s.1++[_] from hp) with h1 | h1
  ·exact h p h1
  ·have h1:=Yq.mp h1
   subst h1
   have a:=(ok.VE _ hm).1
   have r:=bD (t:=b8 s.2 T.length) (m:=(T.getD (bg s.2 T.length).toNat ("",0)).2+1) (by omega)
   exact⟨_,hm,rfl,r.1,by show bg _ _<=_;omega⟩
def JQ (ok:pC T) (t:cK) (most:Int):∀p∈(qk t T most).1,In T p:=GJ ok _ _ fun p hp=>by cases hp
def US (hT:∀q∈T,zF q) (h:In T p):zF p:=by
 obtain⟨q,hq,e,a,b⟩:=h.ex
 have w:=hT q hq
 have:=w.hi
 exact⟨e▸w.nm,a,by omega⟩
def kb (aU:FM) (aK:FM) (bf:FM) (aB:FM) (oz:FM) (aO:FM) (aG:FM) (mY:FM) (jJ:FM):GS:=
 (aJ (bL 5 (aX oz (bC (eF (aj 4)) bT)))
 (kH (qB (eF (eP rK (aa (eF (aj 4)) (aa (eF (eP oV ak)) ak))))) (bL 5 (eT (eC (.str "-")))) dO))
def kd (aU:FM) (aK:FM) (bf:FM) (aB:FM) (oz:FM) (aO:FM) (aG:FM) (mY:FM) (jJ:FM):GS:=
 (aJ (bL 8 (aX aG (bC (eF (aj 3)) bT)))
 (aJ (kH (nR (qB (eF (eP HE (aa (eF (aj 8)) (aa (eF (aX oz (bC (eF (aj 3)) bT))) ak))))) (nQ (qB (HF ["str"] (eF (aj 8)))))) (cI (eT (eC (.bl false)))) dO)
 (kH (nR (qB (eF (eP HE (aa (eF (eP Cb (aa (eF (aX mY (bC (eF (aj 3)) (bC (eF (aj 5)) bT)))) ak))) (aa (eF (eP Cb (aa (eF (aj 4)) ak))) ak))))) (qB (eF (eP HE (aa (eF (eP Cb (aa (eF (aX jJ (bC (eF (aj 8)) bT))) ak))) (aa (eF (eP Cb (aa (eF (aj 3)) ak))) ak)))))) (cI (eT (eC (.bl false)))) dO)))
end Sr
end
section
namespace Sd
open PySem PySem.Spec PyProof.Rows L2 Sw Sr
variable {w z:Str}{l r:List Nat}{c:Nat}{k j:Int}{T L:AAG}{s0 s1 s2 x3 x4 x5 x6 x7 x8 x9:Option U}{td:D}{acc:List D}{C:Addr}{S:SS}{ns:List Int}
noncomputable def gZ (l:List Nat):Str:=⟨l.toArray⟩
def pF (l:List Nat):(gZ l).cps.toList=l:=by simp[gZ]
def Be (h:w.cps.toList=l):w=gZ l:=StrLaws.mk_of_toList h
def rR (l:List Nat):(gZ l).length=l.length:=by simp[gZ,Str.length]
def jK (w:Str):w.cps.toList.length=w.length:=by simp[Str.length]
def GK:List Nat->Option (Str×Int)
 | d :: c :: r=>if c=46/\48<=d/\d<=57/\nameB (.str (gZ r.reverse))=true then some (gZ r.reverse,((d - 48:Nat):Int)) else none
 | _=>none
def iB (w:Str):Option (Str×Int):=GK w.cps.toList.reverse
def gQ:Option (Str×Int)->D
 | some p=>dW p
 | none=>.cz
def JR (c:Nat):jQ ⟨#[c]⟩=decide (97<=c/\c<=122):=by
 unfold jQ
 rw[aaA]
 have e:Sw.UK.cps.toList=(List.range 26).map (· +97):=by decide +kernel
 rw[e]
 by_cases h:97<=c/\c<=122
 ·rw[YK h,YK]
  exact Yz.mpr ⟨c - 97,YV.mpr (by omega),by omega⟩
 ·rw[Yt h,Yt]
  intro m
  obtain⟨k,hk,rfl⟩:=Yz.mp m
  have:=YV.mp hk
  exact h (by omega)
def Bf (h:nameB (.str z)=true):∀c∈z.cps.toList,97<=c/\c<=122:=by
 intro c hc
 have h2:(Sw.signs z).all jQ=true:=by
  have:(decide (1<=z.length) && decide (z.length<=8) && (Sw.signs z).all jQ)=true:=h
  exact(Yr _ _▸this).2
 have h3:=Z1.mp h2 ⟨#[c]⟩ (Yz.mpr ⟨c,hc,rfl⟩)
 rw[JR] at h3
 exact Zs h3
def GL (h:nameB (.str z)=true):1<=z.length/\z.length<=8:=by
 have:(decide (1<=z.length) && decide (z.length<=8) && (Sw.signs z).all jQ)=true:=h
 rw[Yr,Yr] at this
 exact⟨Zs this.1.1,Zs this.1.2⟩
def DO (h:46∉w.cps.toList):Txt.partition w "." =(w,Str.empty,Str.empty):=by
 have e:(Builtin.Str.occurrences w "." 0 w.length 1)=[]:=by
  have:=aaA w 46
  rw[Yt h] at this
  have q:(Builtin.Str.occurrences w ⟨#[46]⟩ 0 w.length 1).isEmpty=true:=by
   cases k:(Builtin.Str.occurrences w ⟨#[46]⟩ 0 w.length 1).isEmpty with
   | true=>rfl
   | false=>rw[k] at this;cases this
  exact List.isEmpty_iff.mp q
 unfold Txt.partition
 rw[e]
def DP {A C:List Nat}(h:w.cps.toList=A++46 :: C) (hA:46∉A):Txt.partition w "." =(gZ A,(".":Str),gZ C):=by
 have at_:∀i,StrLaws.At w ⟨#[46]⟩ w.length i↔w.cps.toList[i]? =some 46:=fun i=>StrLaws.subAt_one w 46 i
 rcases StrLaws.occ_head w ⟨#[46]⟩ 1 (X6 _) with⟨h0,hn⟩ | ⟨i,r,h0,hi,hk⟩
 ·exact absurd ((at_ A.length).mpr (by rw[h];simp)) (hn A.length)
 ·have hi:=(at_ i).mp hi
  have ei:i=A.length:=by
   rcases Nat.lt_trichotomy i A.length with q | q | q
   ·rw[h,Zk q] at hi
    exact absurd (YH hi) hA
   ·exact q
   ·exact absurd ((at_ A.length).mpr (by rw[h];simp)) (hk _ q)
  subst ei
  have hl:w.length=A.length+(C.length+1):=by rw[<-jK,h];simp
  unfold Txt.partition
  rw[show(Builtin.Str.occurrences w "." 0 w.length 1)=A.length :: r from h0]
  have e1:Builtin.Str.strSub w 0 A.length=gZ A:=Be (by rw[StrLaws.strSub_toList,h];simp)
  have e2:Builtin.Str.strSub w (A.length+(".":Str).length) w.length=gZ C:=Be (by
   rw[StrLaws.strSub_toList,h,hl]
   have:(".":Str).length=1:=rfl
   rw[this,List.drop_append,List.drop_of_length_le (by omega)]
   have:A.length+1 - A.length=1:=by omega
   rw[this]
   simp
   exact List.take_of_length_le (by omega))
  show(Builtin.Str.strSub w 0 A.length,(".":Str),Builtin.Str.strSub w (A.length+(".":Str).length) w.length)=_
  rw[e1,e2]
theorem Cq:∀l:List Nat,46∉l\/∃A C,l=A++46 :: C/\46∉A
 | []=>.inl (by simp)
 | x :: l=>by
  by_cases hx:x=46
  ·subst hx;exact .inr ⟨[],l,rfl,by simp⟩
  ·rcases Cq l with h | ⟨A,C,rfl,hA⟩
   ·exact .inl (by simp[h];exact fun z=>hx z.symm)
   ·exact .inr ⟨x :: A,C,rfl,by simp[hA];exact fun z=>hx z.symm⟩
noncomputable def rq:List (Str×Int):=[("0",0),("1",1),("2",2),("3",3),("4",4),("5",5),("6",6),("7",7),("8",8),("9",9)]
def vU {d:Nat}(h0:48<=d) (h1:d<=57):d=48\/d=49\/d=50\/d=51\/d=52\/d=53\/d=54\/d=55\/d=56\/d=57:=by omega
def GO {d:Nat}(h0:48<=d) (h1:d<=57):dJ rq (gZ [d])=some ((d - 48:Nat):Int):=by
 rcases vU h0 h1 with rfl | rfl | rfl | rfl | rfl | rfl | rfl | rfl | rfl | rfl <;> decide +kernel
def zN {i:Int}(h:dJ rq z=some i):∃d:Nat,48<=d/\d<=57/\z=gZ [d]:=by
 have key:∀p∈rq,∃d∈(List.range 10).map (· +48),p.1=gZ [d]:=by decide +kernel
 have hm:∃p∈rq,z=p.1:=by
  unfold dJ at h
  obtain⟨p,h1,_⟩:=ao h
  exact⟨p,List.mem_of_find?_eq_some h1,by have:=List.find?_some h1;simpa using(Zs this).symm⟩
 obtain⟨p,hp,e⟩:=hm
 obtain⟨d,hd,e2⟩:=key p hp
 obtain⟨k,hk,rfl⟩:=Yz.mp hd
 have:=YV.mp hk
 exact⟨_,by omega,by omega,e.trans e2⟩
def zO (h:z.length<=20000):jI [.t (.str z)]=some (.t (.bl (nameB (.str z))),[]):=by
 show(if z.length<=20000 then some (U.t (.bl (nameB (.str z))),[]) else none)=_
 rw[if_pos h]
def ML (a c:Str):D:=if nameB (.str a)=true then(match dJ rq c with | some i=>dW (a,i) | none=>.cz) else .cz
def ud {a b c:Str}(hp:Txt.partition w "." =(a,b,c)) (hw:w.length<=100000) (ha:a.length<=20000):pairF [.t (.str w)]=some (.t (ML a c),[]):=by
 have e1:=zO ha
 have e4:vL [.str w,.str "."]=XU (.tup [.str a,.str b,.str c]):=by
  show(if _ then some (U.t (.tup [.str (Txt.partition w ".").1,.str (Txt.partition w ".").2.1,.str (Txt.partition w ".").2.2])) else none)=_
  rw[if_pos ⟨rfl,hw⟩,hp]
 unfold ML
 cases n:nameB (.str a) with
 | false=>
  rw[n] at e1
  simp[pairF,bM,fX,e4,e1,A9,Ba,aL]
 | true=>
  rw[n] at e1
  cases q:dJ rq c with
  | none=>
   have q:dJ [("0",0),("1",1),("2",2),("3",3),("4",4),("5",5),("6",6),("7",7),("8",8),("9",9)] c=none:=q
   simp[pairF,bM,fX,e4,e1,q,A9,Ba,Gx,zG,aL]
  | some i=>
   have q:dJ [("0",0),("1",1),("2",2),("3",3),("4",4),("5",5),("6",6),("7",7),("8",8),("9",9)] c=some i:=q
   simp[pairF,bM,fX,e4,e1,q,A9,Ba,Gx,zG,aL,dW]
def MM (w:Str){A C:List Nat}(h:w.cps.toList=A++46 :: C) (hA:46∉A):gQ (iB w)=ML (gZ A) (gZ C):=by
 unfold iB
 rw[h]
 rcases hC:C.reverse with _ | ⟨d,r⟩
 ·have:C=[]:=by simpa using hC
  subst this
  have q:dJ rq (gZ [])=none:=by decide +kernel
  have e:(A++[46]).reverse=46 :: A.reverse:=by simp
  rw[e]
  unfold ML
  rw[q]
  cases A.reverse with
  | nil=>simp[GK,gQ]
  | cons x xs=>simp[GK,gQ]
 ·have e0:C=r.reverse++[d]:=by have:=congrArg List.reverse hC;simpa using this
  have e:(A++46 :: C).reverse=d :: (r++46 :: A.reverse):=by rw[e0];simp
  rw[e]
  cases r with
  | nil=>
   have e1:C=[d]:=e0
   subst e1
   show gQ (if _ then some (gZ A.reverse.reverse,_) else none)=_
   rw[List.reverse_reverse]
   unfold ML
   by_cases hd:48<=d/\d<=57
   ·have q:=GO hd.1 hd.2
    rw[q]
    cases n:nameB (.str (gZ A)) with
    | true=>simp[hd,gQ]
    | false=>simp[gQ]
   ·have q:dJ rq (gZ [d])=none:=by
     cases k:dJ rq (gZ [d]) with
     | none=>rfl
     | some i=>
      obtain⟨d',h0,h1,e⟩:=zN k
      have:=congrArg (fun z:Str=>z.cps.toList) e
      simp only[pF] at this
      injection this with t
      exact absurd ⟨t▸h0,t▸h1⟩ hd
    rw[q]
    have nd:¬((46:Nat)=46/\48<=d/\d<=57/\nameB (.str (gZ A))=true):=fun z=>hd ⟨z.2.1,z.2.2.1⟩
    rw[if_neg nd]
    simp[gQ]
  | cons c2 r=>
   have q:dJ rq (gZ C)=none:=by
    cases k:dJ rq (gZ C) with
    | none=>rfl
    | some i=>
     obtain⟨d',h0,h1,e⟩:=zN k
     have:=congrArg (fun z:Str=>z.cps.toList.length) e
     simp only[pF] at this
     rw[e0] at this
     simp at this
   have nn:¬(c2=46/\48<=d/\d<=57/\nameB (.str (gZ (r++46 :: A.reverse).reverse))=true):=fun z=>by
    have:=Bf z.2.2.2 46 (by rw[pF];simp)
    omega
   have e3:(if c2=46/\48<=d/\d<=57/\nameB (D.str (gZ (r++46 :: A.reverse).reverse))=true then some (gZ (r++46 :: A.reverse).reverse,((d - 48:Nat):Int)) else none)=none:=if_neg nn
   rw[show GK (d :: (c2 :: r++46 :: A.reverse))=none from e3]
   unfold ML
   rw[q]
   simp[gQ]
def GP (w:Str) (h:46∉w.cps.toList):iB w=none:=by
 unfold iB
 have h:46∉w.cps.toList.reverse:=by simpa using h
 generalize w.cps.toList.reverse=l at h
 match l,h with
 | [],_=>rfl
 | [_],_=>rfl
 | d :: c :: r,h=>
  show(if _ then _ else _)=_
  rw[if_neg (fun z=>h (by rw[z.1];simp))]
def jw (h:w.length<=20000):pairF [.t (.str w)]=some (.t (gQ (iB w)),[]):=by
 rcases Cq w.cps.toList with hd | ⟨A,C,e,hA⟩
 ·have e:=ud (DO hd) (by omega) h
  have q:dJ rq Str.empty=none:=by decide +kernel
  rw[GP w hd,e]
  unfold ML
  rw[q]
  simp[gQ]
 ·have hl:(gZ A).length<=20000:=by
   rw[rR]
   have:=jK w
   rw[e] at this
   simp at this
   omega
  rw[ud (DP e hA) (by omega) hl,MM w e hA]
def dg (uP:FM):GS:=
 (aJ (kH (nR (qB (eF (eP KH (aa (gB 0) (aa (eC (.int 3)) ak))))) (nR (qB (eF (eP HE (aa (eF (eP E5 (aa (eF (aj 0)) (aa (eF (eP yH (aa (eC (.int 2)) ak))) ak)))) (aa (eC (.str ".")) ak))))) (nR (qB (eF (eP sL (aa (eF (eP E5 (aa (eF (aj 0)) (aa (eF (eP yH (aa (eC (.int 1)) ak))) ak)))) (aa (eC (.str "0123456789")) ak))))) (nQ (qB (eF (aX uP (bC (eF (xh (eF (aj 0)) none (some (eF (eP yH (aa (eC (.int 2)) ak)))))) bT)))))))) (cI (eT (eC .cz))) dO)
 (cI (eP oV (aa (eF (xh (eF (aj 0)) none (some (eF (eP yH (aa (eC (.int 2)) ak)))))) (aa (eF (eP vO (aa (eC (.str "0123456789")) (aa (eF (eP E5 (aa (eF (aj 0)) (aa (eF (eP yH (aa (eC (.int 1)) ak))) ak)))) ak)))) ak)))))
def oG:FM
 | [.t (.str w)]=>if w.length<=20000 then some (.t (gQ (iB w)),[]) else none
 | _=>none
def JV {d:Nat}(h:l.reverse=d :: r):gR l (-1)=some d:=by
 have e:l=r.reverse++[d]:=by have:=congrArg List.reverse h;simpa using this
 rw[e]
 unfold gR CZ
 have h1:(1:Int)<=(r.length:Int)+1:=by omega
 have h2:(-1+((r.length:Int)+1)).toNat=r.reverse.length:=by rw[Zd];omega
 simp[h1]
 rw[h2]
 simp
def JX {d:Nat}(h:l.reverse=d :: c :: r):gR l (-2)=some c:=by
 have e:l=r.reverse++[c,d]:=by have:=congrArg List.reverse h;simpa using this
 rw[e]
 unfold gR CZ
 have h1:(2:Int)<=(r.length:Int)+2:=by omega
 have h2:(-2+((r.length:Int)+2)).toNat=r.reverse.length:=by rw[Zd];omega
 simp[h1]
 rw[h2]
 simp
def GQ {d:Nat}(h:w.cps.toList.reverse=d :: c :: r):Txt.slice w none (some (-2))=gZ r.reverse:=by
 have e:w.cps.toList=r.reverse++[c,d]:=by have:=congrArg List.reverse h;simpa using this
 have hl:w.length=r.length+2:=by rw[<-jK,e];simp
 show StrLaws.sliceText w none (some (-2))=_
 rw[StrLaws.sliceText_neg_hi w none (by decide) (by omega),StrLaws.sliceText_to ⟨by omega,by rw[jK];omega⟩,e]
 have:((-2+(w.length:Int)) - 0).toNat=r.length:=by omega
 rw[this]
 unfold gZ
 simp
def DQ (d:Nat):sL [.str (gZ [d]),.str "0123456789"]=XU (.bl (!decide (48<=d/\d<=57))):=by
 show some (U.t (.bl (!(!(Builtin.Str.occurrences "0123456789" (gZ [d]) 0 ("0123456789":Str).length 1).isEmpty))))=_
 have e:=aaA "0123456789" d
 rw[show(⟨#[d]⟩:Str)=gZ [d] from rfl] at e
 rw[e]
 have q:("0123456789":Str).cps.toList=(List.range 10).map (· +48):=by decide +kernel
 rw[q]
 by_cases h:48<=d/\d<=57
 ·have m:d∈(List.range 10).map (· +48):=Yz.mpr ⟨d - 48,YV.mpr (by omega),by omega⟩
  rw[YK m,YK h]
 ·have m:¬d∈(List.range 10).map (· +48):=fun m=>by
   obtain⟨k,hk,rfl⟩:=Yz.mp m
   have:=YV.mp hk
   exact h (by omega)
  rw[Yt m,Yt h]
def JY {d:Nat}(h0:48<=d) (h1:d<=57):vO [.str "0123456789",.str (gZ [d])]=XX ((d - 48:Nat):Int):=by
 have e:(Builtin.Str.occurrences "0123456789" (gZ [d]) 0 ("0123456789":Str).length 1).head? =some (d - 48):=by
  rcases vU h0 h1 with rfl | rfl | rfl | rfl | rfl | rfl | rfl | rfl | rfl | rfl <;> decide +kernel
 show((Builtin.Str.occurrences "0123456789" (gZ [d]) 0 ("0123456789":Str).length 1).head?).map _=_
 rw[e]
 rfl
def GR {i:Int}(hl:w.length<=20000) (h:gR w.cps.toList i=some c):E5 [.str w,.int i]=XU (.str (gZ [c])):=by
 show(if w.length<=100000 then(gR w.cps.toList i).map fun c=>U.t (.str ⟨#[c]⟩) else none)=_
 rw[if_pos (by omega),h]
 rfl
def MN:∀us r,oG us=some r->bM 1 (dg jI) us=some r:=by
 intro us r h
 unfold oG at h
 split at h
 ·rename_i w
  obtain⟨hl,rfl⟩:=bh h
  have lu:=dX hl
  have hl1:w.length<=100000:=by omega
  have cl:=jK w
  unfold iB
  rcases hw:w.cps.toList.reverse with _ | ⟨d,_ | ⟨c,r⟩⟩
  ·have:w.cps.toList.length=0:=by rw[<-Zd,hw];rfl
   have h3:((w.length:Int) < 3):=by omega
   simp[bM,dg,lu,h3,GK,gQ,aL]
  ·have:w.cps.toList.length=1:=by rw[<-Zd,hw];rfl
   have h3:((w.length:Int) < 3):=by omega
   simp[bM,dg,lu,h3,GK,gQ,aL]
  ·have hlen:w.cps.toList.length=r.length+2:=by rw[<-Zd,hw];rfl
   by_cases h3:(w.length:Int) < 3
   ·have:r=[]:=aaJ.mp (by omega)
    subst this
    have n0:nameB (.str (gZ ([]:List Nat).reverse))=false:=by decide +kernel
    have n1:¬(c=46/\48<=d/\d<=57/\nameB (.str (gZ ([]:List Nat).reverse))=true):=fun z=>by rw[n0] at z;exact Bool.noConfusion z.2.2.2
    have e3:GK [d,c]=none:=if_neg n1
    simp[bM,dg,lu,h3,e3,gQ,aL]
   ·have r1:=GR hl (JV hw)
    have r2:=GR hl (JX hw)
    have sl:=GQ hw
    have ni:=DQ d
    have nm:=zO (z:=gZ r.reverse) (by rw[rR,Zd];omega)
    have dot:(gZ [c]=Str.ofString ".")↔c=46:=by
     constructor
     ·intro z
      have:=congrArg (fun z:Str=>z.cps.toList) z
      simp only[pF] at this
      have q:(Str.ofString ".").cps.toList=[46]:=by decide +kernel
      rw[q] at this
      injection this
     ·rintro rfl;rfl
    by_cases hc:c=46
    ·have hc':=dot.mpr hc
     by_cases hd:48<=d/\d<=57
     ·have ix:=JY hd.1 hd.2
      rw[YK hd] at ni
      cases n:nameB (.str (gZ r.reverse)) with
      | true=>
       rw[n] at nm
       have e3:GK (d :: c :: r)=some (gZ r.reverse,((d - 48:Nat):Int)):=if_pos ⟨hc,hd.1,hd.2,n⟩
       simp[-List.reverse_reverse,bM,dg,lu,h3,r1,r2,hl1,sl,ni,nm,hc',ix,e3,gQ,dW,aL]
      | false=>
       rw[n] at nm
       have e3:GK (d :: c :: r)=none:=if_neg fun z=>by rw[n] at z;exact Bool.noConfusion z.2.2.2
       simp[bM,dg,lu,h3,r1,r2,hl1,sl,ni,nm,hc',e3,gQ,aL]
     ·rw[Yt hd] at ni
      have e3:GK (d :: c :: r)=none:=if_neg fun z=>hd ⟨z.2.1,z.2.2.1⟩
      simp[bM,dg,lu,h3,r1,r2,hl1,ni,hc',e3,gQ,aL]
    ·have hc':¬(gZ [c]=Str.ofString "."):=fun z=>hc (dot.mp z)
     have e3:GK (d :: c :: r)=none:=if_neg fun z=>hc z.1
     simp[bM,dg,lu,h3,r1,r2,hl1,hc',e3,gQ,aL]
 ·cases h
section
variable (S:SS) (g:GS) (ga gb:GX) (q:GT) (gA:GA) (C:Addr) (ns:List Str)
@[simp] theorem VR:Gd g gb S=match g S with | some (.nx S1)=>gb S1 | _=>none:=rfl
@[simp] theorem UT:Gb ga g gb S=match ga S with | some r=>some r | none=>(match g S with | some (.nx S1)=>gb S1 | _=>none):=rfl
@[simp] theorem VS:Ju q ga gb S=(q S).bind fun p=>if p.1 then ga p.2 else gb p.2:=rfl
@[simp] theorem VT:Qc S=none:=rfl
@[simp] theorem Qn:qo C ns gA S=(gA S).bind fun p=>if p.1.length=ns.length then some ((C,ns.zip p.1),p.2) else none:=rfl
@[simp] theorem VU:Jd S=none:=rfl
end
noncomputable def wt (ws:List Str):Nat:=(ws.map fun w=>w.length+1).sum
def pG (w:Str) (ws:List Str):wt (w :: ws)=w.length+1+wt ws:=by simp[wt]
def jx (a b:List Str):wt (a++b)=wt a+wt b:=by simp[wt]
theorem GV {w:Str}:∀{ws:List Str},w∈ws->w.length+1<=wt ws
 | x :: ws,h=>by
  rw[pG]
  rcases Yi.mp h with rfl | h
  ·omega
  ·have:=GV h
   omega
theorem kR:∀ws:List Str,ws.length<=wt ws
 | []=>Y4 _
 | w :: ws=>by have:=kR ws;rw[pG,Ys];omega
theorem Bg:∀ws:List Str,(ws.map (·.length)).sum+ws.length=wt ws
 | []=>rfl
 | w :: ws=>by have:=Bg ws;rw[pG,Yj,List.sum_cons,Ys];omega
theorem Cr:∀(w:Str) (ws:List Str),wt (w :: ws)=(Str.join ⟨#[32]⟩ (w :: ws)).length+1
 | w,[]=>by simp[pG,wt,Str.join]
 | w,v :: ws=>by
  have ih:=Cr v ws
  have e:=congrArg List.length (Gu 32 w v ws)
  rw[jK,Yy,Ys,jK,jK] at e
  rw[pG,ih,e]
  omega
def join_eq (ws:List Str):Txt.join " " ws=Str.join ⟨#[32]⟩ ws:=StrLaws.glued_eq_join _ _
def ue (z:Str):∃w ws,Txt.split z " " =w :: ws:=by
 have:=PyProof.Rows.split_pos z " "
 cases h:Txt.split z " " with
 | nil=>rw[h] at this;exact absurd this (by decide)
 | cons w ws=>exact⟨w,ws,rfl⟩
def xE (z:Str):Txt.join " " (Txt.split z " ")=z:=by rw[join_eq];exact StrLaws.join_split z ⟨#[32]⟩
def mh (z:Str):wt (Txt.split z " ")=z.length+1:=by
 obtain⟨w,ws,e⟩:=ue z
 have j:=xE z
 rw[join_eq] at j
 rw[e] at j ⊢
 rw[Cr,j]
def fq (h:z.length<=20000):fS [.str z,.str " "]=XW ((Txt.split z " ").map D.str):=by
 have a:=mh z
 have b:=kR (Txt.split z " ")
 show(if _ then some (U.m (.lst ((Txt.split z " ").map D.str))) else none)=_
 rw[if_pos ⟨by decide,by omega,by omega⟩]
theorem strs_map:∀ws:List Str,lU (ws.map D.str)=some ws
 | []=>rfl
 | w :: ws=>by show(lU (ws.map D.str)).map _=_;rw[strs_map ws];rfl
def pH {ws:List Str}(h:wt ws<=100000):kh [.str " ",.lst (ws.map D.str)]=XU (.str (Txt.join " " ws)):=by
 show((lU (ws.map D.str)).bind fun zs=>if JoinOk " " zs=true then some (U.t (.str (Txt.join " " zs))) else none)=_
 have:=Bg ws
 rw[strs_map,X4,if_pos (joinOk_of_weight (by omega) (by decide))]
def qu (ws:List Str):(Txt.join " " ws).length<=wt ws:=by
 rw[join_eq]
 have a:=StrLaws.join_length_le (⟨#[32]⟩:Str) ws
 have b:=Bg ws
 have c:(⟨#[32]⟩:Str).length=1:=rfl
 rw[c] at a
 omega
noncomputable def fL:Nat->List Str->List D
 | _,[]=>[]
 | k,w :: ws=>.tup [.int (k:Int),.str w] :: fL (k+1) ws
theorem Cs:∀(ws:List Str) (k:Nat),(ws.map D.str).mapIdx (fun i d=>D.tup [.int ((i+k:Nat):Int),d])=fL k ws
 | [],k=>rfl
 | w :: ws,k=>by
  have ih:=Cs ws (k+1)
  rw[Yj,List.mapIdx_cons]
  show D.tup [.int ((0+k:Nat):Int),.str w] :: _=_
  rw[Nat.zero_add]
  unfold fL
  congr 1
  have e:(fun(i:Nat) (d:D)=>D.tup [.int ((i+1+k:Nat):Int),d])=fun i d=>D.tup [.int ((i+(k+1):Nat):Int),d]:=by
   funext i d
   rw[Nat.add_assoc,Nat.add_comm 1 k]
  rw[e]
  exact ih
def mZ (ws:List Str):yR (ws.map D.str)=fL 0 ws:=Cs ws 0
def uf {p:Str×Int}(h:iB w=some p):nameB (.str p.1)=true/\0<=p.2/\p.2<=9/\w=(p.1++".")++gZ [48+p.2.toNat]:=by
 unfold iB at h
 rcases hw:w.cps.toList.reverse with _ | ⟨d,_ | ⟨c,r⟩⟩
 ·rw[hw] at h;cases h
 ·rw[hw] at h;cases h
 ·rw[hw] at h
  obtain⟨⟨hc,h0,h1,hn⟩,e⟩:=bh (show(if c=46/\48<=d/\d<=57/\nameB (.str (gZ r.reverse))=true then some (gZ r.reverse,((d - 48:Nat):Int)) else none)=some p from h)
  subst e
  refine⟨hn,by show(0:Int)<=((d - 48:Nat):Int);omega,by show((d - 48:Nat):Int)<=9;omega,?_⟩
  have e:w.cps.toList=r.reverse++[c,d]:=by have:=congrArg List.reverse hw;simpa using this
  refine(Be e).trans ?_
  show gZ (r.reverse++[c,d])=(gZ r.reverse++".")++gZ [48+(((d - 48:Nat):Int)).toNat]
  have e2:48+(((d - 48:Nat):Int)).toNat=d:=by omega
  rw[e2]
  refine Str.ext' (Array.toList_inj.mp ?_)
  have q:((".":Str)).cps.toList=[46]:=by decide +kernel
  simp only[Str.cps_append,Array.toList_append,pF,q,hc]
  simp
def w9 (p:Str×Int):Str:=(p.1++".")++gZ [48+p.2.toNat]
structure G9 (p:Str×Int):Prop where
 nm:nameB (.str p.1)=true
 lo:0<=p.2
 hi:p.2<=9
def Qo (h0:0<=k) (h1:k<=9):qU [.int k]=XU (.str (gZ [48+k.toNat])):=by
 have:k=0\/k=1\/k=2\/k=3\/k=4\/k=5\/k=6\/k=7\/k=8\/k=9:=by omega
 rcases this with rfl | rfl | rfl | rfl | rfl | rfl | rfl | rfl | rfl | rfl <;> rfl
def UU:D->D
 | .tup [.str z,.int k]=>.str (w9 (z,k))
 | _=>.cz
def GW (h:∀p∈T,G9 p) (hl:wt (T.map w9)<=100000):fT [.t (.tup (T.map dW))]=some (.t (.str (Txt.join " " (T.map w9))),[]):=by
 have e:=ki (cap:=[]) (g:=eF (eP cB (aa (eF (eP cB (aa (cH 0 (eC (.int 0))) (aa (eC (.str ".")) ak)))) (aa (eF (eP qU (aa (cH 0 (eC (.int 1))) ak))) ak)))) (S:=[XU (.tup (T.map dW))]) (ts:=[]) rfl UU (T.map dW) [] (fun x hx=>by
  obtain⟨p,hp,rfl⟩:=Yz.mp hx
  have w:=h p hp
  have e1:=Qo w.lo w.hi
  have np:=GL w.nm
  have l0:(Str.ofString ".").length=1:=rfl
  have l1:p.1.length+(Str.ofString ".").length<=100000:=by omega
  have l3:(gZ [48+p.2.toNat]).length=1:=rR _
  have l2:(p.1++Str.ofString ".").length+(gZ [48+p.2.toNat]).length<=100000:=by rw[YM];omega
  simp[dW,l9,nj,e1,UU,w9,l1,l2])
 have e2:([]:List D)++(T.map dW).map UU=(T.map w9).map D.str:=by rw[Zh,Zn,Zn];rfl
 rw[e2] at e
 have e3:=pH hl
 have e5:=kR (T.map w9)
 rw[Yh] at e5
 have e4:T.length<=100000:=by omega
 simp[-List.map_map,fT,bM,dY,ql,e4,e,e3,aL]
def jL (T:AAG):List Str->Nat->Option Nat
 | [],_=>none
 | w :: ws,k=>if iR T (gQ (iB w))=true then jL T ws (k+1) else some k
def pI (h3:dR x3=false) (h4:dR x4=false):lN 2 (dc (bName 3) (dc (bName 4) lM)) (.tup [.int k,.str w]) [s0,s1,s2,x3,x4,x5]=some [s0,s1,s2,XX k,XU (.str w),x5]:=by
 simp[-bW,bA,lM,h3,h4]
def qw (hT:T.length<=1000) (hw:w.length<=20000) (hh:iR T (gQ (iB w))=true) (ha:acc.length < 100000) (h5:dR x5=false):
  fY pairF jq [XU (bu T),XU td,XW acc,XX j,XU (.str w),x5]=some (.nx [XU (bu T),XU td,XW (acc++[gQ (iB w)]),XX j,XU (.str w),XU (gQ (iB w))]):=by
 have e1:=jw hw
 have e2:=tZ (d:=gQ (iB w)) hT
 rw[hh] at e2
 generalize gQ (iB w)=d at *
 simp[-bW,bA,fY,e1,e2,hAppend,ha,h5]
noncomputable def Ac (C:Addr) (j:Int):XV:=(C,[(("at":Str),D.int j)])
def mj (bE:FM) (cC:FM) (aC:Addr):GS:=
 (aJ (bL 5 (aX bE (bC (eF (aj 4)) bT)))
 (aJ (kH (nQ (qB (eF (aX cC (bC (eF (aj 0)) (bC (eF (aj 5)) bT)))))) Jd dO)
 (qP (eT (eM 2 hAppend (aa (eF (aj 5)) ak))))))
def eY (bE:FM) (cC:FM) (aC:Addr):GX:=
 (Gd (bL 5 (aX bE (bC (eF (aj 4)) bT)))
 (Ju (nQ (qB (eF (aX cC (bC (eF (aj 0)) (bC (eF (aj 5)) bT)))))) (qo aC ["at"] (aa (eF (aj 3)) ak)) Qc))
def fZ (bE:FM) (cC:FM) (aC:Addr):GX:=
 (Gd (kH (qB (eF (eP rK (aa (eF (aj 1)) (aa (eC (.str "-")) ak))))) (cI (eP oV ak)) dO)
 (Gd (bL 2 (eP gn ak))
 (zA (lN 2 (dc (bName 3) (dc (bName 4) lM))) (vE (aa (eF (eP fS (aa (eF (aj 1)) (aa (eC (.str " ")) ak)))) ak)) (eY bE cC aC) (mj bE cC aC))))
def GY (hT:T.length<=1000) (hw:w.length<=20000) (hh:iR T (gQ (iB w))=true) (h5:dR x5=false):
  eY pairF jq C [XU (bu T),XU td,XW acc,XX j,XU (.str w),x5]=none:=by
 have e1:=jw hw
 have e2:=tZ (d:=gQ (iB w)) hT
 rw[hh] at e2
 generalize gQ (iB w)=d at *
 simp[-bW,bA,eY,e1,e2,h5]
def MP (hT:T.length<=1000) (hw:w.length<=20000) (hh:iR T (gQ (iB w))=false) (h5:dR x5=false):
  eY pairF jq C [XU (bu T),XU td,XW acc,XX j,XU (.str w),x5]=some (Ac C j,[XU (bu T),XU td,XW acc,XX j,XU (.str w),XU (gQ (iB w))]):=by
 have e1:=jw hw
 have e2:=tZ (d:=gQ (iB w)) hT
 rw[hh] at e2
 generalize gQ (iB w)=d at *
 simp[-bW,bA,eY,e1,e2,h5,Ac]
theorem vV {T:AAG}{td:D}(hT:T.length<=1000):∀(ws:List Str) (k:Nat) (acc:List D) (x3 x4 x5:Option U),dR x3=false->dR x4=false->dR x5=false->(∀w∈ws,w.length<=20000)->acc.length+ws.length<=90000->jL T ws k=none->
  ∃y3 y4 y5,loop (lN 2 (dc (bName 3) (dc (bName 4) lM))) (fY pairF jq) (fL k ws) [XU (bu T),XU td,XW acc,x3,x4,x5]=some (.nx [XU (bu T),XU td,XW (acc++ws.map fun w=>gQ (iB w)),y3,y4,y5])
 | [],k,acc,x3,x4,x5,_,_,_,_,_,_=>⟨x3,x4,x5,by simp[fL]⟩
 | w :: ws,k,acc,x3,x4,x5,h3,h4,h5,hw,hl,hg=>by
  unfold jL at hg
  split at hg
  ·rename_i hh
   rw[Ys] at hl
   have t:=qw (td:=td) (acc:=acc) (j:=(k:Int)) (x5:=x5) hT (hw w Yg) hh (by omega) h5
   obtain⟨y3,y4,y5,e⟩:=vV hT ws (k+1) (acc++[gQ (iB w)]) (XX k) (XU (.str w)) (XU (gQ (iB w))) rfl rfl rfl (fun v hv=>hw v (Yb _ hv)) (by simp;omega) hg
   refine⟨y3,y4,y5,?_⟩
   unfold fL
   rw[iZ,pI h3 h4,X4,t]
   simp only[X4]
   rw[e,Zu]
   rfl
  ·cases hg
theorem vW {T:AAG}{td:D}{C:Addr}(hT:T.length<=1000):∀(ws:List Str) (k j:Nat) (acc:List D) (x3 x4 x5:Option U),dR x3=false->dR x4=false->dR x5=false->(∀w∈ws,w.length<=20000)->acc.length+ws.length<=90000->jL T ws k=some j->
  ∃y2 y3 y4 y5,nH (lN 2 (dc (bName 3) (dc (bName 4) lM))) (eY pairF jq C) (mj pairF jq C) (fL k ws) [XU (bu T),XU td,XW acc,x3,x4,x5]=some (Ac C j,[XU (bu T),XU td,y2,y3,y4,y5])
 | [],k,j,acc,x3,x4,x5,_,_,_,_,_,hg=>by cases hg
 | w :: ws,k,j,acc,x3,x4,x5,h3,h4,h5,hw,hl,hg=>by
  unfold jL at hg
  rw[Ys] at hl
  unfold fL
  have hw1:=hw w Yg
  split at hg
  ·rename_i hh
   have t:=qw (td:=td) (acc:=acc) (j:=(k:Int)) (x5:=x5) hT hw1 hh (by omega) h5
   have t0:=GY (td:=td) (acc:=acc) (j:=(k:Int)) (x5:=x5) (C:=C) hT hw1 hh h5
   obtain⟨y2,y3,y4,y5,e⟩:=vW hT ws (k+1) j (acc++[gQ (iB w)]) (XX k) (XU (.str w)) (XU (gQ (iB w))) rfl rfl rfl (fun v hv=>hw v (Yb _ hv)) (by simp;omega) hg
   refine⟨y2,y3,y4,y5,?_⟩
   show(lN 2 (dc (bName 3) (dc (bName 4) lM)) _ _).bind _=_
   rw[pI h3 h4,X4,t0]
   show(fY pairF jq _).bind _=_
   rw[t]
   exact e
  ·rename_i hh
   cases hg
   have hh:iR T (gQ (iB w))=false:=by simpa using hh
   have t1:=MP (td:=td) (acc:=acc) (j:=(k:Int)) (x5:=x5) (C:=C) hT hw1 hh h5
   refine⟨XW acc,XX k,XU (.str w),XU (gQ (iB w)),?_⟩
   show(lN 2 (dc (bName 3) (dc (bName 4) lM)) _ _).bind _=_
   rw[pI h3 h4,X4,t1]
def iC (T:AAG) (z:Str):Option Nat:=if z="-" then none else jL T (Txt.split z " ") 0
def eZ (C:Addr):FX:=tU 6 (fZ pairF jq C)
def xF (C:Addr):∀us r,eZ C us=some r->tU 6 (fZ pairF jq C) us=some r:=fun _ _ h=>h
def iD (h:z.length<=10000):(∀w∈Txt.split z " ",w.length<=20000)/\(Txt.split z " ").length<=20000:=by
 have a:=mh z
 have b:=kR (Txt.split z " ")
 exact⟨fun w hw=>by have:=GV hw;omega,by omega⟩
def xG (z:Str):List D:=if z="-" then [] else(Txt.split z " ").map fun w=>gQ (iB w)
def GZ (hT:T.length<=1000) (hz:z.length<=10000) (h:iC T z=none):gI [.t (bu T),.t (.str z)]=some (.t (.tup (xG z)),[]):=by
 unfold iC at h
 unfold xG
 by_cases q:z="-"
 ·subst q
  simp[gI,bM,ju,aL]
 ·rw[if_neg q] at h ⊢
  have q:¬z=Str.ofString "-":=q
  obtain⟨w1,w2⟩:=iD hz
  obtain⟨y3,y4,y5,e⟩:=vV (td:=.str z) hT (Txt.split z " ") 0 [] none none none rfl rfl rfl w1 (by simp;omega) h
  have e2:=fq (z:=z) (by omega)
  have e3:=mZ (Txt.split z " ")
  rw[Zh] at e
  generalize Txt.split z " " =ws at *
  simp[-List.map_map,gI,bM,ju,q,e2,n8,sU,e3,e,aL,nZ]
def DR {j:Nat}(hT:T.length<=1000) (hz:z.length<=10000) (h:iC T z=some j):eZ C [.t (bu T),.t (.str z)]=some (Ac C j,[]):=by
 unfold iC at h
 by_cases q:z="-"
 ·rw[if_pos q] at h;cases h
 ·rw[if_neg q] at h
  have q:¬z=Str.ofString "-":=q
  obtain⟨w1,w2⟩:=iD hz
  obtain⟨y2,y3,y4,y5,e⟩:=vW (td:=.str z) (C:=C) hT (Txt.split z " ") 0 j [] none none none rfl rfl rfl w1 (by simp;omega) h
  have e2:=fq (z:=z) (by omega)
  have e3:=mZ (Txt.split z " ")
  generalize Txt.split z " " =ws at *
  simp[-List.map_map,eZ,tU,fZ,q,e2,zA,sU,e3,e,aL]
theorem vX {T:AAG}{td:D}{C:Addr}(hT:T.length<=1000):∀(ws:List Str) (k:Nat) (acc:List D) (x3 x4 x5:Option U),dR x3=false->dR x4=false->dR x5=false->(∀w∈ws,w.length<=20000)->acc.length+ws.length<=90000->jL T ws k=none->
  nH (lN 2 (dc (bName 3) (dc (bName 4) lM))) (eY pairF jq C) (mj pairF jq C) (fL k ws) [XU (bu T),XU td,XW acc,x3,x4,x5]=none
 | [],k,acc,x3,x4,x5,_,_,_,_,_,hg=>rfl
 | w :: ws,k,acc,x3,x4,x5,h3,h4,h5,hw,hl,hg=>by
  unfold jL at hg
  rw[Ys] at hl
  unfold fL
  have hw1:=hw w Yg
  split at hg
  ·rename_i hh
   have t:=qw (td:=td) (acc:=acc) (j:=(k:Int)) (x5:=x5) hT hw1 hh (by omega) h5
   have t0:=GY (td:=td) (acc:=acc) (j:=(k:Int)) (x5:=x5) (C:=C) hT hw1 hh h5
   have e:=vX (C:=C) (td:=td) hT ws (k+1) (acc++[gQ (iB w)]) (XX k) (XU (.str w)) (XU (gQ (iB w))) rfl rfl rfl (fun v hv=>hw v (Yb _ hv)) (by simp;omega) hg
   show(lN 2 (dc (bName 3) (dc (bName 4) lM)) _ _).bind _=_
   rw[pI h3 h4,X4,t0]
   show(fY pairF jq _).bind _=_
   rw[t]
   exact e
  ·cases hg
def DS (hT:T.length<=1000) (hz:z.length<=10000) (h:iC T z=none):eZ C [.t (bu T),.t (.str z)]=none:=by
 unfold iC at h
 by_cases q:z="-"
 ·subst q
  simp[eZ,tU,fZ]
 ·rw[if_neg q] at h
  have q:¬z=Str.ofString "-":=q
  obtain⟨w1,w2⟩:=iD hz
  have e:=vX (td:=.str z) (C:=C) hT (Txt.split z " ") 0 [] none none none rfl rfl rfl w1 (by simp;omega) h
  have e2:=fq (z:=z) (by omega)
  have e3:=mZ (Txt.split z " ")
  generalize Txt.split z " " =ws at *
  simp[-List.map_map,eZ,tU,fZ,q,e2,zA,sU,e3,e]
structure MQ (A:AAG) (p:Str×Int):Prop where
 hi:p.2<=5
 ln:A.length < 4
 tt:tot A+p.2+1<=12
 nw:p.1∉A.map (·.1)
noncomputable instance (A:AAG) (p:Str×Int):Decidable (MQ A p):=decidable_of_iff (p.2<=5/\A.length < 4/\tot A+p.2+1<=12/\p.1∉A.map (·.1)) ⟨fun h=>⟨h.1,h.2.1,h.2.2.1,h.2.2.2⟩,fun h=>⟨h.hi,h.ln,h.tt,h.nw⟩⟩
def jM:List Str->List (Str×Int)->Option Nat
 | [],_=>none
 | w :: ws,A=>match iB w with
  | none=>some A.length
  | some p=>if MQ A p then jM ws (A++[p]) else some A.length
def heads {A:AAG}:iP [] nB (cH 0 (eC (.int 0))) (A.map dW) S []=some (A.map fun p=>D.str p.1,S):=by
 have e:=ki (cap:=[]) (g:=cH 0 (eC (.int 0))) (S:=S) (ts:=[]) rfl headD (A.map dW) [] (fun x hx=>by
  obtain⟨q,hq,rfl⟩:=Yz.mp hx
  simp[dW,l9,headD])
 have e2:([]:List D)++(A.map dW).map headD=A.map fun p=>D.str p.1:=by rw[Zh,Zn];rfl
 rw[e2] at e
 exact e
def Ct (h:z∈L.map (·.1)):inD (.str z) (L.map fun p=>D.str p.1)=true:=by
 unfold inD
 rw[List.any_map,aaG]
 obtain⟨p,hp,rfl⟩:=Yz.mp h
 exact⟨p,hp,yK _⟩
def JZ :inD (.str z) (L.map fun p=>D.str p.1)=decide (z∈L.map (·.1)):=by
 by_cases h:z∈L.map (·.1)
 ·rw[Ct h,YK h]
 ·rw[Bc h,Yt h]
section
variable {td:D}{A:AAG}{l j:Int}{w:Str}{p:Str×Int}{x5:Option U}{C:Addr}
def ug (hw:w.length<=20000) (hp:iB w=some p) (hj:j=A.length) (hl:l=12 - tot A) (g:MQ A p) (h5:dR x5=false):
  dw pairF [XU td,XW (A.map dW),XX l,XX j,XU (.str w),x5]=some (.nx [XU td,XW ((A++[p]).map dW),XX (12 - tot (A++[p])),XX j,XU (.str w),XU (dW p)]):=by
 have e1:=jw hw
 rw[hp] at e1
 have e:=heads (A:=A) (S:=[XU td,XW (A.map dW),XX (l - (p.2+1)),XX j,XU (.str w),XU (.tup [.str p.1,.int p.2])])
 have e3:=Bc g.nw
 have e4:=Sr.jr A
 have gl:=g.ln
 have e5:A.length<=100000:=by omega
 have e6:A.length < 100000:=by omega
 have gh:=g.hi
 have gt:=g.tt
 have c1:¬(5 < p.2):=by omega
 have c2:¬(4<=j):=by omega
 have c3:¬(l - (p.2+1) < 0):=by omega
 have c4:l - (p.2+1)=12 - tot (A++[p]):=by rw[pD];omega
 unfold gQ at e1
 simp only at e1
 unfold dW at e1
 rw[Zi,<-c4]
 simp[-bW,bA,dw,e1,uc,l9,nj,e,e3,e4,e5,e6,c1,c2,c3,hAppend,h5,dW,gG,fE,IK]
def fM (bE:FM) (aC:Addr):GS:=
 (aJ (bL 5 (aX bE (bC (eF (aj 4)) bT)))
 (aJ (kH (nR (qB (eF (eP gG (aa (eF (aj 5)) (aa (eC .cz) ak))))) (nR (qB (eF (eP HC (aa (cH 5 (eC (.int 1))) (aa (eC (.int 5)) ak))))) (qB (eF (eP LH (aa (eF (aj 3)) (aa (eC (.int 4)) ak))))))) Jd dO)
 (aJ (AQ (fun i j=>i - j) 2 (eF (eP cB (aa (cH 5 (eC (.int 1))) (aa (eC (.int 1)) ak)))))
 (aJ (kH (nR (qB (eF (eP KH (aa (eF (aj 2)) (aa (eC (.int 0)) ak))))) (qB (eF (eP IK (aa (cH 5 (eC (.int 0))) (aa (eF (n6 1 nB (cH 0 (eC (.int 0))))) ak)))))) Jd dO)
 (qP (eT (eM 1 hAppend (aa (eF (aj 5)) ak))))))))
def bJ (bE:FM) (aC:Addr):GX:=
 (Gd (bL 5 (aX bE (bC (eF (aj 4)) bT)))
 (Gb (Ju (nR (qB (eF (eP gG (aa (eF (aj 5)) (aa (eC .cz) ak))))) (nR (qB (eF (eP HC (aa (cH 5 (eC (.int 1))) (aa (eC (.int 5)) ak))))) (qB (eF (eP LH (aa (eF (aj 3)) (aa (eC (.int 4)) ak))))))) (qo aC ["at"] (aa (eF (aj 3)) ak)) Qc) (kH (nR (qB (eF (eP gG (aa (eF (aj 5)) (aa (eC .cz) ak))))) (nR (qB (eF (eP HC (aa (cH 5 (eC (.int 1))) (aa (eC (.int 5)) ak))))) (qB (eF (eP LH (aa (eF (aj 3)) (aa (eC (.int 4)) ak))))))) Jd dO)
 (Gd (AQ (fun i j=>i - j) 2 (eF (eP cB (aa (cH 5 (eC (.int 1))) (aa (eC (.int 1)) ak)))))
 (Ju (nR (qB (eF (eP KH (aa (eF (aj 2)) (aa (eC (.int 0)) ak))))) (qB (eF (eP IK (aa (cH 5 (eC (.int 0))) (aa (eF (n6 1 nB (cH 0 (eC (.int 0))))) ak)))))) (qo aC ["at"] (aa (eF (aj 3)) ak)) Qc))))
def fO (bE:FM) (aC:Addr):GX:=
 (Gd (bL 1 (eP gn ak))
 (Gd (bL 2 (eT (eC (.int 12))))
 (zA (lN 2 (dc (bName 3) (dc (bName 4) lM))) (vE (aa (eF (eP fS (aa (eF (aj 0)) (aa (eC (.str " ")) ak)))) ak)) (bJ bE aC) (fM bE aC))))
def G0 (hw:w.length<=20000) (hp:iB w=some p) (hj:j=A.length) (hl:l=12 - tot A) (g:MQ A p) (h5:dR x5=false):
  bJ pairF C [XU td,XW (A.map dW),XX l,XX j,XU (.str w),x5]=none:=by
 have e1:=jw hw
 rw[hp] at e1
 have e:=heads (A:=A) (S:=[XU td,XW (A.map dW),XX (l - (p.2+1)),XX j,XU (.str w),XU (.tup [.str p.1,.int p.2])])
 have e3:=Bc g.nw
 have e4:=Sr.jr A
 have gl:=g.ln
 have e5:A.length<=100000:=by omega
 have gh:=g.hi
 have gt:=g.tt
 have c1:¬(5 < p.2):=by omega
 have c2:¬(4<=j):=by omega
 have c3:¬(l - (p.2+1) < 0):=by omega
 unfold gQ at e1
 simp only at e1
 unfold dW at e1
 simp[-bW,bA,bJ,e1,uc,l9,nj,e,e3,e4,e5,c1,c2,c3,h5,dW,gG,fE,IK]
def MR (hw:w.length<=20000) (hp:iB w=none) (h5:dR x5=false):
  bJ pairF C [XU td,XW (A.map dW),XX l,XX j,XU (.str w),x5]=some (Ac C j,[XU td,XW (A.map dW),XX l,XX j,XU (.str w),XU .cz]):=by
 have e1:=jw hw
 rw[hp] at e1
 unfold gQ at e1
 simp only at e1
 simp[-bW,bA,bJ,e1,h5,gG,fE,Ac]
def MS (hw:w.length<=20000) (hp:iB w=some p) (hj:j=A.length) (hl:l=12 - tot A) (hA:A.length<=4) (g:¬MQ A p) (h5:dR x5=false):
  ∃l',bJ pairF C [XU td,XW (A.map dW),XX l,XX j,XU (.str w),x5]=some (Ac C j,[XU td,XW (A.map dW),XX l',XX j,XU (.str w),XU (dW p)]):=by
 have e1:=jw hw
 rw[hp] at e1
 unfold gQ at e1
 simp only at e1
 unfold dW at e1
 by_cases c1:5 < p.2
 ·exact⟨l,by simp[-bW,bA,bJ,e1,l9,nj,c1,h5,dW,gG,fE,Ac]⟩
 ·by_cases c2:4<=j
  ·exact⟨l,by simp[-bW,bA,bJ,e1,l9,nj,c1,c2,h5,dW,gG,fE,Ac]⟩
  ·have e:=heads (A:=A) (S:=[XU td,XW (A.map dW),XX (l - (p.2+1)),XX j,XU (.str w),XU (.tup [.str p.1,.int p.2])])
   have e4:=Sr.jr A
   have e5:A.length<=100000:=by omega
   by_cases c3:l - (p.2+1) < 0
   ·exact⟨l - (p.2+1),by simp[-bW,bA,bJ,e1,l9,nj,c1,c2,c3,h5,dW,gG,fE,Ac]⟩
   ·have e3:inD (.str p.1) (A.map fun p=>D.str p.1)=true:=by
     refine Ct (YO fun z=>g ⟨by omega,by omega,by omega,z⟩)
    exact⟨l - (p.2+1),by simp[-bW,bA,bJ,e1,uc,l9,nj,e,e3,e4,e5,c1,c2,c3,h5,dW,gG,fE,IK,Ac]⟩
end
def jy:List Str->List (Str×Int)->List (Str×Int)
 | [],A=>A
 | w :: ws,A=>match iB w with
  | none=>A
  | some p=>jy ws (A++[p])
abbrev G1:GB:=lN 2 (dc (bName 3) (dc (bName 4) lM))
def uh (h3:dR x3=false) (h4:dR x4=false):G1 (.tup [.int k,.str w]) [s0,s1,s2,x3,x4,x5]=some [s0,s1,s2,XX k,XU (.str w),x5]:=pI h3 h4
theorem vY {td:D}:∀(ws:List Str) (A:AAG) (x3 x4 x5:Option U),dR x3=false->dR x4=false->dR x5=false->(∀w∈ws,w.length<=20000)->jM ws A=none->
  ∃y2 y3 y4 y5,loop G1 (dw pairF) (fL A.length ws) [XU td,XW (A.map dW),XX (12 - tot A),x3,x4,x5]=some (.nx [XU td,XW ((jy ws A).map dW),y2,y3,y4,y5])
 | [],A,x3,x4,x5,_,_,_,_,_=>⟨_,x3,x4,x5,by simp[fL,jy];rfl⟩
 | w :: ws,A,x3,x4,x5,h3,h4,h5,hw,hg=>by
  unfold jM at hg
  split at hg
  ·cases hg
  ·rename_i p hp
   split at hg
   ·rename_i g
    have t:=ug (td:=td) (A:=A) (x5:=x5) (hw w Yg) hp rfl rfl g h5
    obtain⟨y2,y3,y4,y5,e⟩:=vY (td:=td) ws (A++[p]) (XX A.length) (XU (.str w)) (XU (dW p)) rfl rfl rfl (fun v hv=>hw v (Yb _ hv)) hg
    refine⟨y2,y3,y4,y5,?_⟩
    unfold fL jy
    rw[iZ,uh h3 h4,X4,t,hp]
    simp only[X4]
    rw[Yy] at e
    exact e
   ·cases hg
theorem vZ {td:D}{C:Addr}:∀(ws:List Str) (A:AAG) (x3 x4 x5:Option U),dR x3=false->dR x4=false->dR x5=false->(∀w∈ws,w.length<=20000)->jM ws A=none->
  nH G1 (bJ pairF C) (fM pairF C) (fL A.length ws) [XU td,XW (A.map dW),XX (12 - tot A),x3,x4,x5]=none
 | [],A,x3,x4,x5,_,_,_,_,_=>rfl
 | w :: ws,A,x3,x4,x5,h3,h4,h5,hw,hg=>by
  unfold jM at hg
  split at hg
  ·cases hg
  ·rename_i p hp
   split at hg
   ·rename_i g
    have t:=ug (td:=td) (A:=A) (x5:=x5) (hw w Yg) hp rfl rfl g h5
    have t0:=G0 (td:=td) (A:=A) (x5:=x5) (C:=C) (hw w Yg) hp rfl rfl g h5
    have e:=vZ (td:=td) (C:=C) ws (A++[p]) (XX A.length) (XU (.str w)) (XU (dW p)) rfl rfl rfl (fun v hv=>hw v (Yb _ hv)) hg
    unfold fL
    show(G1 _ _).bind _=_
    rw[uh h3 h4,X4,t0]
    show(dw pairF _).bind _=_
    rw[t]
    rw[Yy] at e
    exact e
   ·cases hg
theorem v5 {td:D}{C:Addr}{j:Nat}:∀(ws:List Str) (A:AAG) (x3 x4 x5:Option U),dR x3=false->dR x4=false->dR x5=false->(∀w∈ws,w.length<=20000)->A.length<=4->jM ws A=some j->
  ∃y1 y2 y3 y4 y5,nH G1 (bJ pairF C) (fM pairF C) (fL A.length ws) [XU td,XW (A.map dW),XX (12 - tot A),x3,x4,x5]=some (Ac C j,[XU td,y1,y2,y3,y4,y5])
 | [],A,x3,x4,x5,_,_,_,_,_,hg=>by cases hg
 | w :: ws,A,x3,x4,x5,h3,h4,h5,hw,hA,hg=>by
  unfold jM at hg
  unfold fL
  have hw1:=hw w Yg
  split at hg
  ·rename_i hp
   cases hg
   have t:=MR (td:=td) (A:=A) (l:=12 - tot A) (j:=(A.length:Int)) (x5:=x5) (C:=C) hw1 hp h5
   refine⟨XW (A.map dW),XX (12 - tot A),XX A.length,XU (.str w),XU .cz,?_⟩
   show(G1 _ _).bind _=_
   rw[uh h3 h4,X4,t]
  ·rename_i p hp
   split at hg
   ·rename_i g
    have t:=ug (td:=td) (A:=A) (x5:=x5) hw1 hp rfl rfl g h5
    have t0:=G0 (td:=td) (A:=A) (x5:=x5) (C:=C) hw1 hp rfl rfl g h5
    have gl:=g.ln
    obtain⟨y1,y2,y3,y4,y5,e⟩:=v5 (td:=td) (C:=C) ws (A++[p]) (XX A.length) (XU (.str w)) (XU (dW p)) rfl rfl rfl (fun v hv=>hw v (Yb _ hv)) (by simp;omega) hg
    refine⟨y1,y2,y3,y4,y5,?_⟩
    show(G1 _ _).bind _=_
    rw[uh h3 h4,X4,t0]
    show(dw pairF _).bind _=_
    rw[t]
    rw[Yy] at e
    exact e
   ·rename_i g
    cases hg
    obtain⟨l',t⟩:=MS (td:=td) (A:=A) (x5:=x5) (C:=C) hw1 hp rfl rfl hA g h5
    refine⟨XW (A.map dW),XX l',XX A.length,XU (.str w),XU (dW p),?_⟩
    show(G1 _ _).bind _=_
    rw[uh h3 h4,X4,t]
def iS (z:Str):Option Nat:=jM (Txt.split z " ") []
def fP (C:Addr):FX:=tU 6 (fO pairF C)
def xH (C:Addr):∀us r,fP C us=some r->tU 6 (fO pairF C) us=some r:=fun _ _ h=>h
def G2 (hz:z.length<=10000) (h:iS z=none):iA [.t (.str z)]=some (.t (.tup ((jy (Txt.split z " ") []).map dW)),[]):=by
 unfold iS at h
 obtain⟨w1,w2⟩:=iD hz
 obtain⟨y2,y3,y4,y5,e⟩:=vY (td:=.str z) (Txt.split z " ") [] none none none rfl rfl rfl w1 h
 have e2:=fq (z:=z) (by omega)
 have e3:=mZ (Txt.split z " ")
 have e:loop G1 (dw pairF) (fL 0 (Txt.split z " ")) [XU (.str z),XW [],XX 12,none,none,none]=some (.nx [XU (.str z),XW ((jy (Txt.split z " ") []).map dW),y2,y3,y4,y5]):=e
 generalize Txt.split z " " =ws at *
 simp[-List.map_map,iA,bM,iU,e2,n8,sU,e3,e,aL,nZ]
def DT {j:Nat}(hz:z.length<=10000) (h:iS z=some j):fP C [.t (.str z)]=some (Ac C j,[]):=by
 unfold iS at h
 obtain⟨w1,w2⟩:=iD hz
 obtain⟨y1,y2,y3,y4,y5,e⟩:=v5 (td:=.str z) (C:=C) (Txt.split z " ") [] none none none rfl rfl rfl w1 (by simp) h
 have e2:=fq (z:=z) (by omega)
 have e3:=mZ (Txt.split z " ")
 have e:nH G1 (bJ pairF C) (fM pairF C) (fL 0 (Txt.split z " ")) [XU (.str z),XW [],XX 12,none,none,none]=some (Ac C j,[XU (.str z),y1,y2,y3,y4,y5]):=e
 generalize Txt.split z " " =ws at *
 simp[-List.map_map,fP,tU,fO,e2,zA,sU,e3,e,aL]
def DU (hz:z.length<=10000) (h:iS z=none):fP C [.t (.str z)]=none:=by
 unfold iS at h
 obtain⟨w1,w2⟩:=iD hz
 have e:=vZ (td:=.str z) (C:=C) (Txt.split z " ") [] none none none rfl rfl rfl w1 h
 have e2:=fq (z:=z) (by omega)
 have e3:=mZ (Txt.split z " ")
 have e:nH G1 (bJ pairF C) (fM pairF C) (fL 0 (Txt.split z " ")) [XU (.str z),XW [],XX 12,none,none,none]=none:=e
 generalize Txt.split z " " =ws at *
 simp[-List.map_map,fP,tU,fO,e2,zA,sU,e3,e]
noncomputable def HK:Option Nat->D
 | none=>.cz
 | some j=>.int j
def zP (lo:Int) (n:Nat):pT lo (n+1)= .int lo :: pT (lo+1) n:=by
 unfold pT
 rw[ZV,Yj,Zn]
 congr 1
 ·show D.int (lo+((0:Nat):Int))=D.int lo
  simp
 ·refine List.map_congr_left fun k _=>?_
  show D.int (lo+((k+1:Nat):Int))=D.int (lo+1+(k:Int))
  congr 1
  omega
def J0 {α:Type}(pre:List α) (w:α) (ws:List α):gR (pre++w :: ws) (pre.length:Int)=some w:=by
 unfold gR CZ
 have h:(pre.length:Int) < (pre.length:Int)+((ws.length:Int)+1):=by omega
 simp[h]
def G3 (pre:List Str) (w:Str) (ws:List Str):nD (.m (.lst ((pre++w :: ws).map D.str))) (.int (pre.length:Int))=some (.str w):=by
 rw[AY,Zi,Yj]
 have:=J0 (pre.map D.str) (D.str w) (ws.map D.str)
 rw[Yh] at this
 exact this
noncomputable def Cu (p r:Str×Int):Bool:=r.1 == p.1 && decide (p.2<=r.2)
theorem Cv {s0 s1 s2 s3:Option U}{p:Str×Int}:∀(L:AAG) (acc:List D),jP [4] (uJ (qB (eF (eP rK (aa (eF (aj 0)) (aa (cH 2 (eC (.int 0))) ak))))) (qB (eF (eP LH (aa (eF (aj 1)) (aa (cH 2 (eC (.int 1))) ak)))))) (eF (aj 1)) (L.map dW) [s0,s1,s2,s3,XU (.tup [.str p.1,.int p.2])] acc=
  some (acc++(L.filter (Cu p)).map (fun r=>.int r.2),[s0,s1,s2,s3,XU (.tup [.str p.1,.int p.2])])
 | [],acc=>by simp[jP]
 | r :: L,acc=>by
  by_cases h1:r.1=p.1
  ·by_cases h2:p.2<=r.2
   ·have e:Cu p r=true:=by simp[Cu,h1,h2]
    have ih:=Cv (s0:=s0) (s1:=s1) (s2:=s2) (s3:=s3) (p:=p) L (acc++[.int r.2])
    simp[jP,dW,gw,sF,slotsOf,b6,b7,aL,wb,l9,nj,h1,h2,e]
    rw[ih]
    simp
   ·have e:Cu p r=false:=by simp[Cu,h1,h2]
    have ih:=Cv (s0:=s0) (s1:=s1) (s2:=s2) (s3:=s3) (p:=p) L acc
    simp[jP,dW,gw,sF,slotsOf,b6,b7,aL,wb,l9,nj,h1,h2,e]
    rw[ih]
  ·have e:Cu p r=false:=by simp[Cu,h1]
   have ih:=Cv (s0:=s0) (s1:=s1) (s2:=s2) (s3:=s3) (p:=p) L acc
   simp[jP,dW,gw,sF,slotsOf,b6,b7,aL,wb,l9,nj,h1,e]
   rw[ih]
def J1 (L:AAG):rK [.lst (L.map fun r=>D.int r.2),.lst []]=XU (.bl L.isEmpty):=by
 have d:cy (L.map fun r=>D.int r.2)=0:=by
  induction L with
  | nil=>rfl
  | cons r L ih=>show max 0 (cy (L.map fun r=>D.int r.2))=0;omega
 show(if lz (.lst (L.map fun r=>D.int r.2))<=40 then some (U.t (.bl (kL (.lst (L.map fun r=>D.int r.2)) (.lst [])))) else none)=_
 rw[if_pos (by show cy (L.map fun r=>D.int r.2)+1<=40;omega)]
 cases L <;> rfl
def G4 {p:Str×Int}(h:0<=p.2):(T.filter (Cu p)).isEmpty=!iR T (dW p):=by
 have e:iR T (dW p)=T.any (Cu p):=by
  show(T.any fun r=>kL (.str r.1) (.str p.1) && fQ (.int p.2) 0 r.2)=_
  congr 1
  funext r
  simp[Cu,fQ,h]
 rw[e]
 induction T with
 | nil=>rfl
 | cons r T ih=>
  rw[Zq]
  cases q:Cu p r with
  | true=>rw[Zb q];simp
  | false=>rw[Zc (by simp[q]),ih (by show(T.any fun r=>kL (.str r.1) (.str p.1) && fQ (.int p.2) 0 r.2)=_;congr 1;funext r;simp[Cu,fQ,h])];simp
def bV (aQ:FM):GS:=
 (aJ (bL 4 (aX aQ (bC (cH 2 (eF (aj 3))) bT)))
 (aJ (kH (qB (eF (eP gG (aa (eF (aj 4)) (aa (eC .cz) ak))))) (cI (aj 3)) dO)
 (kH (qB (eF (eP rK (aa (eF (sW [4] (IE (eF (aj 0))) (uJ (qB (eF (eP rK (aa (eF (aj 0)) (aa (cH 2 (eC (.int 0))) ak))))) (qB (eF (eP LH (aa (eF (aj 1)) (aa (cH 2 (eC (.int 1))) ak)))))) (eF (aj 1)))) (aa (eF (eP gn ak)) ak))))) (cI (aj 3)) dO)))
def fu (aQ:FM):GS:=
 (aJ (kH (qB (eF (eP rK (aa (eF (aj 1)) (aa (eC (.str "-")) ak))))) (cI (eT (eC .cz))) dO)
 (aJ (bL 2 (eP fS (aa (eF (aj 1)) (aa (eC (.str " ")) ak))))
 (aJ (lq (bName 3) (j4 (aa (gB 2) ak)) (bV aQ))
 (cI (eT (eC .cz))))))
def G5 (h:w.length<=20000):oG [.t (.str w)]=some (.t (gQ (iB w)),[]):=if_pos h
section
variable {T:AAG}{td:D}{w:Str}{pre ws:List Str}{x4:Option U}
def J2 (hT:T.length<=1000) (hw:w.length<=20000) (h4:dR x4=false):
  bV oG [XU (bu T),XU td,XW ((pre++w :: ws).map D.str),XX (pre.length:Int),x4]=
   if iR T (gQ (iB w))=true then some (.nx [XU (bu T),XU td,XW ((pre++w :: ws).map D.str),XX (pre.length:Int),XU (gQ (iB w))])
   else some (.rt (.t (.int (pre.length:Int))) [XU (bu T),XU td,XW ((pre++w :: ws).map D.str),XX (pre.length:Int),XU (gQ (iB w))]):=by
 have e1:=G5 hw
 have e2:=G3 pre w ws
 generalize (pre++w :: ws).map D.str=toks at *
 cases hp:iB w with
 | none=>
  rw[hp] at e1
  have z:iR T (gQ none)=false:=rfl
  rw[z]
  unfold gQ at *
  simp only at e1
  simp[-bW,bA,bV,e1,e2,h4,gG,fE]
 | some p=>
  rw[hp] at e1
  have lo:=(uf hp).2.1
  have z:=G4 (T:=T) lo
  have e4:=J1 (T.filter (Cu p))
  rw[z] at e4
  have e3:=Cv (s0:=XU (bu T)) (s1:=XU td) (s2:=XW toks) (s3:=XX (pre.length:Int)) (p:=p) T []
  have e5:T.length<=100000:=by omega
  unfold gQ at *
  simp only at e1 ⊢
  unfold dW at e1
  have e6:∀b:Bool,b=iR T (dW p)->(if b=true then some (Out.nx [XU (bu T),XU td,XW toks,XX (pre.length:Int),XU (dW p)]) else some (.rt (.t (.int (pre.length:Int))) [XU (bu T),XU td,XW toks,XX (pre.length:Int),XU (dW p)]))=bV oG [XU (bu T),XU td,XW toks,XX (pre.length:Int),x4]:=by
   intro b hb
   rw[<-hb] at e4
   rw[Zh] at e3
   generalize (T.filter (Cu p)).map (fun r=>D.int r.2)=fl at e3 e4
   have it:IE (eF (aj 0)) [XU (bu T),XU td,XW toks,XX (pre.length:Int),XU (.tup [.str p.1,.int p.2])]=some (T.map dW,[XU (bu T),XU td,XW toks,XX (pre.length:Int),XU (.tup [.str p.1,.int p.2])]):=rfl
   cases b <;> simp[-bW,bA,-PM,-Mc,bV,e1,e2,h4,gG,fE,sW,it,e5,e3,e4,dW]
  exact(e6 _ rfl).symm
theorem Cw (hT:T.length<=1000):∀(ws pre:List Str) (x3 x4:Option U),dR x3=false->dR x4=false->(∀w∈ws,w.length<=20000)->
  ∃y3 y4,loop (bName 3) (bV oG) (pT (pre.length:Int) ws.length) [XU (bu T),XU td,XW ((pre++ws).map D.str),x3,x4]=
   match jL T ws pre.length with
   | none=>some (.nx [some (.t (bu T)),some (.t td),some (.m (.lst ((pre++ws).map D.str))),y3,y4])
   | some j=>some (.rt (.t (.int j)) [some (.t (bu T)),some (.t td),some (.m (.lst ((pre++ws).map D.str))),y3,y4])
 | [],pre,x3,x4,_,_,_=>⟨x3,x4,rfl⟩
 | w :: ws,pre,x3,x4,h3,h4,hw=>by
  have t:=J2 (T:=T) (td:=td) (w:=w) (pre:=pre) (ws:=ws) hT (hw w Yg) h4
  have b:bName 3 (.int (pre.length:Int)) [XU (bu T),XU td,XW ((pre++w :: ws).map D.str),x3,x4]=some [XU (bu T),XU td,XW ((pre++w :: ws).map D.str),XX (pre.length:Int),x4]:=by simp[-bW,bA,h3]
  rw[Ys,zP,iZ,b,X4,t]
  unfold jL
  cases hh:iR T (gQ (iB w)) with
  | false=>exact⟨some (.t (.int (pre.length:Int))),some (.t (gQ (iB w))),by simp⟩
  | true=>
   obtain⟨y3,y4,e⟩:=Cw hT ws (pre++[w]) (XX (pre.length:Int)) (XU (gQ (iB w))) rfl rfl fun v hv=>hw v (Yb _ hv)
   rw[Zu,Yy] at e
   refine⟨y3,y4,?_⟩
   simp only[if_true,X4]
   exact e
end
def NZ:FM:=bM 5 (fu oG)
def MT:∀us r,NZ us=some r->bM 5 (fu oG) us=some r:=fun _ _ h=>h
def G6 (aQ:FM):GS:=
 (kH (qB (eF (eP rK (aa (eF (aj 1)) (aa (eC (.str "-")) ak))))) (cI (eT (eC .cz))) dO)
def MU (aQ:FM):GS:=
 (bL 2 (eP fS (aa (eF (aj 1)) (aa (eC (.str " ")) ak))))
def MV (aQ:FM):GS:=
 (lq (bName 3) (j4 (aa (gB 2) ak)) (bV aQ))
def UW (aQ:FM):GS:=
 (cI (eT (eC .cz)))
def Bh (aQ:FM):fu aQ=aJ (G6 aQ) (aJ (MU aQ) (aJ (MV aQ) (UW aQ))):=rfl
def cW {a b:GS}{S1:SS}(h:a S=some (.nx S1)):aJ a b S=b S1:=by unfold aJ;rw[h];rfl
def um {a b:GS}{u:U}{S1:SS}(h:a S=some (.rt u S1)):aJ a b S=some (.rt u S1):=by unfold aJ;rw[h];rfl
def kT {n:Nat}{g:GS}{us:List U}{S0:SS}{d:D}{S':SS}{os:List MO}(hS:us.map some++List.replicate (n - us.length) none=S0) (h:g S0=some (.rt (.t d) S')) (ho:aL us S'=some os):bM n g us=some (.t d,os):=by
 subst hS
 show(g _).bind _=_
 rw[h]
 show(aL us S').map _=_
 rw[ho]
 rfl
def Qp (hT:T.length<=1000) (hz:z.length<=10000):NZ [.t (bu T),.t (.str z)]=some (.t (HK (iC T z)),[]):=by
 unfold iC
 by_cases q:z="-"
 ·subst q
  have s0:G6 oG [XU (bu T),XU (.str "-"),none,none,none]=some (.rt (.t .cz) [XU (bu T),XU (.str "-"),none,none,none]):=by simp[G6]
  exact kT rfl (by rw[Bh];exact um s0) rfl
 ·rw[if_neg q]
  have q:¬z=Str.ofString "-":=q
  obtain⟨w1,w2⟩:=iD hz
  obtain⟨y3,y4,e⟩:=Cw (td:=.str z) hT (Txt.split z " ") [] none none rfl rfl w1
  have e2:=fq (z:=z) (by omega)
  have eg:∀ws:List Str,ws.length<=20000->j4 (aa (gB 2) ak) [XU (bu T),XU (.str z),XW (ws.map D.str),none,none]=some (pT 0 ws.length,[XU (bu T),XU (.str z),XW (ws.map D.str),none,none]):=fun ws hl=>by
   have:=Sq.qp (gA:=aa (gB 2) ak) (S:=[XU (bu T),XU (.str z),XW (ws.map D.str),none,none]) (S':=[XU (bu T),XU (.str z),XW (ws.map D.str),none,none]) (j:=(ws.length:Int)) (by simp) (by omega) (by omega)
   rw[Zt] at this
   exact this
  have eg:=eg _ w2
  generalize Txt.split z " " =ws at *
  have e:loop (bName 3) (bV oG) (pT 0 ws.length) [XU (bu T),XU (.str z),XW (ws.map D.str),none,none]=match jL T ws 0 with
   | none=>some (.nx [some (.t (bu T)),some (.t (.str z)),some (.m (.lst (ws.map D.str))),y3,y4])
   | some j=>some (.rt (.t (.int j)) [some (.t (bu T)),some (.t (.str z)),some (.m (.lst (ws.map D.str))),y3,y4]):=e
  have s0:G6 oG [XU (bu T),XU (.str z),none,none,none]=some (.nx [XU (bu T),XU (.str z),none,none,none]):=by simp[G6,q]
  have s1:MU oG [XU (bu T),XU (.str z),none,none,none]=some (.nx [XU (bu T),XU (.str z),XW (ws.map D.str),none,none]):=by simp[MU,e2]
  have s2:MV oG [XU (bu T),XU (.str z),XW (ws.map D.str),none,none]=loop (bName 3) (bV oG) (pT 0 ws.length) [XU (bu T),XU (.str z),XW (ws.map D.str),none,none]:=by
   unfold MV
   rw[n8,eg,X4]
  rw[e] at s2
  cases hr:jL T ws 0 with
  | none=>
   rw[hr] at s2
   exact kT (S0:=[XU (bu T),XU (.str z),none,none,none]) rfl (by rw[Bh,cW s0,cW s1,cW s2];rfl) rfl
  | some j=>
   rw[hr] at s2
   exact kT (S0:=[XU (bu T),XU (.str z),none,none,none]) rfl (by rw[Bh,cW s0,cW s1];exact um s2) rfl
def aV (aQ:FM):GS:=
 (aJ (bL 5 (aX aQ (bC (cH 1 (eF (aj 4))) bT)))
 (aJ (kH (nR (qB (eF (eP gG (aa (eF (aj 5)) (aa (eC .cz) ak))))) (nR (qB (eF (eP HC (aa (cH 5 (eC (.int 1))) (aa (eC (.int 5)) ak))))) (nR (qB (IU false 2 (cH 5 (eC (.int 0))))) (nR (qB (eF (eP rK (aa (eF (aj 4)) (aa (eC (.int 4)) ak))))) (qB (eF (eP HC (aa (eF (eP cB (aa (eF (eP cB (aa (eF (aj 3)) (aa (cH 5 (eC (.int 1))) ak)))) (aa (eC (.int 1)) ak)))) (aa (eC (.int 12)) ak))))))))) (cI (aj 4)) dO)
 (aJ (qP (eT (eM 2 hAppend (aa (cH 5 (eC (.int 0))) ak))))
 (bL 3 (eP cB (aa (eF (eP cB (aa (eF (aj 3)) (aa (cH 5 (eC (.int 1))) ak)))) (aa (eC (.int 1)) ak)))))))
def dP (aQ:FM):GS:=
 (aJ (bL 1 (eP fS (aa (eF (aj 0)) (aa (eC (.str " ")) ak))))
 (aJ (bL 2 (eP gn ak))
 (aJ (bL 3 (eT (eC (.int 0))))
 (aJ (lq (bName 4) (j4 (aa (gB 1) ak)) (aV aQ))
 (cI (eT (eC .cz)))))))
def MW (aQ:FM):GS:=
 (bL 1 (eP fS (aa (eF (aj 0)) (aa (eC (.str " ")) ak))))
def MX (aQ:FM):GS:=
 (bL 2 (eP gn ak))
def MY (aQ:FM):GS:=
 (bL 3 (eT (eC (.int 0))))
def MZ (aQ:FM):GS:=
 (lq (bName 4) (j4 (aa (gB 1) ak)) (aV aQ))
def UX (aQ:FM):GS:=
 (cI (eT (eC .cz)))
def G7 (aQ:FM):dP aQ=aJ (MW aQ) (aJ (MX aQ) (aJ (MY aQ) (aJ (MZ aQ) (UX aQ)))):=rfl
section
variable {td:D}{w:Str}{pre ws:List Str}{A:AAG}{x5:Option U}
def J3 (hw:w.length<=20000) (hA:pre.length=A.length) (VW:A.length<=4) (h5:dR x5=false):
  (∃p,iB w=some p/\MQ A p/\aV oG [XU td,XW ((pre++w :: ws).map D.str),XW (A.map fun p=>.str p.1),XX (tot A),XX (pre.length:Int),x5]=
   some (.nx [XU td,XW ((pre++w :: ws).map D.str),XW ((A++[p]).map fun p=>.str p.1),XX (tot (A++[p])),XX (pre.length:Int),XU (dW p)]))\/
  ((∀p,iB w=some p->¬MQ A p)/\∃y5,aV oG [XU td,XW ((pre++w :: ws).map D.str),XW (A.map fun p=>.str p.1),XX (tot A),XX (pre.length:Int),x5]=
   some (.rt (.t (.int (pre.length:Int))) [XU td,XW ((pre++w :: ws).map D.str),XW (A.map fun p=>.str p.1),XX (tot A),XX (pre.length:Int),y5])):=by
 have e1:=G5 hw
 have e2:=G3 pre w ws
 generalize (pre++w :: ws).map D.str=toks at *
 cases hp:iB w with
 | none=>
  rw[hp] at e1
  unfold gQ at e1
  simp only at e1
  refine .inr ⟨(fun p h=>by cases h),XU .cz,?_⟩
  simp[-bW,bA,aV,e1,e2,h5,gG,fE]
 | some p=>
  rw[hp] at e1
  unfold gQ at e1
  simp only at e1
  unfold dW at e1
  have e4:=Sr.jr A
  have e3:=JZ (z:=p.1) (L:=A)
  by_cases c1:5 < p.2
  ·refine .inr ⟨fun q hq z=>?_,XU (.tup [.str p.1,.int p.2]),?_⟩
   ·cases hq;have:=z.hi;omega
   ·simp[-bW,bA,aV,e1,e2,h5,gG,fE,l9,nj,c1]
  ·by_cases c2:p.1∈A.map (·.1)
   ·rw[YK c2] at e3
    refine .inr ⟨fun q hq z=>?_,XU (.tup [.str p.1,.int p.2]),?_⟩
    ·cases hq;exact z.nw c2
    ·simp[-bW,bA,aV,e1,e2,h5,gG,fE,l9,nj,c1,nF,e3,e4]
   ·rw[Yt c2] at e3
    by_cases c3:(pre.length:Int)=4
    ·refine .inr ⟨fun q hq z=>?_,XU (.tup [.str p.1,.int p.2]),?_⟩
     ·cases hq;have:=z.ln;omega
     ·rw[c3] at e2 ⊢
      simp[-bW,bA,aV,e1,e2,h5,gG,fE,l9,nj,c1,nF,e3,e4]
    ·by_cases c4:12 < tot A+p.2+1
     ·refine .inr ⟨fun q hq z=>?_,XU (.tup [.str p.1,.int p.2]),?_⟩
      ·cases hq;have:=z.tt;omega
      ·simp[-bW,bA,aV,e1,e2,h5,gG,fE,l9,nj,c1,nF,e3,e4,c3,c4]
     ·refine .inl ⟨p,rfl,⟨by omega,by omega,by omega,c2⟩,?_⟩
      have l1:A.length < 100000:=by omega
      rw[pD,Zi]
      simp[-bW,bA,aV,e1,e2,h5,gG,fE,l9,nj,c1,nF,e3,e4,c3,c4,hAppend,l1,dW]
theorem Cy:∀(ws pre:List Str) (A:AAG) (x4 x5:Option U),pre.length=A.length->A.length<=4->dR x4=false->dR x5=false->(∀w∈ws,w.length<=20000)->
  ∃y2 y3 y4 y5,loop (bName 4) (aV oG) (pT (pre.length:Int) ws.length) [XU td,XW ((pre++ws).map D.str),XW (A.map fun p=>.str p.1),XX (tot A),x4,x5]=
   match jM ws A with
   | none=>some (.nx [some (.t td),some (.m (.lst ((pre++ws).map D.str))),y2,y3,y4,y5])
   | some j=>some (.rt (.t (.int j)) [some (.t td),some (.m (.lst ((pre++ws).map D.str))),y2,y3,y4,y5])
 | [],pre,A,x4,x5,_,_,_,_,_=>⟨_,_,x4,x5,rfl⟩
 | w :: ws,pre,A,x4,x5,hA,VW,h4,h5,hw=>by
  have b:bName 4 (.int (pre.length:Int)) [XU td,XW ((pre++w :: ws).map D.str),XW (A.map fun p=>.str p.1),XX (tot A),x4,x5]=some [XU td,XW ((pre++w :: ws).map D.str),XW (A.map fun p=>.str p.1),XX (tot A),XX (pre.length:Int),x5]:=by simp[-bW,bA,h4]
  rw[Ys,zP,iZ,b,X4]
  unfold jM
  rcases J3 (td:=td) (w:=w) (pre:=pre) (ws:=ws) (A:=A) (x5:=x5) (hw w Yg) hA VW h5 with⟨p,hp,g,t⟩ | ⟨n,y5,t⟩
  ·have gl:=g.ln
   obtain⟨y2,y3,y4,y5,e⟩:=Cy ws (pre++[w]) (A++[p]) (XX (pre.length:Int)) (XU (dW p)) (by simp[hA]) (by simp;omega) rfl rfl fun v hv=>hw v (Yb _ hv)
   rw[Zu,Yy (as:=pre)] at e
   refine⟨y2,y3,y4,y5,?_⟩
   rw[t,hp]
   simp only[X4]
   rw[if_pos g]
   exact e
  ·refine⟨XW (A.map fun p=>.str p.1),XX (tot A),XX (pre.length:Int),y5,?_⟩
   rw[t]
   cases hp:iB w with
   | none=>simp only[X4];rw[hA]
   | some p=>
    simp only[X4]
    rw[if_neg (n p hp),hA]
end
def N1:FM:=bM 6 (dP oG)
def M0:∀us r,N1 us=some r->bM 6 (dP oG) us=some r:=fun _ _ h=>h
def Qq (hz:z.length<=10000):N1 [.t (.str z)]=some (.t (HK (iS z)),[]):=by
 unfold iS
 obtain⟨w1,w2⟩:=iD hz
 obtain⟨y2,y3,y4,y5,e⟩:=Cy (td:=.str z) (Txt.split z " ") [] [] none none rfl (by decide) rfl rfl w1
 have e2:=fq (z:=z) (by omega)
 have eg:∀ws:List Str,ws.length<=20000->j4 (aa (gB 1) ak) [XU (.str z),XW (ws.map D.str),XW [],XX 0,none,none]=some (pT 0 ws.length,[XU (.str z),XW (ws.map D.str),XW [],XX 0,none,none]):=fun ws hl=>by
  have:=Sq.qp (gA:=aa (gB 1) ak) (S:=[XU (.str z),XW (ws.map D.str),XW [],XX 0,none,none]) (S':=[XU (.str z),XW (ws.map D.str),XW [],XX 0,none,none]) (j:=(ws.length:Int)) (by simp) (by omega) (by omega)
  rw[Zt] at this
  exact this
 have eg:=eg _ w2
 generalize Txt.split z " " =ws at *
 have e:loop (bName 4) (aV oG) (pT 0 ws.length) [XU (.str z),XW (ws.map D.str),XW [],XX 0,none,none]=match jM ws [] with
  | none=>some (.nx [some (.t (.str z)),some (.m (.lst (ws.map D.str))),y2,y3,y4,y5])
  | some j=>some (.rt (.t (.int j)) [some (.t (.str z)),some (.m (.lst (ws.map D.str))),y2,y3,y4,y5]):=e
 have s0:MW oG [XU (.str z),none,none,none,none,none]=some (.nx [XU (.str z),XW (ws.map D.str),none,none,none,none]):=by simp[MW,e2]
 have s1:MX oG [XU (.str z),XW (ws.map D.str),none,none,none,none]=some (.nx [XU (.str z),XW (ws.map D.str),XW [],none,none,none]):=by simp[MX]
 have s2:MY oG [XU (.str z),XW (ws.map D.str),XW [],none,none,none]=some (.nx [XU (.str z),XW (ws.map D.str),XW [],XX 0,none,none]):=by simp[MY]
 have s3:MZ oG [XU (.str z),XW (ws.map D.str),XW [],XX 0,none,none]=loop (bName 4) (aV oG) (pT 0 ws.length) [XU (.str z),XW (ws.map D.str),XW [],XX 0,none,none]:=by
  unfold MZ
  rw[n8,eg,X4]
 rw[e] at s3
 cases hr:jM ws [] with
 | none=>
  rw[hr] at s3
  exact kT (S0:=[XU (.str z),none,none,none,none,none]) rfl (by rw[G7,cW s0,cW s1,cW s2,cW s3];rfl) rfl
 | some j=>
  rw[hr] at s3
  exact kT (S0:=[XU (.str z),none,none,none,none,none]) rfl (by rw[G7,cW s0,cW s1,cW s2];exact um s3) rfl
theorem v9 {T:AAG}:∀{ws:List Str}{k:Nat},jL T ws k=none->∃L:List (Str×Int),(ws.map fun w=>gQ (iB w))=L.map dW/\(∀p∈L,G9 p)/\L.map w9=ws
 | [],_,_=>⟨[],rfl,(fun p h=>by cases h),rfl⟩
 | w :: ws,k,h=>by
  unfold jL at h
  split at h
  ·rename_i hh
   obtain⟨L,e1,e2,e3⟩:=v9 h
   cases hp:iB w with
   | none=>rw[hp] at hh;cases hh
   | some p=>
    obtain⟨a,b,c,d⟩:=uf hp
    refine⟨p :: L,?_,fun q hq=>?_,?_⟩
    ·rw[Yj,Yj,hp,e1];rfl
    ·rcases Yi.mp hq with rfl | hq
     ·exact⟨a,b,c⟩
     ·exact e2 q hq
    ·rw[Yj,e3];exact congrArg (· :: ws) d.symm
  ·cases h
theorem wc:∀{ws:List Str}{A:AAG},jM ws A=none->∃L:List (Str×Int),jy ws A=A++L/\(∀p∈L,G9 p)/\L.map w9=ws
 | [],A,_=>⟨[],by simp[jy],(fun p h=>by cases h),rfl⟩
 | w :: ws,A,h=>by
  unfold jM at h
  unfold jy
  cases hp:iB w with
  | none=>rw[hp] at h;cases h
  | some p=>
   rw[hp] at h
   simp only at h
   split at h
   ·obtain⟨L,e1,e2,e3⟩:=wc h
    obtain⟨a,b,c,d⟩:=uf hp
    refine⟨p :: L,?_,fun q hq=>?_,?_⟩
    ·simp only;rw[e1,Zu];rfl
    ·rcases Yi.mp hq with rfl | hq
     ·exact⟨a,b,c⟩
     ·exact e2 q hq
    ·rw[Yj,e3];exact congrArg (· :: ws) d.symm
   ·cases h
def J4 (hz:z.length<=10000) (h:iC T z=none):cG [.t (.tup (xG z))]=some (.t (.str z),[]):=by
 unfold iC at h
 unfold xG
 by_cases q:z="-"
 ·subst q
  simp[cG,bM,eV,qh,aL]
 ·rw[if_neg q] at h ⊢
  obtain⟨L,e1,e2,e3⟩:=v9 h
  have a:=mh z
  have e:=GW e2 (by rw[e3,a];omega)
  rw[e3,xE] at e
  rw[e1]
  obtain⟨w,ws,ne⟩:=ue z
  have hl:¬L=[]:=fun y=>by
   rw[y,ne] at e3
   cases e3
  have ll:L.length<=100000:=by
   have b:=kR (Txt.split z " ")
   rw[<-e3,Yh,e3,a] at b
   omega
  simp[-List.map_map,cG,bM,eV,qh,aL,hl,ll,e]
def J5 (hz:z.length<=10000) (h:iS z=none):cS [.t (.tup ((jy (Txt.split z " ") []).map dW))]=some (.t (.str z),[]):=by
 obtain⟨L,e1,e2,e3⟩:=wc h
 have a:=mh z
 have e:=GW e2 (by rw[e3,a];omega)
 rw[e3,xE] at e
 rw[e1,Zh]
 simp[-List.map_map,cS,bM,fK,e,aL]
section
variable (S:SS) (g:GE) (i:Nat) (q:GT)
@[simp] theorem UY (tb:List (Addr×Bool)):uN tb g S=(g S).bind fun p=>match p.1 with | .x C _=>(tb.lookup C).map fun b=>(.bl b,p.2) | _=>none:=rfl
@[simp] theorem Rw (cl:List Addr) (f:Str):Gi cl f g S=(g S).bind fun p=>match p.1 with | .x C k=>if C∈cl then(k.lookup f).map fun d=>(d,p.2) else none | _=>none:=rfl
@[simp] theorem Rx:Gm g S=(g S).bind fun p=>match p.1 with | .x _ _=>some (false,p.2) | .t d=>some (tW d,p.2) | _=>none:=rfl
@[simp] theorem Ry:Cm i g S=(g S).bind fun p=>match p.1 with | .x C k=>(jZ i (.x C k) p.2).map .nx | _=>none:=rfl
@[simp] theorem Rz (C:Addr) (k:List (Str×D)):resolve S (.x C k)=some (.x C k):=rfl
@[simp] theorem UZ (C:Addr) (k:List (Str×D)) (us:List U):slotsOf (.x C k :: us)=slotsOf us:=rfl
@[simp] theorem U0 (C:Addr) (k:List (Str×D)) (us:List U):b6 (.x C k :: us)=b6 us:=rfl
@[simp] theorem U1 (C:Addr) (k:List (Str×D)) (us:List U) (os:List MO):wb (.x C k :: us) os S=wb us os S:=by cases os <;> rfl
@[simp] theorem RA (C:Addr) (k:List (Str×D)) (us:List U) (x:Option U):aL (.x C k :: us) (x :: S)=aL us S:=by cases x <;> rfl
@[simp] theorem RB (f:FX) (gu:GU):zz f gu S=(gu S).bind fun p=>if(slotsOf p.1).Nodup/\b6 p.1<=1 then(b7 p.2 p.1).bind fun us=>(f us).bind fun r=>(wb p.1 r.2 p.2).map fun S2=>(r.1,S2) else none:=rfl
@[simp] theorem RC (f:List D->Option U) (gd:GD):yS f i gd S=match S[i]? with
 | some (some _)=>(gd S).bind fun p=>(match p.2[i]? with
  | some (some u)=>(look u).bind fun d=>(match f [d,p.1] with
   | some (.t e)=>if k8 e=true then some (e,p.2) else none
   | _=>none)
  | _=>none)
 | _=>none:=rfl
end
def gJ (aC:Addr):GS:=
 (aJ (bL 1 (eP gn (aa (uN [(aC,false)] (aj 0)) ak)))
 (aJ (qP (eT (eM 1 hAppend (aa (uN [(aC,false)] (aj 0)) ak))))
 (aJ (kH (nR (qB (yS HE 1 (eF (eP gn (aa (eC (.bl false)) (aa (eC (.bl false)) ak)))))) (nR (nQ (qB (uN [(aC,true)] (aj 0)))) (nQ (qB (uN [(aC,true)] (aj 0)))))) (cI (eP yH (aa (eC (.int 1)) ak))) dO)
 (cI (eT (Gi [aC] "at" (aj 0)))))))
def zQ (C:Addr):FM:=bM 2 (gJ C)
def J6 (C:Addr):∀us r,zQ C us=some r->bM 2 (gJ C) us=some r:=fun _ _ h=>h
def G8 (C:Addr) (j:Int):zQ C [.x C [((Str.ofString "at"),D.int j)]]=some (.t (.int j),[]):=by
 have e1:look (.m (.lst [.bl false,.bl false]))=some (.lst [.bl false,.bl false]):=rfl
 have e2:HE [.lst [.bl false,.bl false],.lst [.bl false,.bl false]]=XU (.bl false):=by kernel_rfl
 simp[-PN,zQ,bM,gJ,hAppend,e1,e2,k8,List.lookup]
def e8 (aO:FM) (mY:FM) (aG:FM) (jJ:FM) (uQ:FM) (DV:FX) (zR:FX) (aC:Addr):GS:=
 (aJ (bL 3 (eT (eC .cz)))
 (aJ (bL 4 (eT (eC .cz)))
 (aJ (Gf 5 [aC] (bL 4 (Ny (qB (eF (eP rK (aa (eF (aj 0)) (aa (eC (.int 0)) ak))))) (aX aO (bC (eF (aX mY (bC (eF (aj 1)) (bC (eF (aj 2)) bT)))) bT)) (aX aG (bC (eF (aX jJ (bC (eF (aj 2)) bT))) bT)))) (Ju (qB (eF (eP rK (aa (eF (aj 0)) (aa (eC (.int 0)) ak))))) (zz DV (bC (eF (aj 1)) (bC (eF (aj 2)) bT))) (zz zR (bC (eF (aj 2)) bT))) (Cm 3 (aj 5)))
 (cI (Ny (Gm (aj 3)) (aj 4) (aX uQ (d9 (aj 3) bT)))))))
def mq (C:Addr):FM:=bM 6 (e8 cG gI cS iA (zQ C) (eZ C) (fP C) C)
def Hf (C:Addr):∀us r,mq C us=some r->bM 6 (e8 cG gI cS iA (zQ C) (eZ C) (fP C) C) us=some r:=fun _ _ h=>h
theorem xJ (i:Nat) (cl:List Addr) (gb:GS) (gx:GX) (gs:GS) (S:SS):Gf i cl gb gx gs S=match gx S with
 | some (r,S1)=>if r.1∈cl then(jZ i (.x r.1 r.2) S1).bind fun S2=>(gs S2).bind fun o=>match o with
  | .nx S3=>some (.nx (S3.set i none))
  | .rt (.t d) S3=>some (.rt (.t d) (S3.set i none))
  | _=>none else none
 | none=>gb S:=rfl
noncomputable def pJ (z:Str):Option Nat->D
 | none=>.str z
 | some j=>.int j
def Qs (hT:T.length<=1000) (hz:z.length<=10000):mq C [.t (.int 0),.t (bu T),.t (.str z)]=some (.t (pJ z (iC T z)),[]):=by
 cases h:iC T z with
 | none=>
  have e1:=GZ hT hz h
  have e2:=DS (C:=C) hT hz h
  have e3:=J4 hz h
  generalize bu T=td at *
  simp[mq,bM,e8,xJ,e1,e2,e3,pJ,tW]
 | some j=>
  have e2:=DR (C:=C) hT hz h
  have e3:=G8 C j
  unfold Ac at e2
  generalize bu T=td at *
  simp[mq,bM,e8,xJ,e2,e3,pJ]
def Qt (hz:z.length<=10000):mq C [.t (.int 1),.t td,.t (.str z)]=some (.t (pJ z (iS z)),[]):=by
 cases h:iS z with
 | none=>
  have e1:=G2 hz h
  have e2:=DU (C:=C) hz h
  have e3:=J5 hz h
  generalize D.tup ((jy (Txt.split z " ") []).map dW)=XT at *
  simp[mq,bM,e8,xJ,e1,e2,e3,pJ,tW]
 | some j=>
  have e2:=DT (C:=C) hz h
  have e3:=G8 C j
  unfold Ac at e2
  simp[mq,bM,e8,xJ,e2,e3,pJ]
def iE (aB:FM):GS:=
 (aJ (bL 2 (eP fS (aa (eF (aj 1)) (aa (eC (.str " ")) ak))))
 (aJ (bL 3 (aX aB (d9 (aj 0) (bC (gB 2) bT))))
 (aJ (bL 4 (eP gn (aa (eC (.str "-")) (aa (eC (.str "")) (aa (eC (.str "a.0")) (aa (eC (.str "ab.5")) (aa (eC (.str "strange.1")) (aa (eC (.str "a.6")) (aa (eC (.str "b.9")) (aa (eC (.str "a.10")) (aa (eC (.str "a")) (aa (eC (.str ".1")) (aa (eC (.str "a.")) (aa (eC (.str "a..1")) (aa (eC (.str "A.1")) (aa (eC (.str "a1")) (aa (eC (.str "a.-1")) ak)))))))))))))))))
 (aJ (bL 4 (eP cB (aa (eF (aj 4)) (aa (eF (eP gn (aa (eC (.str "ninesigns.1")) (aa (eC (.str "a.b")) (aa (eC (.str "x.0")) (aa (eC (.str "zz.5")) ak)))))) ak))))
 (aJ (bL 5 (aX aB (d9 (aj 0) (bC (eC (.int 6)) bT))))
 (aJ (bL 6 (eT (cH 4 (eF (aX aB (d9 (aj 0) (bC (gB 4) bT)))))))
 (aJ (kH (qB (eF (eP rK (aa (eF (aj 5)) (aa (eC (.int 0)) ak))))) (cI (eP kh (aa (eC (.str " ")) (aa (eF (eP cB (aa (eF (xh (eF (aj 2)) none (some (eF (aj 3))))) (aa (eF (xh (eF (aj 2)) (some (eF (eP cB (aa (eF (aj 3)) (aa (eC (.int 1)) ak))))) none)) ak)))) ak)))) dO)
 (aJ (kH (qB (eF (eP KH (aa (eF (aj 5)) (aa (eC (.int 3)) ak))))) (cI (eP kh (aa (eC (.str " ")) (aa (eF (eP cB (aa (eF (eP cB (aa (eF (xh (eF (aj 2)) none (some (eF (aj 3))))) (aa (eF (eP gn (aa (eF (aj 6)) ak))) ak)))) (aa (eF (xh (eF (aj 2)) (some (eF (eP AD (aa (eF (eP cB (aa (eF (aj 3)) (aa (eF (aj 5)) ak)))) (aa (eC (.int 1)) ak))))) none)) ak)))) ak)))) dO)
 (aJ (kH (qB (eF (eP rK (aa (eF (aj 5)) (aa (eC (.int 3)) ak))))) (cI (eP kh (aa (eC (.str " ")) (aa (eF (eP cB (aa (eF (aj 2)) (aa (eF (xh (eF (aj 2)) (some (eF (aj 3))) none)) ak)))) ak)))) dO)
 (aJ (kH (qB (eF (eP rK (aa (eF (aj 5)) (aa (eC (.int 4)) ak))))) (cI (eP cB (aa (eF (eP cB (aa (eF (aj 1)) (aa (eC (.str " ")) ak)))) (aa (eF (aj 6)) ak)))) dO)
 (aJ (bL 7 (aX aB (d9 (aj 0) (bC (eF (eP cB (aa (gB 1) (aa (eC (.int 1)) ak)))) bT))))
 (cI (eP cB (aa (eF (eP cB (aa (eF (xh (eF (aj 1)) none (some (eF (aj 7))))) (aa (eF (eP E5 (aa (eC (.str " .a05-")) (aa (eF (aX aB (d9 (aj 0) (bC (eC (.int 6)) bT)))) ak)))) ak)))) (aa (eF (xh (eF (aj 1)) (some (eF (aj 7))) none)) ak)))))))))))))))
def M1 (aB:FM):GS:=
 (bL 2 (eP fS (aa (eF (aj 1)) (aa (eC (.str " ")) ak))))
def M3 (aB:FM):GS:=
 (bL 3 (aX aB (d9 (aj 0) (bC (gB 2) bT))))
def M4 (aB:FM):GS:=
 (bL 4 (eP gn (aa (eC (.str "-")) (aa (eC (.str "")) (aa (eC (.str "a.0")) (aa (eC (.str "ab.5")) (aa (eC (.str "strange.1")) (aa (eC (.str "a.6")) (aa (eC (.str "b.9")) (aa (eC (.str "a.10")) (aa (eC (.str "a")) (aa (eC (.str ".1")) (aa (eC (.str "a.")) (aa (eC (.str "a..1")) (aa (eC (.str "A.1")) (aa (eC (.str "a1")) (aa (eC (.str "a.-1")) ak)))))))))))))))))
def M5 (aB:FM):GS:=
 (bL 4 (eP cB (aa (eF (aj 4)) (aa (eF (eP gn (aa (eC (.str "ninesigns.1")) (aa (eC (.str "a.b")) (aa (eC (.str "x.0")) (aa (eC (.str "zz.5")) ak)))))) ak))))
def M6 (aB:FM):GS:=
 (bL 5 (aX aB (d9 (aj 0) (bC (eC (.int 6)) bT))))
def M7 (aB:FM):GS:=
 (bL 6 (eT (cH 4 (eF (aX aB (d9 (aj 0) (bC (gB 4) bT)))))))
def DW (aB:FM):GS:=
 (kH (qB (eF (eP rK (aa (eF (aj 5)) (aa (eC (.int 0)) ak))))) (cI (eP kh (aa (eC (.str " ")) (aa (eF (eP cB (aa (eF (xh (eF (aj 2)) none (some (eF (aj 3))))) (aa (eF (xh (eF (aj 2)) (some (eF (eP cB (aa (eF (aj 3)) (aa (eC (.int 1)) ak))))) none)) ak)))) ak)))) dO)
def DX (aB:FM):GS:=
 (kH (qB (eF (eP KH (aa (eF (aj 5)) (aa (eC (.int 3)) ak))))) (cI (eP kh (aa (eC (.str " ")) (aa (eF (eP cB (aa (eF (eP cB (aa (eF (xh (eF (aj 2)) none (some (eF (aj 3))))) (aa (eF (eP gn (aa (eF (aj 6)) ak))) ak)))) (aa (eF (xh (eF (aj 2)) (some (eF (eP AD (aa (eF (eP cB (aa (eF (aj 3)) (aa (eF (aj 5)) ak)))) (aa (eC (.int 1)) ak))))) none)) ak)))) ak)))) dO)
def DY (aB:FM):GS:=
 (kH (qB (eF (eP rK (aa (eF (aj 5)) (aa (eC (.int 3)) ak))))) (cI (eP kh (aa (eC (.str " ")) (aa (eF (eP cB (aa (eF (aj 2)) (aa (eF (xh (eF (aj 2)) (some (eF (aj 3))) none)) ak)))) ak)))) dO)
def DZ (aB:FM):GS:=
 (kH (qB (eF (eP rK (aa (eF (aj 5)) (aa (eC (.int 4)) ak))))) (cI (eP cB (aa (eF (eP cB (aa (eF (aj 1)) (aa (eC (.str " ")) ak)))) (aa (eF (aj 6)) ak)))) dO)
def zS (aB:FM):GS:=
 (bL 7 (aX aB (d9 (aj 0) (bC (eF (eP cB (aa (gB 1) (aa (eC (.int 1)) ak)))) bT))))
def Cz (aB:FM):GS:=
 (cI (eP cB (aa (eF (eP cB (aa (eF (xh (eF (aj 1)) none (some (eF (aj 7))))) (aa (eF (eP E5 (aa (eC (.str " .a05-")) (aa (eF (aX aB (d9 (aj 0) (bC (eC (.int 6)) bT)))) ak)))) ak)))) (aa (eF (xh (eF (aj 1)) (some (eF (aj 7))) none)) ak))))
def M8 (aB:FM):iE aB=aJ (M1 aB) (aJ (M3 aB) (aJ (M4 aB) (aJ (M5 aB) (aJ (M6 aB) (aJ (M7 aB) (aJ (DW aB) (aJ (DX aB) (aJ (DY aB) (aJ (DZ aB) (aJ (zS aB) (Cz aB))))))))))):=rfl
noncomputable def jR (ws:List Str) (lo hi:Option Int):List Str:=(ws.drop (HT.ff ws.length 0 lo)).take (HT.ff ws.length ws.length hi - HT.ff ws.length 0 lo)
def pK (ws:List Str) (lo hi:Option Int):L2.cutD (ws.map D.str) lo hi=(jR ws lo hi).map D.str:=by
 unfold L2.cutD jR
 rw[Yh,List.map_take,List.map_drop]
def J7 (ws:List Str) (k:Nat):wt (ws.take k)<=wt ws:=by
 have:=jx (ws.take k) (ws.drop k)
 rw[List.take_append_drop] at this
 omega
def J8 (ws:List Str) (k:Nat):wt (ws.drop k)<=wt ws:=by
 have:=jx (ws.take k) (ws.drop k)
 rw[List.take_append_drop] at this
 omega
def uo (ws:List Str) (lo hi:Option Int):wt (jR ws lo hi)<=wt ws:=Yc (J7 _ _) (J8 _ _)
def pL {a b:List Str}(h:wt a+wt b<=100000):cB [.lst (a.map D.str),.lst (b.map D.str)]=XW ((a++b).map D.str):=by
 have h1:=kR a
 have h2:=kR b
 rw[pA,if_pos (by rw[Yh,Yh];omega),Zi]
noncomputable def iF:List Str:=["-","","a.0","ab.5","strange.1","a.6","b.9","a.10","a",".1","a.","a..1","A.1","a1","a.-1","ninesigns.1","a.b","x.0","zz.5"]
def xK (t:cK):Str:=iF.getD (bg t 19).toNat ""
def D0 (t:cK):(xK t).length<=11:=by
 have p:=bD (t:=t) (m:=19) (by omega)
 have h:∀s∈iF,s.length<=11:=by decide +kernel
 exact h _ (getD_mem (by show(bg t 19).toNat < 19;omega))
def Hg (t:cK):gR (iF.map D.str) (bg t 19)=some (.str (xK t)):=by
 have p:=bD (t:=t) (m:=19) (by omega)
 rw[FP (x:=D.str "") p.1 (by show bg t 19 < 19;exact p.2)]
 unfold xK
 rw[aay,aay,Yu]
 cases iF[(bg t 19).toNat]? <;> rfl
def CA (t:cK):Str:=gZ [(([32,46,97,48,53,45]:List Nat)).getD (bg t 6).toNat 32]
def J9 (t:cK):E5 [.str " .a05-",.int (bg t 6)]=XU (.str (CA t)):=by
 have p:=bD (t:=t) (m:=6) (by omega)
 unfold CA
 generalize bg t 6=i at p
 obtain⟨h0,h1⟩:=p
 have:i=0\/i=1\/i=2\/i=3\/i=4\/i=5:=by omega
 rcases this with rfl | rfl | rfl | rfl | rfl | rfl <;> rfl
def uq:FM:=bM 8 (iE bU)
def Hh:∀us r,uq us=some r->bM 8 (iE bU) us=some r:=fun _ _ h=>h
section
variable {t0:cK}{z o:Str}{ws:List Str}{a v:Int}{sl:List D}
abbrev bS (t:cK) (z:Str) (x2 x3 x4 x5 x6 x7:Option U):SS:=[some (.b (.dct (aT t))),XU (.str z),x2,x3,x4,x5,x6,x7]
def M9 (hz:z.length<=4000) (h0:0<=t0.n) (h1:t0.n < 900000):∃(t:cK) (ws:List Str) (a v:Int) (o:Str),wt ws=z.length+1/\0<=a/\a < ws.length/\0<=v/\v < 6/\o.length<=11/\t.n=t0.n+3/\
  iE bU (bS t0 z none none none none none none)=(aJ (DW bU) (aJ (DX bU) (aJ (DY bU) (aJ (DZ bU) (aJ (zS bU) (Cz bU)))))) (bS t z (XW (ws.map D.str)) (XX a) (XW (iF.map D.str)) (XX v) (XU (.str o)) none):=by
 have e2:=fq (z:=z) (by omega)
 have wz:=mh z
 obtain⟨w0,wr,ne⟩:=ue z
 have lw:=kR (Txt.split z " ")
 have lp:1<=(Txt.split z " ").length:=by rw[ne];simp
 generalize hws:Txt.split z " " =ws at *
 have p1:=eL (t:=t0) (m:=(ws.length:Int)) (by omega) (by omega) (by omega) (by omega)
 have r1:=bD (t:=t0) (m:=(ws.length:Int)) (by omega)
 have n1:=kN t0 (ws.length:Int)
 generalize bg t0 (ws.length:Int)=a at p1 r1
 generalize b8 t0 (ws.length:Int)=t1 at p1 n1
 have p2:=eL (t:=t1) (m:=6) (by omega) (by omega) (by omega) (by omega)
 have r2:=bD (t:=t1) (m:=6) (by omega)
 have n2:=kN t1 6
 generalize bg t1 6=v at p2 r2
 generalize b8 t1 6=t2 at p2 n2
 have p3:=eL (t:=t2) (m:=19) (by omega) (by omega) (by omega) (by omega)
 have n3:=kN t2 19
 have oa:=Hg t2
 have ol:=D0 t2
 generalize xK t2=o at oa ol
 generalize bg t2 19=i at p3 oa
 generalize b8 t2 19=t3 at p3 n3
 refine⟨t3,ws,a,v,o,wz,r1.1,r1.2,r2.1,r2.2,ol,by omega,?_⟩
 have s0:M1 bU (bS t0 z none none none none none none)=some (.nx (bS t0 z (XW (ws.map D.str)) none none none none none)):=by simp[M1,e2]
 have s1:M3 bU (bS t0 z (XW (ws.map D.str)) none none none none none)=some (.nx (bS t1 z (XW (ws.map D.str)) (XX a) none none none none)):=by simp[M3,p1]
 have s2:M4 bU (bS t1 z (XW (ws.map D.str)) (XX a) none none none none)=some (.nx (bS t1 z (XW (ws.map D.str)) (XX a) (XW ((iF.take 15).map D.str)) none none none)):=by simp[M4,iF]
 have s3:M5 bU (bS t1 z (XW (ws.map D.str)) (XX a) (XW ((iF.take 15).map D.str)) none none none)=some (.nx (bS t1 z (XW (ws.map D.str)) (XX a) (XW (iF.map D.str)) none none none)):=by simp[M5,iF]
 have s4:M6 bU (bS t1 z (XW (ws.map D.str)) (XX a) (XW (iF.map D.str)) none none none)=some (.nx (bS t2 z (XW (ws.map D.str)) (XX a) (XW (iF.map D.str)) (XX v) none none)):=by simp[M6,p2]
 have s5:M7 bU (bS t2 z (XW (ws.map D.str)) (XX a) (XW (iF.map D.str)) (XX v) none none)=some (.nx (bS t3 z (XW (ws.map D.str)) (XX a) (XW (iF.map D.str)) (XX v) (XU (.str o)) none)):=by
  have ll:(iF.map D.str).length=19:=rfl
  generalize iF.map D.str=L at oa ll ⊢
  simp[M7,ll,p3,oa]
 rw[M8,cW s0,cW s1,cW s2,cW s3,cW s4,cW s5]
def Na {t:cK}(hz:z.length<=4000) (wz:wt ws=z.length+1) (ha:0<=a) (ha2:a < ws.length) (hv:0<=v) (hv2:v < 6) (ho:o.length<=11) (h0:0<=t.n) (h1:t.n < 900000):
  ∃y t' x2 x7,(aJ (DW bU) (aJ (DX bU) (aJ (DY bU) (aJ (DZ bU) (aJ (zS bU) (Cz bU)))))) (bS t z (XW (ws.map D.str)) (XX a) x4 (XX v) (XU (.str o)) none)=some (.rt (.t (.str y)) (bS t' z x2 (XX a) x4 (XX v) (XU (.str o)) x7))/\y.length<=2 * z.length+30/\t.n<=t'.n/\t'.n<=t.n+2:=by
 have lw:=kR ws
 have wo:wt [o]=o.length+1:=by simp[wt]
 by_cases v0:v=0
 ·subst v0
  have c1:=pK ws none (some a)
  have c2:=pK ws (some (a+1)) none
  have w1:=uo ws none (some a)
  have w2:=uo ws (some (a+1)) none
  have ad:=pL (a:=jR ws none (some a)) (b:=jR ws (some (a+1)) none) (by omega)
  have jn:=pH (ws:=jR ws none (some a)++jR ws (some (a+1)) none) (by rw[jx];omega)
  have jl:=qu (jR ws none (some a)++jR ws (some (a+1)) none)
  rw[jx] at jl
  refine⟨_,t,XU (.lst (ws.map D.str)),none,um ?_,Yc jl (by omega),by omega,by omega⟩
  simp[-pA,-List.map_append,DW,c1,c2,ad,jn]
 ·have s6:DW bU (bS t z (XW (ws.map D.str)) (XX a) x4 (XX v) (XU (.str o)) none)=some (.nx (bS t z (XW (ws.map D.str)) (XX a) x4 (XX v) (XU (.str o)) none)):=by simp[DW,v0]
  rw[cW s6]
  by_cases v1:v < 3
  ·have c1:=pK ws none (some a)
   have c2:=pK ws (some (a+v - 1)) none
   have w1:=uo ws none (some a)
   have w2:=uo ws (some (a+v - 1)) none
   have U3:=pL (a:=jR ws none (some a)) (b:=[o]) (by omega)
   have ad:=pL (a:=jR ws none (some a)++[o]) (b:=jR ws (some (a+v - 1)) none) (by rw[jx];omega)
   have jn:=pH (ws:=jR ws none (some a)++[o]++jR ws (some (a+v - 1)) none) (by rw[jx,jx];omega)
   have jl:=qu (jR ws none (some a)++[o]++jR ws (some (a+v - 1)) none)
   rw[jx,jx] at jl
   refine⟨_,t,XU (.lst (ws.map D.str)),none,um ?_,Yc jl (by omega),by omega,by omega⟩
   have U3:cB [.lst ((jR ws none (some a)).map D.str),.lst [.str o]]=XW ((jR ws none (some a)++[o]).map D.str):=U3
   simp[-pA,-List.map_append,-List.append_assoc,DX,v1,c1,c2,U3,ad,jn]
  ·have s7:DX bU (bS t z (XW (ws.map D.str)) (XX a) x4 (XX v) (XU (.str o)) none)=some (.nx (bS t z (XW (ws.map D.str)) (XX a) x4 (XX v) (XU (.str o)) none)):=by simp[DX,v1]
   rw[cW s7]
   by_cases v3:v=3
   ·subst v3
    have c2:=pK ws (some a) none
    have w2:=uo ws (some a) none
    have ad:=pL (a:=ws) (b:=jR ws (some a) none) (by omega)
    have jn:=pH (ws:=ws++jR ws (some a) none) (by rw[jx];omega)
    have jl:=qu (ws++jR ws (some a) none)
    rw[jx] at jl
    refine⟨_,t,XU (.lst (ws.map D.str)),none,um ?_,Yc jl (by omega),by omega,by omega⟩
    simp[-pA,-List.map_append,DY,c2,ad,jn]
   ·have s8:DY bU (bS t z (XW (ws.map D.str)) (XX a) x4 (XX v) (XU (.str o)) none)=some (.nx (bS t z (XW (ws.map D.str)) (XX a) x4 (XX v) (XU (.str o)) none)):=by simp[DY,v3]
    rw[cW s8]
    have l1:(Str.ofString " ").length=1:=rfl
    by_cases v4:v=4
    ·subst v4
     have a1:z.length+(Str.ofString " ").length<=100000:=by omega
     have a2:(z++Str.ofString " ").length+o.length<=100000:=by rw[YM];omega
     refine⟨z++Str.ofString " " ++o,t,XW (ws.map D.str),none,um ?_,by rw[YM,YM];omega,by omega,by omega⟩
     simp[DZ,a1,a2]
    ·have s9:DZ bU (bS t z (XW (ws.map D.str)) (XX a) x4 (XX v) (XU (.str o)) none)=some (.nx (bS t z (XW (ws.map D.str)) (XX a) x4 (XX v) (XU (.str o)) none)):=by simp[DZ,v4]
     rw[cW s9]
     have lu:=dX (z:=z) (by omega)
     have p1:=eL (t:=t) (m:=(z.length:Int)+1) (by omega) (by omega) (by omega) (by omega)
     have n1:=kN t ((z.length:Int)+1)
     generalize bg t ((z.length:Int)+1)=pl at p1
     generalize b8 t ((z.length:Int)+1)=t1 at p1 n1
     have p2:=eL (t:=t1) (m:=6) (by omega) (by omega) (by omega) (by omega)
     have n2:=kN t1 6
     have sg:=J9 t1
     have Xp:(CA t1).length=1:=rR _
     generalize CA t1=sd at sg Xp
     generalize bg t1 6=i at p2 sg
     generalize b8 t1 6=t2 at p2 n2
     have q1:=Zv z none (some pl)
     have q2:=Zv z (some pl) none
     have hz2:z.length<=100000:=by omega
     generalize hA:Txt.slice z none (some pl)=A at q1
     generalize hB:Txt.slice z (some pl) none=B at q2
     have SI:zS bU (bS t z (XW (ws.map D.str)) (XX a) x4 (XX v) (XU (.str o)) none)=some (.nx (bS t1 z (XW (ws.map D.str)) (XX a) x4 (XX v) (XU (.str o)) (XX pl))):=by simp[zS,lu,p1]
     rw[cW SI]
     have a1:A.length+sd.length<=100000:=by omega
     have a2:(A++sd).length+B.length<=100000:=by rw[YM];omega
     refine⟨A++sd++B,t2,XW (ws.map D.str),XX pl,?_,by rw[YM,YM];omega,by omega,by omega⟩
     simp[Cz,hz2,hA,hB,p2,sg,a1,a2]
end
structure Nc (t:cK) (z:Str) (y:Str) (t':cK):Prop where
 run:uq [.b (.dct (aT t)),.t (.str z)]=some (.t (.str y),[.dct (aT t')])
 ln:y.length<=2 * z.length+30
 lo:t.n<=t'.n
 hi:t'.n<=t.n+5
def pM {t:cK}(hz:z.length<=4000) (h0:0<=t.n) (h1:t.n < 800000):∃y t',Nc t z y t':=by
 obtain⟨t1,ws,a,v,o,wz,ha,ha2,hv,hv2,ho,hn,e1⟩:=M9 hz h0 (by omega)
 obtain⟨y,t2,x2,x7,e2,hl,n1,n2⟩:=Na (t:=t1) (x4:=XW (iF.map D.str)) hz wz ha ha2 hv hv2 ho (by omega) (by omega)
 refine⟨y,t2,⟨kT (S0:=bS t z none none none none none none) rfl (e1.trans e2) rfl,hl,by omega,by omega⟩⟩
def qx (aU:FM) (aK:FM) (aO:FM) (bf:FM) (aI:FM) (aD:FM) (aW:FM) (aG:FM) (az:FM):GS:=
 (aJ (bL 7 (aX aD (bC (eF (aj 3)) (bC (eF (aj 6)) bT))))
 (aJ (bL 8 (aX aW (bC (eC (.int 0)) (bC (eF (aj 3)) (bC (eF (aj 6)) bT)))))
 (kH (nR (qB (HF ["bool"] (eF (aj 8)))) (qB (eF (eP HE (aa (eF (aj 8)) (aa (eF (Ny (qB (eF (eP gG (aa (eF (aj 7)) (aa (eC .cz) ak))))) (aj 6) (aj 7))) ak)))))) (cI (eT (eC (.bl false)))) dO)))
def qy (aU:FM) (aK:FM) (aO:FM) (bf:FM) (aI:FM) (aD:FM) (aW:FM) (aG:FM) (az:FM):GS:=
 (aJ (bL 7 (aX az (bC (eF (aj 6)) bT)))
 (aJ (bL 8 (aX aW (bC (eC (.int 1)) (bC (eF (aj 3)) (bC (eF (aj 6)) bT)))))
 (kH (nR (qB (HF ["bool"] (eF (aj 8)))) (qB (eF (eP HE (aa (eF (aj 8)) (aa (eF (Ny (qB (eF (eP gG (aa (eF (aj 7)) (aa (eC .cz) ak))))) (aj 6) (aj 7))) ak)))))) (cI (eT (eC (.bl false)))) dO)))
def qz (aU:FM) (aK:FM) (aO:FM) (bf:FM) (aI:FM) (aD:FM) (aW:FM) (aG:FM) (az:FM):GS:=
 (aJ (bL 2 (aX aU (d9 (aj 0) (bC (eF (aj 1)) bT))))
 (aJ (bL 3 (aX aK (d9 (aj 2) bT)))
 (aJ (bL 4 (aX aO (bC (eF (aX bf (d9 (aj 2) (bC (eF (aj 3)) (bC (eC (.int 6)) bT))))) bT)))
 (aJ (bL 5 (aX aI (d9 (aj 2) (bC (eF (aj 4)) bT))))
 (aJ (lq (bName 6) (qc (eF (eP gn (aa (eF (aj 4)) (aa (eF (aj 5)) (aa (eF (aX aI (d9 (aj 2) (bC (eF (aj 5)) bT)))) (aa (eC (.str "")) (aa (eC (.str "- -")) ak)))))))) (qx aU aK aO bf aI aD aW aG az))
 (aJ (bL 5 (aX aI (d9 (aj 2) (bC (eF (aX aG (bC (eF (aj 3)) bT))) bT))))
 (aJ (bL 9 (eP gn (aa (eF (aj 5)) (aa (eF (aX aI (d9 (aj 2) (bC (eF (aj 5)) bT)))) (aa (eF (aX aI (d9 (aj 2) (bC (eF (eP cB (aa (eF (aj 5)) (aa (eC (.str " new.4")) ak)))) bT)))) ak)))))
 (lq (bName 6) (qc (eF (eP cB (aa (eF (aj 9)) (aa (eF (eP gn (aa (eC (.str "")) (aa (eC (.str "-")) (aa (eC (.str "a.5 b.5 c.0")) (aa (eC (.str "a.5 b.5")) ak)))))) ak))))) (qy aU aK aO bf aI aD aW aG az)))))))))
def K1 (aU:FM) (aK:FM) (aO:FM) (bf:FM) (aI:FM) (aD:FM) (aW:FM) (aG:FM) (az:FM):GS:=
 (aJ (lq (bName 1) (j4 (aa (eF (eP cB (aa (eC (.int 1)) (aa (eF (eP AG (aa (eF (Fj 0 none (some (eC (.int 19))))) ak))) ak)))) ak)) (qz aU aK aO bf aI aD aW aG az))
 (cI (eT (eC (.bl true)))))
def RD (aU:FM) (aK:FM) (aO:FM) (bf:FM) (aI:FM) (aD:FM) (aW:FM) (aG:FM) (az:FM):GS:=
 (bL 2 (aX aU (d9 (aj 0) (bC (eF (aj 1)) bT))))
def kb1 (aU:FM) (aK:FM) (aO:FM) (bf:FM) (aI:FM) (aD:FM) (aW:FM) (aG:FM) (az:FM):GS:=
 (bL 3 (aX aK (d9 (aj 2) bT)))
def kb2 (aU:FM) (aK:FM) (aO:FM) (bf:FM) (aI:FM) (aD:FM) (aW:FM) (aG:FM) (az:FM):GS:=
 (bL 4 (aX aO (bC (eF (aX bf (d9 (aj 2) (bC (eF (aj 3)) (bC (eC (.int 6)) bT))))) bT)))
def RE (aU:FM) (aK:FM) (aO:FM) (bf:FM) (aI:FM) (aD:FM) (aW:FM) (aG:FM) (az:FM):GS:=
 (bL 5 (aX aI (d9 (aj 2) (bC (eF (aj 4)) bT))))
def RG (aU:FM) (aK:FM) (aO:FM) (bf:FM) (aI:FM) (aD:FM) (aW:FM) (aG:FM) (az:FM):GS:=
 (lq (bName 6) (qc (eF (eP gn (aa (eF (aj 4)) (aa (eF (aj 5)) (aa (eF (aX aI (d9 (aj 2) (bC (eF (aj 5)) bT)))) (aa (eC (.str "")) (aa (eC (.str "- -")) ak)))))))) (qx aU aK aO bf aI aD aW aG az))
def Qu (aU:FM) (aK:FM) (aO:FM) (bf:FM) (aI:FM) (aD:FM) (aW:FM) (aG:FM) (az:FM):GS:=
 (bL 5 (aX aI (d9 (aj 2) (bC (eF (aX aG (bC (eF (aj 3)) bT))) bT))))
def Qv (aU:FM) (aK:FM) (aO:FM) (bf:FM) (aI:FM) (aD:FM) (aW:FM) (aG:FM) (az:FM):GS:=
 (bL 9 (eP gn (aa (eF (aj 5)) (aa (eF (aX aI (d9 (aj 2) (bC (eF (aj 5)) bT)))) (aa (eF (aX aI (d9 (aj 2) (bC (eF (eP cB (aa (eF (aj 5)) (aa (eC (.str " new.4")) ak)))) bT)))) ak)))))
def U4 (aU:FM) (aK:FM) (aO:FM) (bf:FM) (aI:FM) (aD:FM) (aW:FM) (aG:FM) (az:FM):GS:=
 (lq (bName 6) (qc (eF (eP cB (aa (eF (aj 9)) (aa (eF (eP gn (aa (eC (.str "")) (aa (eC (.str "-")) (aa (eC (.str "a.5 b.5 c.0")) (aa (eC (.str "a.5 b.5")) ak)))))) ak))))) (qy aU aK aO bf aI aD aW aG az))
def kb_eq (aU:FM) (aK:FM) (aO:FM) (bf:FM) (aI:FM) (aD:FM) (aW:FM) (aG:FM) (az:FM):qz aU aK aO bf aI aD aW aG az=aJ (RD aU aK aO bf aI aD aW aG az) (aJ (kb1 aU aK aO bf aI aD aW aG az) (aJ (kb2 aU aK aO bf aI aD aW aG az) (aJ (RE aU aK aO bf aI aD aW aG az) (aJ (RG aU aK aO bf aI aD aW aG az) (aJ (Qu aU aK aO bf aI aD aW aG az) (aJ (Qv aU aK aO bf aI aD aW aG az) (U4 aU aK aO bf aI aD aW aG az))))))):=rfl
abbrev qA (C:Addr) (g:FM->FM->FM->FM->FM->FM->FM->FM->FM->GS):GS:=g qV l6 cG zj uq NZ (mq C) cS N1
section
variable {C:Addr}{T:AAG}{s0 s1 s2 s4 s5 x6 x7 x8 x9:Option U}{td:D}
def Nd (hT:T.length<=1000) (hz:z.length<=10000) (h7:dR x7=false) (h8:dR x8=false):
  qA C qx [s0,s1,s2,XU (bu T),s4,s5,XU (.str z),x7,x8,x9]=some (.nx [s0,s1,s2,XU (bu T),s4,s5,XU (.str z),XU (HK (iC T z)),XU (pJ z (iC T z)),x9]):=by
 have e1:=Qp (z:=z) hT hz
 have e2:=Qs (C:=C) (z:=z) hT hz
 generalize iC T z=ft at *
 generalize bu T=td at *
 cases ft with
 | none=>simp[-bW,bA,qx,e1,e2,h7,h8,iz,lA,sy,pJ,HK,gG,fE]
 | some j=>simp[-bW,bA,qx,e1,e2,h7,h8,iz,lA,sy,pJ,HK,gG,fE]
def Nf (hz:z.length<=10000) (h7:dR x7=false) (h8:dR x8=false):
  qA C qy [s0,s1,s2,XU td,s4,s5,XU (.str z),x7,x8,x9]=some (.nx [s0,s1,s2,XU td,s4,s5,XU (.str z),XU (HK (iS z)),XU (pJ z (iS z)),x9]):=by
 have e1:=Qq (z:=z) hz
 have e2:=Qt (C:=C) (td:=td) (z:=z) hz
 generalize iS z=ft at *
 cases ft with
 | none=>simp[-bW,bA,qy,e1,e2,h7,h8,iz,lA,sy,pJ,HK,gG,fE]
 | some j=>simp[-bW,bA,qy,e1,e2,h7,h8,iz,lA,sy,pJ,HK,gG,fE]
theorem Hi (hT:T.length<=1000):∀(zs:List Str) (x6 x7 x8:Option U),dR x6=false->dR x7=false->dR x8=false->(∀z∈zs,z.length<=10000)->∃y6 y7 y8,dR y6=false/\dR y7=false/\dR y8=false/\
  loop (bName 6) (qA C qx) (zs.map D.str) [s0,s1,s2,XU (bu T),s4,s5,x6,x7,x8,x9]=some (.nx [s0,s1,s2,XU (bu T),s4,s5,y6,y7,y8,x9])
 | [],x6,x7,x8,h6,h7,h8,_=>⟨x6,x7,x8,h6,h7,h8,rfl⟩
 | z :: zs,x6,x7,x8,h6,h7,h8,hz=>by
  have t:=Nd (C:=C) (s0:=s0) (s1:=s1) (s2:=s2) (s4:=s4) (s5:=s5) (x9:=x9) hT (hz z Yg) h7 h8
  obtain⟨y6,y7,y8,g6,g7,g8,e⟩:=Hi hT zs (XU (.str z)) (XU (HK (iC T z))) (XU (pJ z (iC T z))) rfl rfl rfl fun v hv=>hz v (Yb _ hv)
  refine⟨y6,y7,y8,g6,g7,g8,?_⟩
  have b:bName 6 (.str z) [s0,s1,s2,XU (bu T),s4,s5,x6,x7,x8,x9]=some [s0,s1,s2,XU (bu T),s4,s5,XU (.str z),x7,x8,x9]:=by simp[-bW,bA,h6]
  rw[Yj,iZ,b,X4,t]
  exact e
theorem Hj:∀(zs:List Str) (x6 x7 x8:Option U),dR x6=false->dR x7=false->dR x8=false->(∀z∈zs,z.length<=10000)->∃y6 y7 y8,dR y6=false/\dR y7=false/\dR y8=false/\
  loop (bName 6) (qA C qy) (zs.map D.str) [s0,s1,s2,XU td,s4,s5,x6,x7,x8,x9]=some (.nx [s0,s1,s2,XU td,s4,s5,y6,y7,y8,x9])
 | [],x6,x7,x8,h6,h7,h8,_=>⟨x6,x7,x8,h6,h7,h8,rfl⟩
 | z :: zs,x6,x7,x8,h6,h7,h8,hz=>by
  have t:=Nf (C:=C) (s0:=s0) (s1:=s1) (s2:=s2) (s4:=s4) (s5:=s5) (x9:=x9) (td:=td) (hz z Yg) h7 h8
  obtain⟨y6,y7,y8,g6,g7,g8,e⟩:=Hj zs (XU (.str z)) (XU (HK (iS z))) (XU (pJ z (iS z))) rfl rfl rfl fun v hv=>hz v (Yb _ hv)
  refine⟨y6,y7,y8,g6,g7,g8,?_⟩
  have b:bName 6 (.str z) [s0,s1,s2,XU td,s4,s5,x6,x7,x8,x9]=some [s0,s1,s2,XU td,s4,s5,XU (.str z),x7,x8,x9]:=by simp[-bW,bA,h6]
  rw[Yj,iZ,b,X4,t]
  exact e
end
def CB (h:∀p∈T,zF p):(JM T).length<=11 * T.length:=by
 rw[MK]
 have a:=StrLaws.join_length_le (⟨#[32]⟩:Str) (T.map word)
 have b:=Sr.Bb h
 have c:(⟨#[32]⟩:Str).length=1:=rfl
 rw[c,Yh] at a
 omega
def Ka (h:∀p∈T,zF p):(due T).length<=11 * T.length+1:=by
 unfold due
 split
 ·have:("-":Str).length=1:=rfl
  omega
 ·have:=CB h
  omega
structure RH (ns:List Int) (S:SS):Prop where
 ex:∃x1 x2 x3 x4 x5 x6 x7 x8 x9,dR x1=false/\dR x2=false/\dR x3=false/\dR x4=false/\dR x5=false/\dR x6=false/\dR x7=false/\dR x8=false/\dR x9=false/\S=[some (.s ns),x1,x2,x3,x4,x5,x6,x7,x8,x9]
def Ng {x2:Option U}(hk:0<=k) (hk2:k < 1000) (hns:ns.length < 1000) (h2:dR x2=false) (h3:dR x3=false) (h4:dR x4=false) (h5:dR x5=false):
  ∃(T:AAG) (z y:Str) (t:cK),(∀p∈T,zF p)/\T.length<=4/\z.length<=100/\y.length<=300/\0<=t.n/\t.n<=100/\
   qA C qz [some (.s ns),XX k,x2,x3,x4,x5,x6,x7,x8,x9]=(aJ (qA C RG) (aJ (qA C Qu) (aJ (qA C Qv) (qA C U4)))) [some (.s ns),XX k,some (.m (.dct (aT t))),XU (bu T),XU (.str z),XU (.str y),x6,x7,x8,x9]:=by
 have e0:=GG (ns:=ns) (k:=k) hk (by omega) (by omega)
 generalize ht0:y9 ns k=t0 at e0
 have n0:t0.n=0:=by rw[<-ht0];rfl
 have e1:=DN (t:=t0) (by omega) (by omega)
 have F:=zm t0
 have W:=JP t0
 obtain⟨s1,hs1⟩:∃s,d7 t0=s:=⟨_,rfl⟩
 rw[hs1] at e1 F W
 obtain⟨f1,f2,f3,f4,f5,f6⟩:=F
 have e3:=JN (t:=s1.t) (T:=s1.tab) (most:=6) f2 (by omega) (by omega) (by omega) (by omega)
 have G:=DG f2 f3 s1.t (most:=6) (by omega)
 have VX:=JQ f2 s1.t 6
 obtain⟨r,hr⟩:∃r,qk s1.t s1.tab 6=r:=⟨_,rfl⟩
 rw[hr] at e3 G VX
 obtain⟨g1,g2,g3,g4⟩:=G
 have hR:∀p∈r.1,zF p:=fun p hp=>US W.1 (VX p hp)
 have e4:cG [.t (bu r.1)]=some (.t (.str (due r.1)),[]):=zI (.inl rfl) hR (by omega)
 have dl:=Ka hR
 obtain⟨y,t3,B⟩:=pM (t:=r.2) (z:=due r.1) (by omega) (by omega) (by omega)
 have e5:=B.run
 have bl:=B.ln
 have b1:=B.lo
 have b2:=B.hi
 refine⟨s1.tab,due r.1,y,t3,W.1,f4,by omega,by omega,by omega,by omega,?_⟩
 generalize hz:due r.1=z at e4 e5
 generalize bu r.1=rd at e3 e4
 generalize s1.tab=T at *
 have s0:qA C RD [some (.s ns),XX k,x2,x3,x4,x5,x6,x7,x8,x9]=some (.nx [some (.s ns),XX k,some (.m (.dct (aT t0))),x3,x4,x5,x6,x7,x8,x9]):=by simp[-bW,bA,RD,h2,e0]
 have q1:qA C kb1 [some (.s ns),XX k,some (.m (.dct (aT t0))),x3,x4,x5,x6,x7,x8,x9]=some (.nx [some (.s ns),XX k,some (.m (.dct (aT s1.t))),XU (bu T),x4,x5,x6,x7,x8,x9]):=by simp[-bW,bA,kb1,h3,e1]
 have q2:qA C kb2 [some (.s ns),XX k,some (.m (.dct (aT s1.t))),XU (bu T),x4,x5,x6,x7,x8,x9]=some (.nx [some (.s ns),XX k,some (.m (.dct (aT r.2))),XU (bu T),XU (.str z),x5,x6,x7,x8,x9]):=by simp[-bW,bA,kb2,h4,e3,e4]
 have q3:qA C RE [some (.s ns),XX k,some (.m (.dct (aT r.2))),XU (bu T),XU (.str z),x5,x6,x7,x8,x9]=some (.nx [some (.s ns),XX k,some (.m (.dct (aT t3))),XU (bu T),XU (.str z),XU (.str y),x6,x7,x8,x9]):=by simp[-bW,bA,RE,h5,e5]
 show qz _ _ _ _ _ _ _ _ _ _=_
 rw[kb_eq]
 show aJ (qA C RD) (aJ (qA C kb1) (aJ (qA C kb2) (aJ (qA C RE) _))) _=_
 rw[cW s0,cW q1,cW q2,cW q3]
noncomputable def ctx:List Str:=["","-","a.5 b.5 c.0","a.5 b.5"]
def Nh {y:Str}{t:cK}(hT:∀p∈T,zF p) (hl:T.length<=4) (hz:z.length<=100) (hy:y.length<=300) (n0:0<=t.n) (n1:t.n<=100) (h6:dR x6=false) (h7:dR x7=false) (h8:dR x8=false) (h9:dR x9=false):
  ∃S',RH ns S'/\(aJ (qA C RG) (aJ (qA C Qu) (aJ (qA C Qv) (qA C U4)))) [some (.s ns),XX k,some (.m (.dct (aT t))),XU (bu T),XU (.str z),XU (.str y),x6,x7,x8,x9]=some (.nx S'):=by
 obtain⟨y2,t2,B2⟩:=pM (t:=t) (z:=y) (by omega) (by omega) (by omega)
 have e1:=B2.run
 have l1:=B2.ln
 have m1:=B2.lo
 have m2:=B2.hi
 have k0:("":Str).length=0:=rfl
 have k1:("- -":Str).length=3:=rfl
 have Xq:qc (eF (eP gn (aa (eF (aj 4)) (aa (eF (aj 5)) (aa (eF (aX uq (d9 (aj 2) (bC (eF (aj 5)) bT)))) (aa (eC (.str "")) (aa (eC (.str "- -")) ak))))))) [some (.s ns),XX k,some (.m (.dct (aT t))),XU (bu T),XU (.str z),XU (.str y),x6,x7,x8,x9]=some ([z,y,y2,"","- -"].map D.str,[some (.s ns),XX k,some (.m (.dct (aT t2))),XU (bu T),XU (.str z),XU (.str y),x6,x7,x8,x9]):=by
  simp[ql,e1]
 obtain⟨u6,u7,u8,g6,g7,g8,Xr⟩:=Hi (C:=C) (T:=T) (s0:=some (.s ns)) (s1:=XX k) (s2:=some (.m (.dct (aT t2)))) (s4:=XU (.str z)) (s5:=XU (.str y)) (x9:=x9) (by omega) [z,y,y2,"","- -"] x6 x7 x8 h6 h7 h8 (by
  intro v hv
  simp only[Yi,aaH,or_false] at hv
  rcases hv with rfl | rfl | rfl | rfl | rfl <;> omega)
 have p4:qA C RG [some (.s ns),XX k,some (.m (.dct (aT t))),XU (bu T),XU (.str z),XU (.str y),x6,x7,x8,x9]=some (.nx [some (.s ns),XX k,some (.m (.dct (aT t2))),XU (bu T),XU (.str z),XU (.str y),u6,u7,u8,x9]):=by
  show lq _ _ _ _=_
  rw[n8,Xq,X4]
  exact Xr
 rw[cW p4]
 have e2:cS [.t (bu T)]=some (.t (.str (JM T)),[]):=zJ hT (by omega)
 have sl:=CB hT
 obtain⟨y3,t3,B3⟩:=pM (t:=t2) (z:=JM T) (by omega) (by omega) (by omega)
 have e3:=B3.run
 have l3:=B3.ln
 have m3:=B3.lo
 have m4:=B3.hi
 generalize JM T=sT at e2 e3
 have p5:qA C Qu [some (.s ns),XX k,some (.m (.dct (aT t2))),XU (bu T),XU (.str z),XU (.str y),u6,u7,u8,x9]=some (.nx [some (.s ns),XX k,some (.m (.dct (aT t3))),XU (bu T),XU (.str z),XU (.str y3),u6,u7,u8,x9]):=by
  generalize bu T=td at *
  simp[-bW,bA,Qu,e2,e3]
 rw[cW p5]
 obtain⟨y4,t4,B4⟩:=pM (t:=t3) (z:=y3) (by omega) (by omega) (by omega)
 have e4:=B4.run
 have l4:=B4.ln
 have m5:=B4.lo
 have m6:=B4.hi
 have k2:(Str.ofString " new.4").length=6:=rfl
 obtain⟨y5,t5,B5⟩:=pM (t:=t4) (z:=y3++Str.ofString " new.4") (by rw[YM];omega) (by omega) (by omega)
 have e5:=B5.run
 have l5:=B5.ln
 rw[YM] at l5
 have ad:y3.length+(Str.ofString " new.4").length<=100000:=by omega
 have p6:qA C Qv [some (.s ns),XX k,some (.m (.dct (aT t3))),XU (bu T),XU (.str z),XU (.str y3),u6,u7,u8,x9]=some (.nx [some (.s ns),XX k,some (.m (.dct (aT t5))),XU (bu T),XU (.str z),XU (.str y3),u6,u7,u8,XW ([y3,y4,y5].map D.str)]):=by
  generalize bu T=td at *
  simp[-bW,bA,Qv,h9,e4,e5,ad]
 rw[cW p6]
 have k3:("-":Str).length=1:=rfl
 have k4:("a.5 b.5 c.0":Str).length=11:=rfl
 have k5:("a.5 b.5":Str).length=7:=rfl
 obtain⟨v6,v7,v8,i6,i7,i8,Xs⟩:=Hj (C:=C) (td:=bu T) (s0:=some (.s ns)) (s1:=XX k) (s2:=some (.m (.dct (aT t5)))) (s4:=XU (.str z)) (s5:=XU (.str y3)) (x9:=XU (.lst ([y3,y4,y5].map D.str))) ([y3,y4,y5]++ctx) u6 u7 u8 g6 g7 g8 (by
  intro v hv
  simp only[ctx,YN,Yi,aaH,or_false] at hv
  rcases hv with(rfl | rfl | rfl) | rfl | rfl | rfl | rfl <;> omega)
 have Xu:qc (eF (eP cB (aa (eF (aj 9)) (aa (eF (eP gn (aa (eC (.str "")) (aa (eC (.str "-")) (aa (eC (.str "a.5 b.5 c.0")) (aa (eC (.str "a.5 b.5")) ak)))))) ak)))) [some (.s ns),XX k,some (.m (.dct (aT t5))),XU (bu T),XU (.str z),XU (.str y3),u6,u7,u8,XW ([y3,y4,y5].map D.str)]=some (([y3,y4,y5]++ctx).map D.str,[some (.s ns),XX k,some (.m (.dct (aT t5))),XU (bu T),XU (.str z),XU (.str y3),u6,u7,u8,XU (.lst ([y3,y4,y5].map D.str))]):=by
  simp[ql,ctx]
 refine⟨_,⟨XX k,some (.m (.dct (aT t5))),XU (bu T),XU (.str z),XU (.str y3),v6,v7,v8,XU (.lst ([y3,y4,y5].map D.str)),rfl,rfl,rfl,rfl,rfl,i6,i7,i8,rfl,rfl⟩,?_⟩
 show lq _ _ _ _=_
 rw[n8,Xu,X4]
 exact Xs
def Ni (hk:0<=k) (hk2:k < 1000) (hns:ns.length < 1000) (h:RH ns S):∃S1 S2,bName 1 (.int k) S=some S1/\qA C qz S1=some (.nx S2)/\RH ns S2:=by
 obtain⟨x1,x2,x3,x4,x5,x6,x7,x8,x9,h1,h2,h3,h4,h5,h6,h7,h8,h9,rfl⟩:=h.ex
 obtain⟨T,z,y,t,a1,a2,a3,a4,a5,a6,e⟩:=Ng (ns:=ns) (k:=k) (C:=C) (x6:=x6) (x7:=x7) (x8:=x8) (x9:=x9) hk hk2 hns h2 h3 h4 h5
 obtain⟨S',j,e2⟩:=Nh (ns:=ns) (k:=k) (C:=C) a1 a2 a3 a4 a5 a6 h6 h7 h8 h9
 exact⟨[some (.s ns),XX k,x2,x3,x4,x5,x6,x7,x8,x9],S',by simp[-bW,bA,h1],e.trans e2,j⟩
def Hl (ns:List Int) (lo hi:Option Int):(uM ns lo hi).length<=ns.length:=by
 unfold uM
 rw[ZZ,ZC]
 omega
def Nj (i:Nat) (lo hi:Option GD) (S:SS):Fj i lo hi S=match S[i]? with | some (some (.s ns))=>(jk lo S).bind fun l=>(jk hi l.2).map fun h=>(.m (.lst ((uM ns l.1 h.1).map D.int)),h.2) | _=>none:=rfl
def Ho {c:Int}{r:SS}:(aa (eF (eP cB (aa (eC (.int 1)) (aa (eF (eP AG (aa (eF (Fj 0 none (some (eC (.int c))))) ak))) ak)))) ak) (some (.s ns) :: r)=some ([.int ((1+(uM ns none (some c)).length:Nat):Int)],some (.s ns) :: r):=by
 simp[Nj]
def D3 (C:Addr):∀us r,zp 63 us=some r->bM 10 (qA C K1) us=some r:=by
 intro us r h
 unfold zp at h
 split at h
 ·rename_i ns
  obtain⟨hl,rfl⟩:=bh h
  have cl:=Hl ns none (some 19)
  have eg:=Sq.qp (Ho (ns:=ns) (c:=19) (r:=[none,none,none,none,none,none,none,none,none])) (by omega) (by omega)
  rw[Zt] at eg
  obtain⟨S',e,jS⟩:=Gs (bd:=bName 1) (body:=qA C qz) (pT 0 (1+(uM ns none (some 19)).length)) (fun _ S=>RH ns S) [some (.s ns),none,none,none,none,none,none,none,none,none] ⟨none,none,none,none,none,none,none,none,none,rfl,rfl,rfl,rfl,rfl,rfl,rfl,rfl,rfl,rfl⟩ (fun j d S hd hJ=>by
   obtain⟨hj,rfl⟩:=JL hd
   exact Ni (by omega) (by omega) (by omega) hJ)
  obtain⟨x1,x2,x3,x4,x5,x6,x7,x8,x9,_,_,_,_,_,_,_,_,_,rfl⟩:=jS.ex
  refine kT (S0:=[some (.s ns),none,none,none,none,none,none,none,none,none]) rfl (S':=[some (.s ns),x1,x2,x3,x4,x5,x6,x7,x8,x9]) ?_ rfl
  show aJ _ _ _=_
  refine(cW (S1:=[some (.s ns),x1,x2,x3,x4,x5,x6,x7,x8,x9]) ?_).trans ?_
  ·rw[n8,eg,X4]
   exact e
  ·simp
 ·cases h
end Sd
end
namespace K13
open PySem PySem.Spec PyProof.Rows L2 Sw Sr Sd
variable {l:PySem.W.OpenLaw}
def top (i:Nat):Stmt:=PySem.Challenge.pw_surewatch_k13_rows_and_tables_refused.main.body.getD i (.Pass ⟨0,0,0,0⟩)
variable {P:Program}{w:World}{K:AAA}{mg:AAC}{base:Heap}
variable {aC bN cO cg bO cj cu aM bw cP bQ aY:Addr}
noncomputable def Qw (s:Stmt) (j:Nat):Stmt:=match s with
 | .ClassDef _ _ _ b _ _ _ _ _ _ _=>b.getD j (.Pass ⟨0,0,0,0⟩)
 | _=>.Pass ⟨0,0,0,0⟩
def Nk (i j:Nat):Stmt:=Qw (top i) j
structure Nb (P:Program) (w:World) (K:AAA) (aC:Addr) (bN:Addr) (cO:Addr) (cg:Addr) (bO:Addr) (cj:Addr) (cu:Addr) (aM:Addr) (bw:Addr) (cP:Addr) (bQ:Addr) (aY:Addr) (mg:AAC):Prop where
 cQ:mg "isinstance" =none
 U5:mg "int" =none
 Hq:mg "bool" =none
 Bj:mg "tuple" =none
 lB:mg "len" =none
 Nl:mg "str" =none
 U6:mg "all" =none
 U7:mg "any" =none
 kU:mg "enumerate" =none
 U8:mg "max" =none
 ur:mg "range" =none
 U9:mg "min" =none
 zT:mg "ValueError" =none
 uR:∃t,mg "LONGEST_NAME" =some (.int 8 t)
 Hr:∃t,mg "LETTERS" =some (.str "abcdefghijklmnopqrstuvwxyz" t)
 Hs:∃a,mg "FIGURES" =some (.ref a)/\KTab P w K a [("0",0),("1",1),("2",2),("3",3),("4",4),("5",5),("6",6),("7",7),("8",8),("9",9)]
 kq:∃t,mg "MOST_HAPPENINGS" =some (.int 12 t)
 mw:∃t,mg "GREATEST_MOST" =some (.int 5 t)
 qX:∃t,mg "MOST_NAMES" =some (.int 4 t)
 Ht:mg "NoWatch" =some (.ref bN)
 Nm:mg "NoRow" =some (.ref cO)
 Kc:mg "NoRing" =some (.ref cg)
 Hu:mg "NoPaper" =some (.ref bO)
 Ke:mg "NoName" =some (.ref cj)
 Kf:mg "NoJoin" =some (.ref cu)
 xM:mg "NoHappening" =some (.ref aM)
 D4:mg "NoBeside" =some (.ref bw)
 Np:mg "Twice" =some (.ref cP)
 Hv:mg "TooMany" =some (.ref bQ)
 Kg:mg "NoText" =some (.ref aC)
 Bk:mg "SureError" =some (.ref aY)
 pN:∃cd,l7 K aC cd
 rS:D9 K aC
 i0:PySem.W.kitAny K (.ref aC) ([bw,aM,cu,cj,bO,cg,cO,bN].map Value.ref)=some false
 i1:PySem.W.kitAny K (.ref aC) ([bQ,cP].map Value.ref)=some false
 i2:PySem.W.kitOne K (.ref aC) (.ref aC)=some true
 i3:PySem.W.kitOne K (.ref aC) (.type "ValueError")=some true
 Kh:PySem.W.hasDictIn K aC=true
 Bl:iH K aC "at"
 pO:∃bm,tR K aC bm/\(Value.ref aC :: bm).contains (.ref aY)=true
 Bm:∃bm,tR K aY bm/\bm.contains (.type "BaseException")=true
 xN:∀base,UH P w K mg base "NoText" aC ["at"]
abbrev oA:Stmt:=top 16
def zU:bF ["thing","least","most"] ["thing","least","most"] (aF oA):=sI
def zV (D:Df K mg "is_whole" oA) (N:Nb P w K aC bN cO cg bO cj cu aM bw cP bQ aY mg):gP P w K mg base 1 "is_whole" ["thing","least","most"] lW:=
 uD (g:=n9) D zU (fun _ _ _ _ _ _ _ hr=>(au (c9 (JW.t (dF (iK (gq (gX rfl N.cQ rfl N.U5 PyProof.Rows.Boot.int (jv 0)))) (cF (gq (gX rfl N.cQ rfl N.Hq ZX (jv 0)))))) (aN (bB (JD.e oR))) cD)
  (aN (bB (JD.e (wV (JE.d (nP qb (jv 1) (jv 0))) (AB (JE.d (nP qb (jv 0) (jv 2)))))))))) whole_run
abbrev oB:Stmt:=top 17
def zW:bF ["thing","least","most"] ["thing","least","most"] (aF oB):=sI
def zX (D:Df K mg "is_tuple" oB) (N:Nb P w K aC bN cO cg bO cj cu aM bw cP bQ aY mg):gP P w K mg base 1 "is_tuple" ["thing","least","most"] lX:=
 uD (g:=oh) D zW (fun _ _ _ _ _ _ _ hr=>(aN (bB (JD.e (wV (gX rfl N.cQ rfl N.Bj ZT (jv 0)) (wV (JE.d (nP qb (jv 1) (eB (i:=0) rfl N.lB))) (AB (JE.d (nP qb (eB (i:=0) rfl N.lB) (jv 2)))))))))) Dv
abbrev qC:Stmt:=top 18
def Bo:bF ["thing"] ["thing"] (aF qC):=sI
def Bp (D:Df K mg "is_name" qC) (N:Nb P w K aC bN cO cg bO cj cu aM bw cP bQ aY mg):gP P w K mg base 1 "is_name" ["thing"] jI:=
 by obtain⟨HL,uS⟩:=N.uR;obtain⟨Qx,Hw⟩:=N.Hr;exact uD (g:=kj) D Bo (fun _ _ _ _ _ _ _ hr=>(au (c9 (JW.t (dF (iK (gq (gX rfl N.cQ rfl N.Nl Z4 (jv 0)))) (dF (br p9 (eB (i:=0) rfl N.lB) aA) (cF (br kG (eB (i:=0) rfl N.lB) (gF rfl uS)))))) (aN (bB (JD.e oR))) cD)
  (aN (bB (lK (Dj rfl) rfl N.U6 PyProof.Rows.Boot.all (aq (JE.d (rJ cp rfl (qd (jv 0)) (fun _ _ _ _=>mX) (fun _ _ _ _=>(JE.d (nP (w5 hr.units) (jv 0) (IT rfl Hw) (by with_unfolding_all rfl)))))) aZ)))))) Gr
abbrev jz:Stmt:=top 23
def rz:bF ["table","thing"] ["table","thing"] (aF jz):=sI
def rA (D:Df K mg "is_happening" jz) (N:Nb P w K aC bN cO cg bO cj cu aM bw cP bQ aY mg) (qD:gP P w K mg base 1 "is_tuple" ["thing","least","most"] lX) (qE:gP P w K mg base 1 "is_whole" ["thing","least","most"] lW):gP P w K mg base 2 "is_happening" ["table","thing"] jq:=
 uD (g:=gH lX lW) D rz (fun _ _ _ _ _ _ _ hr=>(au (c9 (iK (gq (JE.d (jc qD hr (aR (jv 1) (aR aA (aR aA bq))))))) (aN (bB (JD.e oR))) cD)
  (aN (bB (lK (Dk rfl) rfl N.U7 PyProof.Rows.Boot.any (aq (JE.d (rJ (cc 1) rfl (qd (jv 0)) (fun _ _ _ _=>mX) (fun _ _ _ _=>(wV (JE.d (nP (gz hr.units) (ys hr 0 aA) (ys hr 1 aA))) (AB (JE.d (jc qE hr (aR (ys hr 1 aA) (aR aA (aR (ys hr 0 aA) bq)))))))))) aZ)))))) Ji
abbrev mz:Stmt:=top 26
def pP:bF ["word","cut"] ["word"] (aF mz):=sI
def xO (D:Df K mg "read_pair" mz) (N:Nb P w K aC bN cO cg bO cj cu aM bw cP bQ aY mg) (uu:gP P w K mg base 1 "is_name" ["thing"] jI):gP P w K mg base 2 "read_pair" ["word"] pairF:=
 by obtain⟨Qy,zY,zZ⟩:=N.Hs;exact uD (g:=fX jI) D pP (fun _ _ _ _ _ _ _ hr=>(au (zs pP.nd 1 (dH AW aax PySem.F.type_str_partition FE (jv 0) aP))
  (au (c9 (JW.t (dF (iK (gq (JE.d (jc uu hr (aR (ys hr 1 aA) bq))))) (cF (yU rfl zY zZ (ys hr 1 aA))))) (aN (bB (JD.e fR))) cD)
  (aN (bB (jN (aq (ys hr 1 aA) (aq (Ma rfl zY zZ (ys hr 1 aA)) aZ)))))))) Gz
abbrev kW:Stmt:=top 27
def cR:bF ["table","text","row","at","word","happening"] ["table","text"] (aF kW):=sI
def z4 (D:Df K mg "read_row" kW) (N:Nb P w K aC bN cO cg bO cj cu aM bw cP bQ aY mg) (cE:gP P w K mg base 2 "read_pair" ["word"] pairF) (dz:gP P w K mg base 2 "is_happening" ["table","thing"] jq):gP P w K mg base 3 "read_row" ["table","text"] gI:=
 uD (g:=ju pairF jq) D cR (fun _ _ _ _ _ _ _ hr=>(au (c9 (br (gz hr.units) (jv 1) aP) (aN (bB (jN aZ))) cD)
  (au (zs cR.nd 2 (ez aZ))
  (au (Cd Y3 rfl (rL rfl N.kU (aq (JE.d (dH eG Yx YL gY (jv 1) aP)) aZ)) (sE rfl (fJ (zg cR.nd 3) (fJ (zg cR.nd 4) oZ))) (au (zs cR.nd 5 (jc cE hr (aR (jv 4) bq)))
  (au (c9 (iK (gq (JE.d (jc dz hr (aR (jv 0) (aR (jv 5) bq)))))) (aN sY) cD)
  (aN (mU (JD.e (kJ (i:=2) YS YT iW iX iY (aq (jv 5) aZ))))))))
  (aN (bB (p7 qR rfl N.Bj ZT (aq (jv 2) aZ)))))))) zK
def xP (D:Df K mg "read_row" kW) (N:Nb P w K aC bN cO cg bO cj cu aM bw cP bQ aY mg) (cE:gP P w K mg base 2 "read_pair" ["word"] pairF) (dz:gP P w K mg base 2 "is_happening" ["table","thing"] jq):DK P w K mg base 3 "read_row" ["table","text"] ((eZ aC)):=
 Qh (g:=fZ pairF jq aC) D cR (fun _ _ _ _ _ _ _ hr=>(xo (c9 (br (gz hr.units) (jv 1) aP) (aN (bB (jN aZ))) cD)
  (xo (zs cR.nd 2 (ez aZ))
  (l8 (VP (rL rfl N.kU (aq (JE.d (dH eG Yx YL gY (jv 1) aP)) aZ)) (sE rfl (fJ (zg cR.nd 3) (fJ (zg cR.nd 4) oZ))) (au (zs cR.nd 5 (jc cE hr (aR (jv 4) bq)))
  (au (c9 (iK (gq (JE.d (jc dz hr (aR (jv 0) (aR (jv 5) bq)))))) (aN sY) cD)
  (aN (mU (JD.e (kJ (i:=2) YS YT iW iX iY (aq (jv 5) aZ))))))) (xo (zs cR.nd 5 (jc cE hr (aR (jv 4) bq)))
  (l8 (xi (iK (gq (JE.d (jc dz hr (aR (jv 0) (aR (jv 5) bq)))))) (l8 (xr (N.xN _) hr (aq (jv 3) aZ))) A5)))))))) (xF aC)
abbrev iV:Stmt:=top 28
def bx:bF ["text","table","left","at","word","entry"] ["text"] (aF iV):=sI
def uT (D:Df K mg "read_table" iV) (N:Nb P w K aC bN cO cg bO cj cu aM bw cP bQ aY mg) (cE:gP P w K mg base 2 "read_pair" ["word"] pairF):gP P w K mg base 3 "read_table" ["text"] iA:=
 by obtain⟨qF,g9⟩:=N.kq;obtain⟨uv,fc⟩:=N.mw;obtain⟨z5,iG⟩:=N.qX;exact uD (g:=iU pairF) D bx (fun _ _ _ _ _ _ _ hr=>(au (zs bx.nd 1 (ez aZ))
  (au (zs bx.nd 2 (JD.e (gF rfl g9)))
  (au (Cd Y3 rfl (rL rfl N.kU (aq (JE.d (dH eG Yx YL gY (jv 0) aP)) aZ)) (sE rfl (fJ (zg bx.nd 3) (fJ (zg bx.nd 4) oZ))) (au (zs bx.nd 5 (jc cE hr (aR (jv 4) bq)))
  (au (c9 (JW.t (dF (br jF (jv 5) fR) (dF (br kG (ys hr 5 aA) (gF rfl fc)) (cF (br sC (jv 3) (gF rfl iG)))))) (aN sY) cD)
  (au (za Ad bx.nd 2 (JE.d (bH bG (ys hr 5 aA) aA)))
  (au (c9 (JW.t (dF (br p9 (jv 2) aA) (cF (br (w5 hr.units) (ys hr 5 aA) (JE.d (sZ 1 cp rfl (fun _ _ _ _=>mX) (fun _ _ _ _=>(ys hr 0 aA)))) (by with_unfolding_all rfl))))) (aN sY) cD)
  (aN (mU (JD.e (kJ (i:=1) YS YT iW iX iY (aq (jv 5) aZ))))))))))
  (aN (bB (p7 qR rfl N.Bj ZT (aq (jv 1) aZ)))))))) zL
def uw (D:Df K mg "read_table" iV) (N:Nb P w K aC bN cO cg bO cj cu aM bw cP bQ aY mg) (cE:gP P w K mg base 2 "read_pair" ["word"] pairF):DK P w K mg base 3 "read_table" ["text"] ((fP aC)):=
 by obtain⟨uv,fc⟩:=N.mw;obtain⟨z5,iG⟩:=N.qX;obtain⟨qF,g9⟩:=N.kq;exact Qh (g:=fO pairF aC) D bx (fun _ _ _ _ _ _ _ hr=>(xo (zs bx.nd 1 (ez aZ))
  (xo (zs bx.nd 2 (JD.e (gF rfl g9)))
  (l8 (VP (rL rfl N.kU (aq (JE.d (dH eG Yx YL gY (jv 0) aP)) aZ)) (sE rfl (fJ (zg bx.nd 3) (fJ (zg bx.nd 4) oZ))) (au (zs bx.nd 5 (jc cE hr (aR (jv 4) bq)))
  (au (c9 (JW.t (dF (br jF (jv 5) fR) (dF (br kG (ys hr 5 aA) (gF rfl fc)) (cF (br sC (jv 3) (gF rfl iG)))))) (aN sY) cD)
  (au (za Ad bx.nd 2 (JE.d (bH bG (ys hr 5 aA) aA)))
  (au (c9 (JW.t (dF (br p9 (jv 2) aA) (cF (br (w5 hr.units) (ys hr 5 aA) (JE.d (sZ 1 cp rfl (fun _ _ _ _=>mX) (fun _ _ _ _=>(ys hr 0 aA)))) (by with_unfolding_all rfl))))) (aN sY) cD)
  (aN (mU (JD.e (kJ (i:=1) YS YT iW iX iY (aq (jv 5) aZ))))))))) (xo (zs bx.nd 5 (jc cE hr (aR (jv 4) bq)))
  (xq (xi (JW.t (dF (br jF (jv 5) fR) (dF (br kG (ys hr 5 aA) (gF rfl fc)) (cF (br sC (jv 3) (gF rfl iG)))))) (l8 (xr (N.xN _) hr (aq (jv 3) aZ))) A5) (c9 (JW.t (dF (br jF (jv 5) fR) (dF (br kG (ys hr 5 aA) (gF rfl fc)) (cF (br sC (jv 3) (gF rfl iG)))))) (aN sY) cD)
  (xo (za Ad bx.nd 2 (JE.d (bH bG (ys hr 5 aA) aA)))
  (l8 (xi (JW.t (dF (br p9 (jv 2) aA) (cF (br (w5 hr.units) (ys hr 5 aA) (JE.d (sZ 1 cp rfl (fun _ _ _ _=>mX) (fun _ _ _ _=>(ys hr 0 aA)))) (by with_unfolding_all rfl))))) (l8 (xr (N.xN _) hr (aq (jv 3) aZ))) A5)))))))))) (xH aC)
abbrev jT:Stmt:=top 30
def ux:bF ["pairs"] ["pairs"] (aF jT):=sI
def uy (D:Df K mg "shown_pairs" jT) (N:Nb P w K aC bN cO cg bO cj cu aM bw cP bQ aY mg):gP P w K mg base 1 "shown_pairs" ["pairs"] fT:=
 uD (g:=dY) D ux (fun _ _ _ _ _ _ _ hr=>(aN (bB (dH kM Zy Zz pq aP (JE.d (rJ cp rfl (qd (jv 0)) (fun _ _ _ _=>mX) (fun _ _ _ _=>(JE.d (bH bG (JE.d (bH bG (ys hr 0 aA) aP)) (JE.d (p7 AX rfl N.Nl Z4 (aq (ys hr 0 aA) aZ)))))))))))) DM
abbrev mC:Stmt:=top 31
def xQ:bF ["row"] ["row"] (aF mC):=sI
def xR (D:Df K mg "shown_row" mC) (N:Nb P w K aC bN cO cg bO cj cu aM bw cP bQ aY mg) (fy:gP P w K mg base 1 "shown_pairs" ["pairs"] fT):gP P w K mg base 2 "shown_row" ["row"] cG:=
 uD (g:=eV fT) D xQ (fun _ _ _ _ _ _ _ hr=>(au (c9 (br (gz hr.units) (eB (i:=0) rfl N.lB) aA) (aN (bB (JD.e aP))) cD)
  (aN (bB (jc fy hr (aR (jv 0) bq)))))) xC
abbrev jU:Stmt:=top 32
def uz:bF ["table"] ["table"] (aF jU):=sI
def uA (D:Df K mg "shown_table" jU) (fy:gP P w K mg base 1 "shown_pairs" ["pairs"] fT):gP P w K mg base 2 "shown_table" ["table"] cS:=
 uD (g:=fK fT) D uz (fun _ _ _ _ _ _ _ hr=>(aN (bB (jc fy hr (aR (jv 0) bq))))) xD
abbrev mD:Stmt:=top 34
def kX:bF ["_law_script","_law_at","_law_cell"] ["_law_script","_law_at"] (aF mD):=sI
def xS (D:Df K mg "_law_tape" mD) (N:Nb P w K aC bN cO cg bO cj cu aM bw cP bQ aY mg):gP P w K mg base 1 "_law_tape" ["_law_script","_law_at"] qV:=
 uD (g:=jH) D kX (fun _ _ _ _ _ _ _ hr=>(au (zs kX.nd 2 (bK 1))
  (au (c9 (br kG (eB (i:=0) rfl N.lB) aA) (aN (zs kX.nd 2 (bH bG (ys hr 0 (JE.d (bH mS (jv 1) (eB (i:=0) rfl N.lB)))) (JE.d (bH wW (jv 1) (eB (i:=0) rfl N.lB)))))) cD)
  (aN (bB (IQ (hk:=Nat.le_of_ble_eq_true rfl) (sR (jv 2) (sR (JE.d (lK (AM rfl) rfl N.U8 PyProof.Rows.Boot.max (aq aA (aq (JE.d (bH oX (jv 2) (JE.d (bH IB aA aA)))) aZ)))) (sR aA IP))))))))) FG
abbrev mF:Stmt:=top 35
def gK:bF ["_law_tape_here","_law_many","_law_turn","_law_found","_law_mixed"] ["_law_tape_here","_law_many"] (aF mF):=sI
def xT (D:Df K mg "_law_pick" mF):gP P w K mg base 1 "_law_pick" ["_law_tape_here","_law_many"] bU:=
 uD (g:=jG) D gK (fun _ _ _ _ _ _ _ hr=>(au (zs gK.nd 2 (bH bG (ys hr 0 aP) aA))
  (au (Fi (i:=0) (EU hr) aP (jv 2))
  (au (c9 (br kG (ys hr 0 aP) aA) (au (zs gK.nd 3 (bH mS (ys hr 0 aP) (jv 1)))
  (au (Fi (i:=0) (EU hr) aP (JE.d (bH wW (ys hr 0 aP) (jv 1))))
  (aN (bB (bK 3))))) cD)
  (au (zs gK.nd 4 (bH oY (JE.d (bH bG (JE.d (bH bG (JE.d (bH mS (ys hr 0 aP) aA)) (JE.d (bH oY (JE.d (bH oY aA (jv 2))) (jv 2))))) aA)) aA))
  (au (zs gK.nd 4 (bH oY (JE.d (bH bG (JE.d (bH mS (jv 4) aA)) (JE.d (bH oY aA (jv 2))))) aA))
  (aN (bB (bH mS (JE.d (bH wW (JE.d (bH mS (jv 4) aA)) aA)) (jv 1)))))))))) pick_run
abbrev jA:Stmt:=top 36
def rB:bF ["_law_thing"] ["_law_thing"] (aF jA):=sI
def rC (D:Df K mg "_law_is_name" jA) (N:Nb P w K aC bN cO cg bO cj cu aM bw cP bQ aY mg):gP P w K mg base 1 "_law_is_name" ["_law_thing"] jI:=
 uD (g:=eU) D rB (fun _ _ _ _ _ _ _ hr=>(au (c9 (JW.t (dF (iK (gq (gX rfl N.cQ rfl N.Nl Z4 (jv 0)))) (cF (iK (E3 qb qb aA (eB (i:=0) rfl N.lB) aA))))) (aN (bB (JD.e oR))) cD)
  (aN (bB (nP (gz hr.units) (JE.d (rJ cp rfl (qd (jv 0)) (fun _ _ _ _=>(BZ (br (vB hr.units) (jv 0) aP (by with_unfolding_all rfl)))) (fun _ _ _ _=>(jv 0)))) (JE.d (ez aZ))))))) xB
abbrev kY:Stmt:=top 37
def uU:bF [] [] (aF kY):=sI
def uV (D:Df K mg "_law_names" kY):gP P w K mg base 1 "_law_names" [] iL:=
 uD (g:=pB) D uU (fun _ _ _ _ _ _ _ hr=>(aN (bB (ez (aq aP (aq aP (aq aP (aq aP (aq aP (aq aP (aq aP (aq aP aZ)))))))))))) Dw
abbrev kZ:Stmt:=top 38
def cL:bF ["_law_tape_here","_law_names_here","_law_table_here","_law_left","_law_k","_law_name","_law_most"] ["_law_tape_here"] (aF kZ):=sI
def uW (D:Df K mg "_law_table" kZ) (N:Nb P w K aC bN cO cg bO cj cu aM bw cP bQ aY mg) (mG:gP P w K mg base 1 "_law_names" [] iL) (bY:gP P w K mg base 1 "_law_pick" ["_law_tape_here","_law_many"] bU):gP P w K mg base 2 "_law_table" ["_law_tape_here"] l6:=
 uD (g:=kO iL bU) D cL (fun _ _ _ _ _ _ _ hr=>(au (zs cL.nd 1 (W7 mG hr))
  (au (zs cL.nd 2 (jN aZ))
  (au (zs cL.nd 3 (JD.e aA))
  (au (nU Y3 rfl (j6 rfl N.ur (aq (JE.d (yG E6 (JE.d (ez (aq aA (aq aA (aq aA (aq aA (aq aA aZ))))))) (JE.d (jc bY hr (dG (bK 0) (aR aA bq)))) (fun _ _=>rfl))) aZ)) (zg cL.nd 4) (au (zs cL.nd 5 (JD.e (kJ (i:=1) PySem.F.slot_list_pop PySem.F.type_list_pop ER Fc Fq (aq (JE.d (jc bY hr (dG (bK 0) (aR (eB (i:=1) rfl N.lB) bq)))) aZ))))
  (au (zs cL.nd 6 (lK (AL rfl) rfl N.U9 PyProof.Rows.Boot.min (aq aA (aq (JE.d (bH bG (JE.d (bH oX (jv 3) aA)) (jv 4))) (aq (JE.d (jc bY hr (dG (bK 0) (aR aA bq)))) aZ)))))
  (au (zs cL.nd 2 (bH bG (jv 2) (JE.d (jN (aq (JE.d (jN (aq (jv 5) (aq (jv 6) aZ)))) aZ)))))
  (aN (zs cL.nd 3 (bH oX (JE.d (bH oX (jv 3) (jv 6))) aA)))))))
  (aN (bB (bK 2)))))))) Dz
abbrev oE:Stmt:=top 39
def f9:bF ["_law_tape_here","_law_table_here","_law_most","_law_row_here","_law_k","_law_name","_law_highest"] ["_law_tape_here","_law_table_here","_law_most"] (aF oE):=sI
def z7 (D:Df K mg "_law_row" oE) (N:Nb P w K aC bN cO cg bO cj cu aM bw cP bQ aY mg) (bY:gP P w K mg base 1 "_law_pick" ["_law_tape_here","_law_many"] bU):gP P w K mg base 2 "_law_row" ["_law_tape_here","_law_table_here","_law_most"] zj:=
 uD (g:=oq bU) D f9 (fun _ _ _ _ _ _ _ hr=>(au (zs f9.nd 3 (jN aZ))
  (au (nU Y3 rfl (j6 rfl N.ur (aq (JE.d (jc bY hr (dG (bK 0) (aR (JE.d (bH bG (jv 2) aA)) bq)))) aZ)) (zg f9.nd 4) (au (LK (ys hr 1 (JE.d (jc bY hr (dG (bK 0) (aR (eB (i:=1) rfl N.lB) bq))))) (sE rfl (fJ (zg f9.nd 5) (fJ (zg f9.nd 6) oZ))))
  (aN (zs f9.nd 3 (bH bG (jv 3) (JE.d (jN (aq (JE.d (jN (aq (jv 5) (aq (JE.d (jc bY hr (dG (bK 0) (aR (JE.d (bH bG (jv 6) aA)) bq)))) aZ)))) aZ))))))))
  (aN (bB (bK 3)))))) Je
abbrev jB:Stmt:=top 40
def k9:bF ["_law_error","_law_kinds"] ["_law_error"] (aF jB):=sI
def rD (D:Df K mg "_law_refused" jB) (N:Nb P w K aC bN cO cg bO cj cu aM bw cP bQ aY mg):gP P w K mg base 1 "_law_refused" ["_law_error"] ((zQ aC)):=
 uD (g:=gJ aC) D k9 (fun _ _ _ _ _ _ _ hr=>(au (zs k9.nd 1 (ez (aq (VQ N.cQ (uO N.D4 (uO N.xM (uO N.Kf (uO N.Ke (uO N.Hu (uO N.Kc (uO N.Nm (uO N.Ht K0)))))))) (rQ ⟨N.pN,N.rS,N.i0⟩ xA) (bK 0)) aZ)))
  (au (mU (JD.e (kJ (i:=1) YS YT iW iX iY (aq (VQ N.cQ (uO N.Hv (uO N.Np K0)) (rQ ⟨N.pN,N.rS,N.i1⟩ xA) (bK 0)) aZ))))
  (au (c9 (JW.t (dF (Ja (i:=1) (wZ hr.units) (JE.d (ez (aq oR (aq oR aZ))))) (dF (iK (gq (Xn N.cQ N.Kg (rQ ⟨N.pN,N.rS,N.i2⟩ xA) (bK 0)))) (cF (iK (gq (Xo N.cQ N.zT PyProof.Rows.Boot.ValueError (rQ ⟨N.pN,N.rS,N.i3⟩ xA) (bK 0)))))))) (aN (bB (vn mT aA))) cD)
  (aN (bB (JD.e (JF (Co ⟨N.pN,N.Kh,N.Bl⟩ Gq) (bK 0))))))))) (J6 aC)
abbrev mH:Stmt:=top 41
def xU:bF ["_law_word"] ["_law_word"] (aF mH):=sI
def xV (D:Df K mg "_law_pair" mH) (N:Nb P w K aC bN cO cg bO cj cu aM bw cP bQ aY mg) (jV:gP P w K mg base 1 "_law_is_name" ["_law_thing"] jI):gP P w K mg base 2 "_law_pair" ["_law_word"] oG:=
 uD (g:=dg jI) D xU (fun _ _ _ _ _ _ _ hr=>(au (c9 (JW.t (dF (br p9 (eB (i:=0) rfl N.lB) aA) (dF (br (wZ hr.units) (JE.d (yG E6 (jv 0) (JE.d (vn mT aA)) (fun _ _=>rfl))) aP) (dF (br (vB hr.units) (JE.d (yG E6 (jv 0) (JE.d (vn mT aA)) (fun _ _=>rfl))) aP (by with_unfolding_all rfl)) (cF (iK (gq (JE.d (jc jV hr (aR (JE.d (gD (jv 0) ir (iu (JE.d (vn mT aA))))) bq)))))))))) (aN (bB (JD.e fR))) cD)
  (aN (bB (jN (aq (JE.d (gD (jv 0) ir (iu (JE.d (vn mT aA))))) (aq (JE.d (dH A8 PySem.F.slot_str_index PySem.F.type_str_index Gp aP (JE.d (yG E6 (jv 0) (JE.d (vn mT aA)) (fun _ _=>rfl))))) aZ))))))) MN
abbrev ia:Stmt:=top 42
def d8:bF ["_law_table_here","_law_text","_law_tokens","_law_at","_law_pair_here"] ["_law_table_here","_law_text"] (aF ia):=sI
def pQ (D:Df K mg "_law_row_fault" ia) (N:Nb P w K aC bN cO cg bO cj cu aM bw cP bQ aY mg) (ie:gP P w K mg base 2 "_law_pair" ["_law_word"] oG):gP P w K mg base 3 "_law_row_fault" ["_law_table_here","_law_text"] NZ:=
 uD (g:=fu oG) D d8 (fun _ _ _ _ _ _ _ hr=>(au (c9 (br (gz hr.units) (jv 1) aP) (aN (bB (JD.e fR))) cD)
  (au (zs d8.nd 2 (dH eG Yx YL gY (jv 1) aP))
  (au (nU Y3 rfl (j6 rfl N.ur (aq (eB (i:=2) rfl N.lB) aZ)) (zg d8.nd 3) (au (zs d8.nd 4 (jc ie hr (aR (ys hr 2 (jv 3)) bq)))
  (au (c9 (br jF (jv 4) fR) (aN (bB (bK 3))) cD)
  (aN (c9 (br (gz hr.units) (JE.d (FA ⟨(cc 4),rfl,by decide⟩ rfl (LL (jv 0)) (fun _ _ _ _=>(BZ (JW.t (LF (br (gz hr.units) (jv 0) (ys hr 2 aA)) (AA (br sC (jv 1) (ys hr 2 aA))))))) (fun _ _ _ _=>(jv 1)))) (JE.d (ez aZ))) (aN (bB (bK 3))) cD)))))
  (aN (bB (JD.e fR))))))) MT
abbrev fU:Stmt:=top 43
def b9:bF ["_law_text","_law_tokens","_law_names_here","_law_many","_law_at","_law_pair_here"] ["_law_text"] (aF fU):=sI
def nk (D:Df K mg "_law_table_fault" fU) (N:Nb P w K aC bN cO cg bO cj cu aM bw cP bQ aY mg) (ie:gP P w K mg base 2 "_law_pair" ["_law_word"] oG):gP P w K mg base 3 "_law_table_fault" ["_law_text"] N1:=
 uD (g:=dP oG) D b9 (fun _ _ _ _ _ _ _ hr=>(au (zs b9.nd 1 (dH eG Yx YL gY (jv 0) aP))
  (au (zs b9.nd 2 (ez aZ))
  (au (zs b9.nd 3 (JD.e aA))
  (au (nU Y3 rfl (j6 rfl N.ur (aq (eB (i:=1) rfl N.lB) aZ)) (zg b9.nd 4) (au (zs b9.nd 5 (jc ie hr (aR (ys hr 1 (jv 4)) bq)))
  (au (c9 (JW.t (dF (br jF (jv 5) fR) (dF (br kG (ys hr 5 aA) aA) (dF (LU (i:=2) hr.units (ys hr 5 aA)) (dF (br (gz hr.units) (jv 4) aA) (cF (br kG (JE.d (bH bG (JE.d (bH bG (jv 3) (ys hr 5 aA))) aA)) aA))))))) (aN (bB (bK 4))) cD)
  (au (mU (JD.e (kJ (i:=2) YS YT iW iX iY (aq (ys hr 5 aA) aZ))))
  (aN (zs b9.nd 3 (bH bG (JE.d (bH bG (jv 3) (ys hr 5 aA))) aA)))))))
  (aN (bB (JD.e fR)))))))) M0
abbrev mJ:Stmt:=top 44
def dh:bF ["_law_tape_here","_law_text","_law_tokens","_law_at","_law_some","_law_way","_law_other","_law_place"] ["_law_tape_here","_law_text"] (aF mJ):=sI
def xW (D:Df K mg "_law_bent" mJ) (N:Nb P w K aC bN cO cg bO cj cu aM bw cP bQ aY mg) (bY:gP P w K mg base 1 "_law_pick" ["_law_tape_here","_law_many"] bU):gP P w K mg base 2 "_law_bent" ["_law_tape_here","_law_text"] Sd.uq:=
 uD (g:=iE bU) D dh (fun _ _ _ _ _ _ _ hr=>(au (zs dh.nd 2 (dH eG Yx YL gY (jv 1) aP))
  (au (zs dh.nd 3 (jc bY hr (dG (bK 0) (aR (eB (i:=2) rfl N.lB) bq))))
  (au (zs dh.nd 4 (ez (aq aP (aq aP (aq aP (aq aP (aq aP (aq aP (aq aP (aq aP (aq aP (aq aP (aq aP (aq aP (aq aP (aq aP (aq aP aZ)))))))))))))))))
  (au (zs dh.nd 4 (bH bG (jv 4) (JE.d (ez (aq aP (aq aP (aq aP (aq aP aZ))))))))
  (au (zs dh.nd 5 (jc bY hr (dG (bK 0) (aR aA bq))))
  (au (zs dh.nd 6 (JD.e (ys hr 4 (JE.d (jc bY hr (dG (bK 0) (aR (eB (i:=4) rfl N.lB) bq)))))))
  (au (c9 (br (gz hr.units) (jv 5) aA) (aN (bB (dH kM Zy Zz pq aP (JE.d (bH bG (JE.d (gD (jv 2) ir (iu (jv 3)))) (JE.d (gD (jv 2) (iu (JE.d (bH bG (jv 3) aA))) ir))))))) cD)
  (au (c9 (br p9 (jv 5) aA) (aN (bB (dH kM Zy Zz pq aP (JE.d (bH bG (JE.d (bH bG (JE.d (gD (jv 2) ir (iu (jv 3)))) (JE.d (ez (aq (jv 6) aZ))))) (JE.d (gD (jv 2) (iu (JE.d (bH oX (JE.d (bH bG (jv 3) (jv 5))) aA))) ir))))))) cD)
  (au (c9 (br (gz hr.units) (jv 5) aA) (aN (bB (dH kM Zy Zz pq aP (JE.d (bH bG (jv 2) (JE.d (gD (jv 2) (iu (jv 3)) ir))))))) cD)
  (au (c9 (br (gz hr.units) (jv 5) aA) (aN (bB (bH bG (JE.d (bH bG (jv 1) aP)) (jv 6)))) cD)
  (au (zs dh.nd 7 (jc bY hr (dG (bK 0) (aR (JE.d (bH bG (eB (i:=1) rfl N.lB) aA)) bq))))
  (aN (bB (bH bG (JE.d (bH bG (JE.d (gD (jv 1) ir (iu (jv 7)))) (JE.d (yG E6 aP (JE.d (jc bY hr (dG (bK 0) (aR aA bq)))) (fun _ _=>rfl))))) (JE.d (gD (jv 1) (iu (jv 7)) ir))))))))))))))))) Sd.Hh
abbrev mK:Stmt:=top 45
def fB:bF ["_law_way","_law_table_here","_law_text","_law_caught","_law_again","e"] ["_law_way","_law_table_here","_law_text"] (aF mK):=sI
def xX (D:Df K mg "_law_told" mK) (N:Nb P w K aC bN cO cg bO cj cu aM bw cP bQ aY mg) (fV:gP P w K mg base 2 "shown_row" ["row"] cG) (qG:gP P w K mg base 3 "read_row" ["table","text"] gI) (dQ:gP P w K mg base 2 "shown_table" ["table"] cS) (mL:gP P w K mg base 3 "read_table" ["text"] iA) (jW:gP P w K mg base 1 "_law_refused" ["_law_error"] ((zQ aC))) (qH:DK P w K mg base 3 "read_row" ["table","text"] ((eZ aC))) (mO:DK P w K mg base 3 "read_table" ["text"] ((fP aC))):gP P w K mg base 4 "_law_told" ["_law_way","_law_table_here","_law_text"] ((mq aC)):=
 uD (g:=e8 cG gI cS iA ((zQ aC)) ((eZ aC)) ((fP aC)) aC) D fB (fun _ _ _ _ _ _ _ hr=>(au (zs fB.nd 3 (JD.e fR))
  (au (zs fB.nd 4 (JD.e fR))
  (au (xt fB.nd 5 N.Bk N.Bm (Co N.pO Gq) (l8 (MD (Xm (br (gz hr.units) (jv 0) aA) (xa fV (xc qH hr (aR (jv 1) (aR (jv 2) bq)))) (xa dQ (xc mO hr (aR (jv 2) bq)))))) (aN (zs fB.nd 4 (BX (br (gz hr.units) (jv 0) aA) (jc fV hr (aR (JE.d (jc qG hr (aR (jv 1) (aR (jv 2) bq)))) bq)) (jc dQ hr (aR (JE.d (jc mL hr (aR (jv 2) bq))) bq))))) (fun _=>(aN (zx fB.nd 3 (bK 5)))))
  (aN (bB (BX (JK (bK 3)) (bK 4) (jc jW hr (dG (bK 3) bq))))))))) (Hf aC)
abbrev Hx:Stmt:=top 46
def gM:bF ["_law_script","_law_k","_law_tape_here","_law_table_here","_law_row_here","_law_bent_here","_law_text","_law_fault","_law_told_here","_law_texts"] ["_law_script"] (aF Hx):=sI
def Nq {f:Addr}{fd:FuncData}(F:C3 K "law" "law" Hx f fd) (N:Nb P w K aC bN cO cg bO cj cu aM bw cP bQ aY mg) (oF:gP P w K mg base 1 "_law_tape" ["_law_script","_law_at"] qV) (mQ:gP P w K mg base 2 "_law_table" ["_law_tape_here"] l6) (fV:gP P w K mg base 2 "shown_row" ["row"] cG) (qI:gP P w K mg base 2 "_law_row" ["_law_tape_here","_law_table_here","_law_most"] zj) (fW:gP P w K mg base 2 "_law_bent" ["_law_tape_here","_law_text"] Sd.uq) (iM:gP P w K mg base 3 "_law_row_fault" ["_law_table_here","_law_text"] NZ) (k6:gP P w K mg base 4 "_law_told" ["_law_way","_law_table_here","_law_text"] ((mq aC))) (dQ:gP P w K mg base 2 "shown_table" ["table"] cS) (gO:gP P w K mg base 3 "_law_table_fault" ["_law_text"] N1):gU P w K mg base uI 5 f fd ["_law_script"] (spT K 1 (zp 63)):=
 Vs (g:=Sd.K1 qV l6 cG zj Sd.uq NZ ((mq aC)) cS N1) F gM (fun _ _ _ _ _ _ hr=>(au (nU Y3 rfl (j6 rfl N.ur (aq (JE.d (bH bG aA (JE.d (lK De rfl N.lB ZQ (aq (JE.d (Dn (i:=0) ir (iu aA))) aZ))))) aZ)) (zg gM.nd 1) (au (zs gM.nd 2 (jc oF hr (dG (bK 0) (aR (jv 1) bq))))
  (au (zs gM.nd 3 (jc mQ hr (dG (bK 2) bq)))
  (au (zs gM.nd 4 (jc fV hr (aR (JE.d (jc qI hr (dG (bK 2) (aR (jv 3) (aR aA bq))))) bq)))
  (au (zs gM.nd 5 (jc fW hr (dG (bK 2) (aR (jv 4) bq))))
  (au (nU Y3 rfl (qd (JE.d (ez (aq (jv 4) (aq (jv 5) (aq (JE.d (jc fW hr (dG (bK 2) (aR (jv 5) bq)))) (aq aP (aq aP aZ)))))))) (zg gM.nd 6) (au (zs gM.nd 7 (jc iM hr (aR (jv 3) (aR (jv 6) bq))))
  (au (zs gM.nd 8 (jc k6 hr (aR aA (aR (jv 3) (aR (jv 6) bq)))))
  (aN (c9 (JW.t (dF (gq (gX rfl N.cQ rfl N.Hq ZX (jv 8))) (cF (br (wZ hr.units) (jv 8) (JE.d (BX (br jF (jv 7) fR) (bK 6) (bK 7))))))) (aN (bB (JD.e oR))) cD)))))
  (au (zs gM.nd 5 (jc fW hr (dG (bK 2) (aR (JE.d (jc dQ hr (aR (jv 3) bq))) bq))))
  (au (zs gM.nd 9 (ez (aq (jv 5) (aq (JE.d (jc fW hr (dG (bK 2) (aR (jv 5) bq)))) (aq (JE.d (jc fW hr (dG (bK 2) (aR (JE.d (bH bG (jv 5) aP)) bq)))) aZ)))))
  (aN (nU Y3 rfl (qd (JE.d (bH bG (jv 9) (JE.d (ez (aq aP (aq aP (aq aP (aq aP aZ))))))))) (zg gM.nd 6) (au (zs gM.nd 7 (jc gO hr (aR (jv 6) bq)))
  (au (zs gM.nd 8 (jc k6 hr (aR aA (aR (jv 3) (aR (jv 6) bq)))))
  (aN (c9 (JW.t (dF (gq (gX rfl N.cQ rfl N.Hq ZX (jv 8))) (cF (br (wZ hr.units) (jv 8) (JE.d (BX (br jF (jv 7) fR) (bK 6) (bK 7))))))) (aN (bB (JD.e oR))) cD))))))))))))))
  (aN (bB (JD.e oR))))) (D3 aC)
set_option maxHeartbeats 0 in
def all_mk {fa:Addr}(D5:Df K mg "is_whole" oA) (D6:Df K mg "is_tuple" oB) (Hy:Df K mg "is_name" qC) (uX:Df K mg "is_happening" jz) (Bq:Df K mg "read_pair" mz) (we:Df K mg "read_row" kW) (qY:Df K mg "read_table" iV) (xY:Df K mg "shown_pairs" jT) (Br:Df K mg "shown_row" mC) (xZ:Df K mg "shown_table" jU) (Bs:Df K mg "_law_tape" mD) (Bt:Df K mg "_law_pick" mF) (uY:Df K mg "_law_is_name" jA) (z9:Df K mg "_law_names" kY) (Aa:Df K mg "_law_table" kZ) (D7:Df K mg "_law_row" oE) (uZ:Df K mg "_law_refused" jB) (Bu:Df K mg "_law_pair" mH) (rE:Df K mg "_law_row_fault" ia) (pR:Df K mg "_law_table_fault" fU) (Bv:Df K mg "_law_bent" mJ) (Bw:Df K mg "_law_told" mK) (Va:Df K mg "law" Hx) (N:Nb l.prog w K aC bN cO cg bO cj cu aM bw cP bQ aY mg) (O3:mg "law" =some (.ref fa)):
  ∃fd:FuncData,(∀(s:Shared) (v:Value),BindsTo s fd ⟨[v],[]⟩ [("_law_script",v)])/\∀base:Heap,K.In base->base.Ns mainGlobals mg->gU l.prog w K mg base uI 5 fa fd ["_law_script"] (spT K 1 (zp 63)):=by
 obtain⟨f,fd,F,m⟩:=Va.ex
 cases O3.symm.trans m
 refine⟨fd,fun s v=>?_,fun base _ _=>?_⟩
 ·obtain⟨_,_,_,_,_,_,_,_,_,rfl,_,_⟩:=F.ex
  exact .of_eq rfl
 ·have qE:=zV (P:=l.prog) (w:=w) (mg:=mg) (base:=base) D5 N
  have qD:=zX (P:=l.prog) (w:=w) (mg:=mg) (base:=base) D6 N
  have uu:=Bp (P:=l.prog) (w:=w) (mg:=mg) (base:=base) Hy N
  have fy:=uy (P:=l.prog) (w:=w) (mg:=mg) (base:=base) xY N
  have oF:=xS (P:=l.prog) (w:=w) (mg:=mg) (base:=base) Bs N
  have bY:=xT (P:=l.prog) (w:=w) (mg:=mg) (base:=base) Bt
  have jV:=rC (P:=l.prog) (w:=w) (mg:=mg) (base:=base) uY N
  have mG:=uV (P:=l.prog) (w:=w) (mg:=mg) (base:=base) z9
  have jW:=rD (P:=l.prog) (w:=w) (mg:=mg) (base:=base) uZ N
  have dz:=rA (P:=l.prog) (w:=w) (mg:=mg) (base:=base) uX N qD qE
  have cE:=xO (P:=l.prog) (w:=w) (mg:=mg) (base:=base) Bq N uu
  have fV:=xR (P:=l.prog) (w:=w) (mg:=mg) (base:=base) Br N fy
  have dQ:=uA (P:=l.prog) (w:=w) (mg:=mg) (base:=base) xZ fy
  have mQ:=uW (P:=l.prog) (w:=w) (mg:=mg) (base:=base) Aa N mG bY
  have qI:=z7 (P:=l.prog) (w:=w) (mg:=mg) (base:=base) D7 N bY
  have ie:=xV (P:=l.prog) (w:=w) (mg:=mg) (base:=base) Bu N jV
  have fW:=xW (P:=l.prog) (w:=w) (mg:=mg) (base:=base) Bv N bY
  have qG:=z4 (P:=l.prog) (w:=w) (mg:=mg) (base:=base) we N cE dz
  have qH:=xP (P:=l.prog) (w:=w) (mg:=mg) (base:=base) we N cE dz
  have mL:=uT (P:=l.prog) (w:=w) (mg:=mg) (base:=base) qY N cE
  have mO:=uw (P:=l.prog) (w:=w) (mg:=mg) (base:=base) qY N cE
  have iM:=pQ (P:=l.prog) (w:=w) (mg:=mg) (base:=base) rE N ie
  have gO:=nk (P:=l.prog) (w:=w) (mg:=mg) (base:=base) pR N ie
  have k6:=xX (P:=l.prog) (w:=w) (mg:=mg) (base:=base) Bw N fV qG dQ mL jW qH mO
  exact Nq F N oF mQ fV qI fW iM k6 dQ gO
def walk {q:Program}{loose:List Str}{XP:(Str->Option Value)->Heap->Prop}{YP:World->Heap->Prop}{d:DefRec}{K:Params->PySem.W.Frag}(hn:l.most=some 63) (hdf:d.params.defaults=[])
  (hY:∀(w:World) (h:Heap),YP w h->(K w.params).In h)
  (F:∀(w:World) (mg:AAC) (fa:Addr) (h:Heap),(K w.params).In h->h.Ns mainGlobals mg->mg d.name=some (.ref fa)->
   ∃fd:FuncData,(∀(s:Shared) (u:Value),BindsTo s fd ⟨[u],[]⟩ [("_law_script",u)])/\∀base:Heap,(K w.params).In base->base.Ns mainGlobals mg->gU l.prog w (K w.params) mg base uI 5 fa fd ["_law_script"] (spT (K w.params) 1 (zp 63))):
  PySem.W.WalkO q loose XP YP l.row.toRowW d [] (fun f vs=>PySem.call f vs):=
 L2.Il (n:=63) (k:=5) (x:="_law_script") (CX:=fun _=>uI) (sp:=fun w=>spT (K w.params) 1 (zp 63)) hn (by decide) hdf ⟨rfl,by decide,by decide,rfl⟩ hY F (fun w H a ns hl hO hS=>Mr hl hO hS) fun _ _ _ _ _ z=>z
end K13
open PySem PySem.W PyProof.Rows
noncomputable def PySem.W.Fast.tw14393674862188098957:Nat->Stmt:=K13.top
theorem PySem.W.Fast.te14393674862188098957:K13.top=PySem.W.Fast.tw14393674862188098957:=rfl
def K13.sc:Scope:=PySem.Challenge.pw_surewatch_k13_rows_and_tables_refused.main.scope
noncomputable def PySem.W.Fast.tw8710667805743658497:Scope:=K13.sc
theorem PySem.W.Fast.te8710667805743658497:K13.sc=PySem.W.Fast.tw8710667805743658497:=rfl
def K13.pw:Program:={main:={body:=[K13.top 0,K13.top 1,K13.top 2,K13.top 3,K13.top 4,K13.top 5,K13.top 6,K13.top 7,K13.top 8,K13.top 9,K13.top 10,K13.top 11,K13.top 12,K13.top 13,K13.top 14,K13.top 15,K13.top 16,K13.top 17,K13.top 18,K13.top 19,K13.top 20,K13.top 21,K13.top 22,K13.top 23,K13.top 24,K13.top 25,K13.top 26,K13.top 27,K13.top 28,K13.top 29,K13.top 30,K13.top 31,K13.top 32,K13.top 33,K13.top 34,K13.top 35,K13.top 36,K13.top 37,K13.top 38,K13.top 39,K13.top 40,K13.top 41,K13.top 42,K13.top 43,K13.top 44,K13.top 45,K13.top 46],scope:=K13.sc,futureAnnotations:=false,file:="/claim/cut.py",more:=[]},modules:=[],parses:=[],absent:=[],harvested:=[],given:={argv:=[],stdin:=[],environ:=some [([76,67,95,65,76,76],[67,46,85,84,70,45,56])]}}
def K13.rw:OpenLaw:={prog:=K13.pw,name:=(PySem.Str.ofString "law"),about:=[(PySem.Str.ofString "read_row")],foot:=13,most:=some 63,bound:=none,writes:=false}
def PySem.W.Fast.tw14763327934867954300:=0
def PySem.W.Fast.tw16802896709189413879:=0
def PySem.W.Fast.tw16466741317284200456:=0
def PySem.W.Fast.tw11682749360514263579:=0
def PySem.W.Fast.tw178639044862476630:=0
def PySem.W.Fast.tw5385235111347371491:=0
def PySem.W.Fast.tw12680991152617542734:=0
def PySem.W.Fast.tw12744780554261371366:=0
def PySem.W.Fast.tw12010196276614612520:=0
def PySem.W.Fast.tw11746924766611310454:=0
def PySem.W.Fast.tw7062095811074523734:=0
def PySem.W.Fast.tw14401521699488436649:=0
def PySem.W.Fast.tw5713356695402105720:=0
def PySem.W.Fast.tw7053789195301133964:=0
def PySem.W.Fast.tw8869004388083305452:=0
def PySem.W.Fast.tw14275891488528851612:=0
def PySem.W.Fast.tw4048026786515045444:=0
def PySem.W.Fast.tw1711539769869281710:=0
def PySem.W.Fast.tw18377948652886052520:=0
def PySem.W.Fast.tw3765910002720078296:=0
def PySem.W.Fast.tw13259981066320928307:=0
def PySem.W.Fast.tw8830435038102610524:=0
def PySem.W.Fast.tw11596540647997948947:=0
def PySem.W.Fast.tw6851080535183899648:=0
def PySem.W.Fast.tw5749427218430730828:=0
def PySem.W.Fast.tw2161182831815709035:=0
def PySem.W.Fast.tw7880014934778056850:=0
def PySem.W.Fast.tw11837141509466801536:=0
def PySem.W.Fast.tw3775853528747910444:=0
def PySem.W.Fast.tw2788100555064873024:=0
def PySem.W.Fast.tw14187237971388851099:=0
def PySem.W.Fast.tw8551718868104905954:=0
def PySem.W.Fast.tw12169432296242030747:=0
def PySem.W.Fast.tw12600738978646719375:=0
def PySem.W.Fast.tw8157818487036215220:=0
def PySem.W.Fast.tw8767727021068437706:=0
def PySem.W.Fast.tw205905783730021439:=0
def PySem.W.Fast.tw11667601527028118619:=0
def PySem.W.Fast.tw14902043059672798149:=0
def PySem.W.Fast.tw5385541040330715679:=0
def PySem.W.Fast.tw7319999102601200454:=0
def PySem.W.Fast.tw12068165497983792342:=0
def PySem.W.Fast.tw12519209917649984086:=0
def PySem.W.Fast.tw8752555499150186562:=0
def PySem.W.Fast.tw17257132727665260961:=0
def PySem.W.Fast.tw14658649872005498705:=0
def PySem.W.Fast.tw17111374015441316361:=0
def PySem.W.Fast.tw5696717867215670690:=0
def PySem.W.Fast.tw16022440124012846589:=0
def PySem.W.Fast.tw10206070505706403477:=0
def PySem.W.Fast.tw12176290158687253279:=0
def PySem.W.Fast.tw7803421346953475701:=0
def PySem.W.Fast.tw10038149091635363881:=0
def PySem.W.Fast.tw7089801931864470364:=0
def PySem.W.Fast.tw7167222486313861330:=0
def PySem.W.Fast.tw851227756056414430:=0
def PySem.W.Fast.tw11599209377478874455:=0
def PySem.W.Fast.tw9185956446048685276:=0
def PySem.W.Fast.tw18228710922802525143:=0
def PySem.W.Fast.tw2666996572712754262:=0
def PySem.W.Fast.tw5598549331638581300:=0
def PySem.W.Fast.tw6274532346058888754:=0
def PySem.W.Fast.tw18097904285365615132:=0
def PySem.W.Fast.tw13000347942975552270:=0
def PySem.W.Fast.tw8027501574170386369:=0
def PySem.W.Fast.tw7546524937633309370:=0
set_option maxRecDepth 100000 in
set_option maxHeartbeats 0 in
def K13.holds:K13.rw.Holds:=by
 w_on;o_law;k_head;(case hw=>w_witness2)
 k_fill
 refine K13.walk (l:=K13.rw) rfl rfl (fun w h Y=>PySem.W.kIn_of Y) ?F
 case F=>
  intro w mg fa h KX G hmg
  refine' K13.all_mk ?_ ?_ ?_ ?_ ?_ ?_ ?_ ?_ ?_ ?_ ?_ ?_ ?_ ?_ ?_ ?_ ?_ ?_ ?_ ?_ ?_ ?_ ?_ ?NB hmg
  (case NB=>refine⟨Yv KX G ?_,Yv KX G ?_,Yv KX G ?_,Yv KX G ?_,Yv KX G ?_,Yv KX G ?_,Yv KX G ?_,Yv KX G ?_,Yv KX G ?_,Yv KX G ?_,Yv KX G ?_,Yv KX G ?_,Yv KX G ?_,⟨_,Yp KX G (by k_is)⟩,⟨_,Yp KX G (by k_is)⟩,⟨_,Yp KX G (by k_is),L2.Jb (by k_is) (by decide) (by(repeat refine⟨⟨rfl,⟨_,rfl⟩,_,rfl⟩,?_⟩);trivial)⟩,⟨_,Yp KX G (by k_is)⟩,⟨_,Yp KX G (by k_is)⟩,⟨_,Yp KX G (by k_is)⟩,Yp KX G (by k_is),Yp KX G (by k_is),Yp KX G (by k_is),Yp KX G (by k_is),Yp KX G (by k_is),Yp KX G (by k_is),Yp KX G (by k_is),Yp KX G (by k_is),Yp KX G (by k_is),Yp KX G (by k_is),Yp KX G (by k_is),Yp KX G (by k_is),⟨_,by k_is,rfl,by decide,by k_is,by k_is⟩,⟨by k_is,by k_is,by k_is,by k_is⟩,by kernel_rfl,by kernel_rfl,by kernel_rfl,by kernel_rfl,by k_is,(by unfold L2.iH;k_is),⟨_,L2.Cn (by k_is),by decide⟩,⟨_,L2.Cn (by k_is),by decide⟩,(fun _=>L2.UI (m:="__init__") (qn:="NoText.__init__") (st:=K13.Nk 2 0) (L2.MI (by k_is) (by k_is) (by k_is) (by k_is) (by k_is) (by kernel_rfl) (by kernel_rfl) PySem.F.excBase_ValueError (by decide)) (Yp KX G (by k_is)) (by k_is) ⟨by k_is,rfl,by decide,rfl,by k_is,fun _=>rfl⟩ (by unfold L2.iH;k_is) L2.sI rfl (by first | exact Or.inl rfl | exact Or.inr (Or.inl rfl) | exact Or.inr (Or.inr rfl)) (by first | exact Or.inl rfl | exact Or.inr (Or.inl rfl) | exact Or.inr (Or.inr rfl)) (by intro _ _ _ _ _ _ us hl;rcases us with _ | ⟨_,_ | ⟨_,_ | ⟨_,_ | ⟨_,_⟩⟩⟩⟩ <;> first | rfl | cases hl))⟩ <;> k_is)
  iterate 23 (refine' L2.P4 KX G ?a ?l ?c ?k;(case a=>k_is);(case l=>k_is);(case c=>k_is);(case k=>k_is))
theorem PySem.Challenge.cw_surewatch_k13_rows_and_tables_refused_holds : PySem.Challenge.rw_surewatch_k13_rows_and_tables_refused.Holds :=
 K13.holds
