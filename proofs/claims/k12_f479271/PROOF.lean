import PyProof.Rows.All
import Wide.All
import OpenK.AllK
import Wide.FinOn
import Lean
import PyProof.EqAt
import PyProof.EqKinds
import PyProof.TupleCall
import KE.LcSums
import KE.KDictOf
import PyProof.Cells
import PyProof.ZipIter
import KE.KTryMore
import KE.KSortTup
import PyProof.DictItems
import KE.KItemsList
import PyProof.NeKinds
import PyProof.Rows.SetFrom
import PyProof.CollectWalk
import KE.KSortedM
import KE.KRevIter
import PyProof.DictIter
import PyProof.TupleKey
import PyProof.WalkInts
import PyProof.WalksMore
import PyProof.StrCalls2
import PyProof.StrBlockL
import PyProof.SliceStr2
import PyProof.FitsReplace
import PyProof.StrLawsOcc
import KE.KIntText
import KE.KRevSl
import PySem.Challenge.RW_meadshares_k12_whole_all_at_once_or_none
set_option Elab.async false
set_option linter.all false
set_option maxRecDepth 100000
open List (filter forIn_cons lookup map_nil map_tail nil_append toArray zip_append)
open Nat (le_of_eq lt_trans not_lt)
open List renaming all_cons→aa, all_eq_true→ae, all_map→af, any_cons→ag, any_eq_true→ah, any_map→ai, append_assoc→aj, append_nil→ak, countP_cons→ao, ext_getElem→aq, filterMap_cons→ar, filter_append→au, filter_congr→av, filter_cons_of_neg→aw, filter_cons_of_pos→ax, filter_eq_nil_iff→ay, filter_map→az, filter_sublist→a8, find?_cons→a9, find?_cons_of_neg→ba, find?_cons_of_pos→bb, find?_eq_none→bf, flatMap_cons→bg, flatten_cons→bh, foldl_append→bj, getD_eq_getElem?_getD→bo, getElem?_drop→bp, getElem?_eq_getElem→bq, getElem?_map→br, getElem?_zip_eq_some→bu, getElem_inj→bw, getElem_mem→bx, length_append→bz, length_cons→b4, length_drop→b5, length_eq_zero_iff→b6, length_filter_le→b7, length_map→b8, length_nil→b9, length_range→cb, length_reverse→cf, length_singleton→cj, length_take→cm, length_zip→cp, lookup_append→cq, lookup_cons→cv, map_append→cx, map_congr_left→cy, map_cons→cz, map_drop→c5, map_fst_zip→c7, map_id→c8, map_map→c9, mem_append→da, mem_append_left→de, mem_append_right→dh, mem_cons→di, mem_filter→dj, mem_filterMap→dk, mem_flatMap→dm, mem_flatten→dq, mem_iff_getElem?→du, mem_map→dv, mem_map_of_mem→dy, mem_of_find?_eq_some→dz, mem_of_getElem?→d3, mem_range→d5, mem_singleton→d6, mem_zipIdx_iff_getElem?→d7, nodup_append→d8, nodup_cons→d9, nodup_iff_pairwise_ne→ee, nodup_nil→fb, not_mem_nil→fc, of_mem_zip→fe, pairwise_cons→ff, pairwise_map→fh, range_succ→fi, size_toArray→fj, sum_append→fk, sum_cons→fm, take_of_length_le→fo, take_succ→fq, zip_cons_cons→ft
open PySem.Heap renaming get?_push_size→fu, get?_update_other→fw, get?_update_self→fz, size_push→f6
open Nat renaming le_add_right→f7, le_of_lt→f9, le_succ→gb, le_trans→gc, lt_irrefl→gg, lt_of_le_of_lt→gh, lt_of_lt_of_le→gi, lt_of_succ_lt→gj, lt_succ_of_lt→gp, lt_succ_self→gq, ne_of_gt→gr, ne_of_lt→gu, zero_le→gv
open PySem renaming Value→gw, Addr→gy, sizeLine→gz, Shared→h7, wpAny→ia, Builtin→ic, Program→il, mainGlobals→ip, model→iu, Heap→iw, World→i6, NameKind→i7, wpAny_newObj_type→i9, Stmt→je, sizeLine_eq→jh, wpAny_call_entry→ji, compareOp→jl, boot_len→jm, wpAny_loadPart'→jn, starEach→jo, wpAny_field→jq, wpAny_setField_rec→js, cLine→jt, wpAny_callSpecial?_slot→jv, wpAny_holding→jw, mem_of_lookup→j6, Expr→j7, wpAny_truthy_bool→j8, Around→kb, foldedSetIterable→kg, wpAny_seqItems→ki, sysModules→kj, wpAny_pyIter_tuple→kl, PassesOwn→km, cellsFrom→ko, wpAny_typeNameOfWhole_itemiter→k4, IsPair→me, wpAny_typeNameOf_itemiter→mh, wpAny_passesOwn→ml, bootBuiltins→mq, eval→mv, wpAny_mono→m8, codeAny_mono→ng, wpAny_standAt→nv, wpAny_pyIter_list→n5, wpAny_forIn_list→og, wpAny_isInstance→oh, binaryOp→ot, FuncData→ou, wpAny_specialOf→ph, wpAny_Call_Name_kw→pk, tupleKind_room_in1→pq, sliceBounds→p7, wpAny_letGo→p8, rawInt→qb, codeAny→qc, getItem→qe, wpAny_isOneOf_itemiter→qg, isSubtype_tuple_tuple→qo, tupleKind→qv, wpAny_rule→qw, behindInMarks→rh, Scope→rl, wpAny_execs_nil→si, letOwnedTupleGo→sj, wpAny_updateSeq→tj, argBest→um, assignEach→ur, pyNext→uv, firstArgMember→va, wpAny_tupleItemsOf→vm, wpAny_tryCatch→vn, wpAny_sequenceKey→wa, slot_list_getitem→wc, IsZip→wg, wpAny_pyIter_slot→wj, wpAny_dictEntries→wk, backTo→wt, IsPart→wx, evalPart_none→wy, wpAny_getItem_list_slice→wz, plainId_quiet→xb, noFill_tuple_add→xg, wpAny_Dict_empty→xi, pushCells→xk, wpAny_pyIter_zip→xl, meetsH_dict_get_default→xp, holding→xv, codeAny_compStart_list→ya, pushCells_keeps→yi, wpAny_dictEpoch→yk, codeAny_builtin→ym, wpAny_isTrue_Compare1→yn, subscripted→yw, compTurn→y6, wpAny_of_eq→y7, wpAny_setField→y8, wpAny_newTuple→y9, standAt→zg, BindsTo→zh, callerA→zi, valueAt→zj, seqItems?→zk, assignInOrder→zm, seq_tuple_add→zo, evalPart_some→zr, attributeBase→zu, atKey→zw, Comprehension→zx, wpAny_attempt→zz, IsItemIterOut→Ab, entryOfKey→Ae, pyIter→Af, call_meets→Ag, IsItemIter→Ah, sliceRange→Ai, concat_meets→Aj, wpAny_typeOf→Al, seqIndex_neg→Am, callType_new→An, call_meetsIn→Aq, swapsWith→Au, DictEntry→Aw, seqIndex?→Ax, slicePick→Ay, eqIsQuiet→AA
open PySem.Value renaming ref→h8, none→jf, bool→m7, int→Ar, str→As
open Bool renaming false_ne_true→ib, eq_iff_iff→iy, and_eq_true→i4, false_eq_true→jb, not_true→pe, false_and→yu, and_false→yx, and_true→Aa, true_and→Ad
open Sum renaming inl→ie, inr→xt
open Option.some renaming inj→ig, injEq→kr
open List renaming range→iq, eq_nil_of_length_eq_zero→kh, length→kq, Perm→lj, getElem?_eq_none_iff→ma, getElem?_append_left→md, pairwise_iff_getElem→mf, Pairwise→ny, getElem?_append_right→n6, exists_cons_of_ne_nil→n9, drop_eq_getElem?_toList_append→oz, length_filterMap_le→pf, flatten_singleton→qk, filterMap_append→qm, getElem?_reverse→qp, eq_nil_or_concat→qr, concat_eq_append→qt, mem_of_mem_take→r8, mem_of_mem_drop→sd, mem_of_mem_tail→sf, flatten_append→uc, length_pos_iff→uf, filter_eq_self→ug, map→vc, mem_take_iff_getElem→vt, getElem?_replicate→xf, getElem?_cons_zero→xn, getElem?_cons_succ→xo, filter_append_perm→xr, getElem?_set_self→xu, length_pos_of_mem→yd, Sublist→yf, length_replicate→yo, getElem?_toArray→yr
open PySem.SeqAt renaming EqAt→i5, RcAt→nj, RcNeAt→oi, in_listAt→yh
open Int renaming eq_ofNat_of_zero_le→ja, toNat_natCast→jd, mul_assoc→j5, mul_le_mul_of_nonneg_right→kd, mul_comm→kz, le_refl→m6, not_lt→qz, mul_add→r6, le_trans→uk, fdiv_eq_ediv_of_nonneg→uw, fmod_eq_emod_of_nonneg→uz, mul_le_mul→vg, emod_lt_of_pos→vh, eq_of_mul_eq_mul_right→vo, add_mul→wo, mul_left_comm→wq, natCast_add→yj, emod_nonneg→yl, mul_nonneg→ze, ediv_one→Ak, le_of_lt→Ao, zero_add→Ap
open PyProof.Rows renaming slot_tuple_getitem→jc, callWith_type1→j9, boot_tuple→k7, IntsAre→m4, boot_all→m5, seqObj→oq, boot_isinstance→pj, kindOf→qx, subscriptTail→rj, envOfC→sk, entry_tuple_getitem→tq, assignInOrder_cons→uu, slicePart_none→u5, args_tuple_getitem→u7, AllBare→vw, IsTup→xc, Subscript_→xx, subscriptTail_builtinR→xy, boot_sorted→za, tupleItemsOf_→zq
open PySem.Builtin renaming bitAnd→jg
open PySem.NameKind renaming free→jj, cell→j4
open PySem.PassesOwn renaming never→jk
open Or renaming inl→jr, inr→nz
open PySem.Heap renaming SameBut→ju, get?_update_ne→ud, IsTuple→uj
open PySem.F renaming slot_dict_itemiterator_next→jx, plainAttrs_list→ka, plain_min_loop→lp, slot_tuple_iterator_next→l7, slot_dict_get→l8, slot_list_append→mx, type_list_append→my, args_tuple_add_2→ow, entry_tuple_add→p6, plainAttrs_dict→p9, args_dict_get_3→qa, slot_tuple_add→qd, entry_dict_get→qi, slot_tuple_hash→qj, args_dict_itemiterator_next_1→ql, entry_dict_itemiterator_next→rf, slot_dict_itemiterator_iter→r9, args_tuple_iterator_next_1→su, slot_dict_keyiterator_iter→sx, slot_tuple_eq→sy, entry_tuple_iterator_next→ui, slot_list_extend→w6, type_list_extend→w8, entry_min_loop→xq, slot_dict_items_iter→ye, type_dict_get→yq
open PySem.Builtin.Slice renaming slicePlaces→jy, sliceApplied→lq, sliceAdjust→oj, sliceFields→vp
open Option renaming isSome_iff_exists→j3, isSome_map→wd, getD_none→xh, map_eq_some_iff→x6, none→yz
open PySem.Builtin.SmallTypes renaming nextOf→ke, ownedTupleHandOut→oo, ownedTupleIsFree→ox
open True renaming intro→kf
open PySem.Builtin.List renaming listTooLong→k5
open Ne renaming symm→k6
open PySem.Str renaming ofString→k8
open Sum.inl renaming inj→k9
open PySem.Builtin.Dict_items renaming ownedTupleIsFree→lg, ownsTuple→nu, ownedTupleFields→oy, pairFromOwner→qh
open PySem.Builtin.Tuple renaming tupleItemsOf→lu, tupleExact→mw, tupleHashOf→om
open PySem.Obj renaming mapSeq→ly
open Array renaming length_toList→mz, perm_iff_toList_perm→n8, forIn_toList→vk, getElem?_eq_getElem→vq, Perm→yb, getD→yc
open False renaming elim→m9
open PySem.Calls renaming spliced_cons→nc, callWith_builtin→ni, evalArgs_plain→rq, Name_function_global→uq, spliced_nil→vz
open PySem.SeqAt.EqAt renaming int_int→nh, same→sm, of_refs→ve
open List.Perm renaming append_left→n4, refl→zf
open PySem.SeqAt.RcAt renaming tuples→qf
open List.Pairwise renaming and_mem→qu
open Prod renaming ext→rm, fst→vd
open Nat renaming pow_le_pow_right→sg, add_le_add_left→tu, gcd→wm, gcd_pos_of_pos_right→w9, succ_ne_self→xj, mul_div_cancel_left→xm, le_mul_of_pos_left→yg
open PySem.Around renaming under_plainId→sh
open ForInStep renaming yield→sr
open List.cons renaming injEq→sv, inj→xa
open PySem.Heap.SameBut renaming update→tw
open PySem.SeqAt.RcNeAt renaming tuples→ue
open PySem.W renaming Frag→uh
open PySem.Builtin.Builtins renaming bindParams→uo
open PySem.Heap.IsSliceOf renaming new→u9
open PySem.Shared renaming heap→we
open PySem.AutoSeq1 renaming sub_tuple_tuple→wu
open PyProof renaming noPylong_small→xw
open Nat.succ renaming inj→x8
open PySem.Builtin.Dict renaming showsAll→yp
open Classical renaming choose_spec→yt
open Prod.mk renaming inj→zb, injEq→Ac
open PyProof.Rows.LSm renaming kept_iter→zy
open PyProof.Rows.IsTup renaming new→Av
open And renaming intro→Az
def AN:=@PySem.wpAny_bind
def AO:=@PySem.wpAny_pure
def AQ:=@PySem.Heap.get?_push_of_some
def AR:=@List.getElem?_eq_some_iff
def AS:=@decide_eq_true
def AU:=@decide_eq_false
def AV:=@PySem.Heap.lt_size
def AW:=@List.mem_cons_of_mem
def AX:=@List.mem_cons_self
def AY:=@Nat.le_refl
set_option hygiene false
local macro_rules | `(tactic| ac_nf) => `(tactic| intro nd f cdv A outer s H vs Q E hr h)
set_option hygiene true
local macro_rules | `(tactic| ac_rfl) => `(tactic| exact ⟨rfl, rfl, rfl, by decide +kernel, rfl, by decide +kernel, by decide +kernel⟩)
local macro_rules | `(tactic| omega) => `(tactic| lia)
namespace L2
open PySem PySem.Spec PyProof.Rows
noncomputable abbrev Key:=Sum Int Str
noncomputable def jQ:Key->gw->Bool
 | .inl k,v=>gw.isInt k v
 | .inr x,v=>gw.isStrOf x v
noncomputable def B39 (w:i6):Key->Int
 | .inl k=>hashInt k
 | .inr x=>hashStr w x
theorem keyIs_shape:∀{k:Key}{v:gw},jQ k v=true->(∃i t,k=ie i/\v=Ar i t)\/(∃x t,k=xt x/\v=As x t)
 | .inl i,v,h=>by
  obtain⟨t,e⟩:=gw.isInt_shape (k:=i) (v:=v) h;exact .inl ⟨i,t,rfl,e⟩
 | .inr x,v,h=>by
  obtain⟨t,e⟩:=gw.isStrOf_shape (x:=x) (v:=v) h;exact .inr ⟨x,t,rfl,e⟩
theorem B4s (i:Int)(t:Tok):jQ (.inl i) (.int i t)=true:=by simp[jQ,gw.isInt]
theorem B4q (x:Str)(t:Tok):jQ (.inr x) (.str x t)=true:=by simp[jQ,gw.isStrOf]
theorem A8n (a b:Int):decide ((ie a:Key)=ie b)=(a==b):=by
 by_cases e:a=b
 ·subst e;simp
 ·have h:¬(ie a:Key)=ie b:=λq=>e (k9 q);rw[AU h];exact(beq_eq_false_iff_ne.mpr e).symm
theorem B1f (a b:Str):decide ((xt a:Key)=xt b)=decide (a=b):=by
 by_cases e:a=b
 ·subst e;simp
 ·have h:¬(xt a:Key)=xt b:=λq=>e (xt.inj q);rw[AU h,AU e]
theorem A3m (a:Int)(b:Str):decide ((ie a:Key)=xt b)=false:=AU (λq=>nomatch q)
theorem A3s (a:Str)(b:Int):decide ((xt a:Key)=ie b)=false:=AU (λq=>nomatch q)
noncomputable def cW (prog:il)(w:i6):PySem.KeyKind prog w Key where
 is:=jQ
 hash:=B39 w
 inj:=λv a b ha hb=>by
  rcases keyIs_shape ha with⟨i,t,rfl,rfl⟩| ⟨x,t,rfl,rfl⟩
  ·rcases keyIs_shape hb with⟨j,u,rfl,e⟩| ⟨y,u,rfl,e⟩
   ·injection e with e1 _;rw[e1]
   ·exact nomatch e
  ·rcases keyIs_shape hb with⟨j,u,rfl,e⟩| ⟨y,u,rfl,e⟩
   ·exact nomatch e
   ·injection e with e1 _;rw[e1]
 byValue:=λk v h=>by
  rcases keyIs_shape h with⟨i,t,rfl,rfl⟩| ⟨x,t,rfl,rfl⟩<;>rfl
 pyHash:=λhv h=>by
  rcases keyIs_shape hv with⟨i,t,rfl,rfl⟩| ⟨x,t,rfl,rfl⟩
  ·exact wpAny_pyHash_int h
  ·exact wpAny_pyHash_str h
 eqBool:=λhu hv h=>by
  rcases keyIs_shape hu with⟨i,t,rfl,rfl⟩| ⟨x,t,rfl,rfl⟩
  ·rcases keyIs_shape hv with⟨j,u,rfl,rfl⟩| ⟨y,u,rfl,rfl⟩
   ·rw[A8n]at h;exact wpAny_eqBool_int h
   ·rw[A3m]at h;exact i5.int_str i t y u _ _ _ _ h
  ·rcases keyIs_shape hv with⟨j,u,rfl,rfl⟩| ⟨y,u,rfl,rfl⟩
   ·rw[A3s]at h;exact i5.str_int x t j u _ _ _ _ h
   ·rw[B1f]at h;exact wpAny_eqBool_str h
 «strs»:=λk x t v h=>by
  rcases keyIs_shape h with⟨i,u,rfl,e⟩| ⟨y,u,rfl,e⟩
  ·exact nomatch e
  ·injection e with e1 _;subst e1;cases v<;>rfl
theorem A20 (prog:il)(w:i6)(i:Int)(t:Tok):(cW prog w).is (.inl i) (.int i t)=true:=B4s i t
theorem A5w (prog:il)(w:i6)(x:Str)(t:Tok):(cW prog w).is (.inr x) (.str x t)=true:=B4q x t
inductive V where
 |non|bl (b:Bool)|int (i:Int)|str (x:Str)|byt (b:Array UInt8)|flt (b:UInt64)|ref (a:gy)|ty (n:String)
 deriving DecidableEq
noncomputable def RelV:V->gw->Prop
 | .non,u=>u=jf
 | .bl b,u=>u=m7 b
 | .int i,u=> ∃t,u=Ar i t
 | .str x,u=> ∃t,u=As x t
 | .byt b,u=> ∃t,u=gw.bytes b t
 | .flt b,u=> ∃t,u=gw.float b t
 | .ref a,u=>u=h8 a
 | .ty n,u=>u=gw.type n
noncomputable abbrev Vals:List V->List gw->Prop:=Paired RelV
theorem Vals.length (r:Vals xs us):xs.length=us.length:=Paired.length r
theorem Vals.get:∀{xs:List V}{us:List gw}{i:Nat}{x:V},Vals xs us->xs[i]?=some x->∃u,us[i]?=some u/\RelV x u
 |_,_,_,_,.nil,e=>by simp at e
 |_,_,0,_,.cons r _,e=>by simp at e;subst e;exact⟨_,rfl,r⟩
 |_,_,i+1,x,.cons _ t,e=>by
  obtain⟨u,h1,h2⟩:=Vals.get (i:=i) (x:=x) t (by simpa using e);exact⟨u,by simpa using h1,h2⟩
theorem Vals.set (r:RelV x u):∀{xs:List V}{us:List gw}(i:Nat),Vals xs us->Vals (xs.set i x) (us.set i u)
 |_,_,_,.nil=> .nil
 |_,_,0,.cons _ t=> .cons r t
 |_,_,i+1,.cons q t=> .cons q (Vals.set r i t)
theorem Vals.append:∀{xs ys:List V}{us ws:List gw},Vals xs us->Vals ys ws->Vals (xs++ys) (us++ws)
 |_,_,_,_,.nil,s=>s
 |_,_,_,_,.cons r t,s=> .cons r (Vals.append t s)
theorem Vals.take:∀{xs:List V}{us:List gw}(n:Nat),Vals xs us->Vals (xs.take n) (us.take n)
 |_,_,0,_=> .nil
 |_,_,_+1,.nil=> .nil
 |_,_,n+1,.cons r t=> .cons r (Vals.take n t)
theorem Vals.drop:∀{xs:List V}{us:List gw}(n:Nat),Vals xs us->Vals (xs.drop n) (us.drop n)
 |_,_,0,r=>r
 |_,_,_+1,.nil=> .nil
 |_,_,n+1,.cons _ t=>Vals.drop n t
theorem Vals.none_of:∀{xs:List V}{us:List gw}{i:Nat},Vals xs us->xs[i]?=none->us[i]?=none:=fun{xs us i} r e=>by
 have h1:=r.length;have h2:xs.length<=i:=ma.mp e;exact ma.mpr (by omega)
noncomputable def RelO:Option V->Option gw->Prop
 |some v,some u=>RelV v u
 |none,none=>True
 |_,_=>False
noncomputable def KV {κ:Type}:List (κ×V)->List (κ×gw)->Prop:=Paired λ(p:κ×V) (q:κ×gw)=>p.1=q.1/\RelV p.2 q.2
noncomputable def kV:Key->V
 | .inl i=> .int i
 | .inr x=> .str x
inductive HO where
  |lst (xs:List V)
  |tup (xs:List V)
  |dK (kvs:List (Key×V))|dT (kvs:List (List Key×V))
  |set (S:Int->Bool) (n:Nat)
  |ins (C dx:gy) (fs:List (Str×V))
  |own (x:gy)
  |xd (fs:List (Str×V))
  |met (f x:gy)
  |rng (lo hi:Int)
  |frz (o:Obj) (u:HO)
  |tbl (ps:Array gw)
  |ext (φ:iw->Prop)
noncomputable abbrev Hp:=gy->Option HO
noncomputable def upd (H:Hp)(a:gy)(o:HO):Hp:=λb=>if b=a then some o else H b
theorem aJ:upd H a o a=some o:=by unfold upd;rw[if_pos rfl]
theorem bA (h:b≠a):upd H a o b=H b:=by unfold upd;rw[if_neg h]
theorem qQ {H:Hp}{a b:gy}{o u:HO}(h:H a=some o)(h':H b=some u)(d:o≠u):a≠b:=by intro e;subst e;rw[h]at h';exact d (ig h')
theorem bK {H:Hp}{a b:gy}{o:HO}(h:H a=some o)(h':H b=none):a≠b:=by intro e;subst e;rw[h]at h';cases h'
section
variable (P:il)(w:i6)
noncomputable def ObjOk (H:Hp)(h:iw)(a:gy):HO->Prop
 | .lst xs=>xs.length<=gz/\∃(i8:List gw)(n:Nat),Vals xs i8/\h.get? a=some {cls:=.type "list",data:=.seq i8.toArray n}
 | .tup xs=>xs.length<=gz/\∃i8:List gw,Vals xs i8/\xc h a i8.toArray
 | .dK kvs=>kvs.length<=gz/\(a==kj)=false/\∃vs,KV kvs vs/\h.DictOf (cW P w) a vs
 | .dT kvs=>kvs.length<=gz/\(a==kj)=false/\∃xs:List (List Key×gy×gw),
   Paired (λ(p:List Key×V) (q:List Key×gy×gw)=>p.1=q.1/\H q.2.1=some (.tup (p.1.map kV))/\RelV p.2 q.2.2) kvs xs/\
   ∃o es ep,h.get? a=some o/\o.ExactDict/\o.data= .dict es ep/\es.toList=xs.map (Ae (qv (cW P w)))/\(xs.map (·.1)).Nodup
 | .set S n=>h.SetOf (intKind P w) a S n
 | .ins C dx fs=>H dx=some (.own a)/\fs.length<=1000/\dx≠a/\h.get? a=some (W.instObj C dx)/\
   ∃mA,h.Ns1 dx mA/\(∀f,RelO (fs.lookup f) (mA f))/\PySem.Within mA (fs.map (·.1))
 | .own _=> ∃o,h.get? a=some o
 | .xd fs=> ∃mA,h.Ns1 a mA/\∀f,RelO (fs.lookup f) (mA f)
 | .rng lo hi=> ∃t u v,h.get? a=some {cls:=.type "range",data:=.fields #[.int lo t,.int hi u,.int 1 v]}
 | .frz o u=>h.get? a=some o/\ObjOk H h a u
 | .tbl ps=>h.get? a=some {cls:=.none,data:=.fields ps}
 | .met f x=>h.get? a=some (W.methodObj (.ref f) (.ref x))
 | .ext φ=>φ h/\(∃o,h.get? a=some o)/\∀h1 h2:iw,φ h1->(∀o,h1.get? a=some o->h2.get? a=some o)->φ h2
noncomputable def AZ (H:Hp)(h:iw):Prop:=∀a o,H a=some o->ObjOk P w H h a o
end
section
variable {P:il}{w:i6}{H H':Hp}{h h':iw}{a:gy}{o:HO}
theorem ObjOk.lt (x:ObjOk P w H h a o):a<h.objs.size:=by
 cases o with
 |lst xs=>obtain⟨_,_,_,_,e⟩:=x;exact AV e
 |tup xs=>obtain⟨_,_,_,p⟩:=x;exact p.lt
 |dK kvs=>obtain⟨_,_,_,_,o,_,_,e,_⟩:=x;exact AV e
 |dT kvs=>obtain⟨_,_,_,_,o,_,_,e,_⟩:=x;exact AV e
 |set S n=>obtain⟨o,_,_,_,e,_⟩:=x;exact AV e
 |ins C dx fs=>obtain⟨_,_,_,e,_⟩:=x;exact AV e
 |own y=>obtain⟨_,e⟩:=x;exact AV e
 |xd fs=>obtain⟨_,⟨_,_,_,e,_⟩,_⟩:=x;exact AV e
 |rng lo hi=>obtain⟨_,_,_,e⟩:=x;exact AV e
 |frz ob u=>obtain⟨e,_⟩:=x;exact AV e
 |tbl ps=>exact AV (show h.get? a=some _ from x)
 |met f y=>exact AV (show h.get? a=some _ from x)
 |ext φ=>obtain⟨_,⟨_,e⟩,_⟩:=x;exact AV e
theorem Paired.mapP:∀{l₁:List α}{l₂:List β},Paired F l₁ l₂->(∀a b,F a b->G a b)->Paired G l₁ l₂
 |_,_,.nil,_=> .nil
 |_,_,.cons r t,f=> .cons (f _ _ r) (Paired.mapP t f)
theorem ObjOk.stay (x:ObjOk P w H h a o)(k:∀b u,(b=a\/H b=some (.own a))->h.get? b=some u->h'.get? b=some u)
  (ho:∀b,H b=some (.own a)->H' b=some (.own a))(ht:∀b xs,H b=some (.tup xs)->H' b=some (.tup xs)):ObjOk P w H' h' a o:=by
 induction o with
 |lst xs=>obtain⟨z,i8,n,r,e⟩:=x;exact⟨z,i8,n,r,k _ _ (.inl rfl) e⟩
 |tup xs=>obtain⟨z,i8,r,ob,e,c⟩:=x;exact⟨z,i8,r,ob,k _ _ (.inl rfl) e,c⟩
 |dK kvs=>obtain⟨z,y,vs,r,ob,es,ep,e,c⟩:=x;exact⟨z,y,vs,r,ob,es,ep,k _ _ (.inl rfl) e,c⟩
 |dT kvs=>
  obtain⟨z,y,xs,r,ob,es,ep,e,c⟩:=x;exact⟨z,y,xs,Paired.mapP r λp q z=> ⟨z.1,ht _ _ z.2.1,z.2.2⟩,ob,es,ep,k _ _ (.inl rfl) e,c⟩
 |set S n=>obtain⟨ob,es,ep,t,e,c⟩:=x;exact⟨ob,es,ep,t,k _ _ (.inl rfl) e,c⟩
 |ins C dx fs=>
  obtain⟨d,z,ne,e,mA,⟨od,es,ep,e2,c⟩,r⟩:=x;exact⟨ho _ d,z,ne,k _ _ (.inl rfl) e,mA,⟨od,es,ep,k _ _ (.inr d) e2,c⟩,r⟩
 |own y=>obtain⟨ob,e⟩:=x;exact⟨ob,k _ _ (.inl rfl) e⟩
 |xd fs=>obtain⟨mA,⟨od,es,ep,e,c⟩,r⟩:=x;exact⟨mA,⟨od,es,ep,k _ _ (.inl rfl) e,c⟩,r⟩
 |rng lo hi=>obtain⟨t,u,v,e⟩:=x;exact⟨t,u,v,k _ _ (.inl rfl) e⟩
 |frz ob u ih=>obtain⟨e,q⟩:=x;exact⟨k _ _ (.inl rfl) e,ih q⟩
 |tbl ps=>
  have e:h.get? a=some {cls:=.none,data:=.fields ps}:=x;show h'.get? a=some {cls:=.none,data:=.fields ps};exact k a _ (.inl rfl) e
 |met f y=>
  have e:h.get? a=some (W.methodObj (.ref f) (.ref y)):=x;show h'.get? a=some (W.methodObj (.ref f) (.ref y));exact k a _ (.inl rfl) e
 |ext φ=>obtain⟨p,⟨o,e⟩,st⟩:=x;exact⟨st _ _ p λo q=>k _ _ (.inl rfl) q,⟨o,k _ _ (.inl rfl) e⟩,st⟩
theorem AZ.lt (x:AZ P w H h)(e:H a=some o):a<h.objs.size:=(x a o e).lt
theorem AZ.fresh (x:AZ P w H h)(e:h.objs.size<=a):H a=none:=by
 cases q:H a with
 |none=>rfl
 |some u=>exact absurd (gi (x.lt q) e) (gg _)
theorem AZ.kept (x:AZ P w H h)(k:∀b u,h.get? b=some u->h'.get? b=some u):AZ P w H h':=λa o e=>
 (x a o e).stay (λb u _ q=>k b u q) (λ_ q=>q) λ_ _ q=>q
theorem AZ.laid (x:AZ P w H h)(k:∀b u,h.get? b=some u->h'.get? b=some u)(hp:h.objs.size<=a)(new:ObjOk P w (upd H a o) h' a o):AZ P w (upd H a o) h':=λb u e=>by
 have hn:=x.fresh hp;by_cases hb:b=a
 ·subst hb;rw[aJ]at e;cases e;exact new
 ·rw[bA hb]at e;exact(x b u e).stay (λc v _ q=>k c v q) (λc q=>by rw[bA (bK q hn)];exact q) λc xs q=>by rw[bA (bK q hn)];exact q
end
noncomputable def Rd (H:Hp)(a:gy)(u:HO):Prop:=H a=some u\/ ∃o,H a=some (.frz o u)
theorem Rd.ok (r:Rd H a u)(x:AZ P w H h):ObjOk P w H h a u:=by
 rcases r with r| ⟨o,r⟩
 ·exact x a u r
 ·obtain⟨_,q⟩:=x a _ r;exact q
noncomputable def Mut:Option HO->Prop
 |some (.lst _)=>True
 |some (.dK _)=>True
 |some (.dT _)=>True
 |some (.set _ _)=>True
 |some (.ins _ _ _)=>True
 |some (.ext _)=>True
 |_=>False
theorem AZ.write (ok:AZ P w H h)(mu:Mut (H x))(he:e=x\/H e=some (.own x))(k:∀b u,b≠e->h.get? b=some u->h'.get? b=some u)(heo:∃u,h'.get? e=some u)
  (new:ObjOk P w (upd H x o') h' x o'):AZ P w (upd H x o') h':=λb u q=>by
 have nown:∀c y,H c=some (.own y)->c≠x:=λc y r z=>by subst z;rw[r]at mu;exact mu
 have ntup:∀c xs,H c=some (.tup xs)->c≠x:=λc xs r z=>by subst z;rw[r]at mu;exact mu
 by_cases hb:b=x
 ·subst hb;rw[aJ]at q;cases q;exact new
 ·rw[bA hb]at q;by_cases hbe:b=e
  ·have q':H b=some (.own x):=by
    rcases he with z|z
    ·exact absurd (hbe.trans z) hb
    ·rw[hbe];exact z
   rw[q]at q';cases q';obtain⟨v,hv⟩:=heo;exact⟨v,by rw[hbe];exact hv⟩
  ·refine(ok b u q).stay (λc v hc r=>k c v ?_ r) (λc r=>by rw[bA (nown c b r)];exact r) λc xs r=>by rw[bA (ntup c xs r)];exact r
   rcases hc with rfl|hc
   ·exact hbe
   ·rintro rfl;rcases he with z|z
    ·exact nown c b hc z
    ·rw[hc]at z;cases z;exact hb rfl
structure Un (fs ex:List gy)(H H':Hp)(h h':iw):Prop where
 keep:∀b o,h.get? b=some o->H b=none->b∉fs->b∉ex->h'.get? b=some o
 slot:∀b o,h.get? b=some o->H b=none->b∈fs->b∉ex->∃sl,h'.get? b=some {o with slots:=sl}
 free:∀b o,h.get? b=some o->H b=none->b∉ex->H' b=none
 there:∀b o,h.get? b=some o->b∉ex->∃o',h'.get? b=some o'
 tups:∀b xs,H b=some (.tup xs)->H' b=some (.tup xs)
 frzs:∀b o u,H b=some (.frz o u)->H' b=some (.frz o u)
 tbls:∀b ps,H b=some (.tbl ps)->∃more,H' b=some (.tbl (ps++more))
section
variable {fs fs' ex ex':List gy}{H H1 H2:Hp}{h h1 h2 h':iw}{a x e:gy}{o:HO}
theorem Un.any (u:Un fs ex H H1 h h1)(q:h.get? b=some ob)(n:H b=none)(hx:b∉ex):∃sl,h1.get? b=some {ob with slots:=sl}:=by
 by_cases hb:b∈fs
 ·exact u.slot b ob q n hb hx
 ·exact⟨ob.slots,u.keep b ob q n hb hx⟩
theorem Un.kept (k:∀b u,h.get? b=some u->h'.get? b=some u):Un fs ex H H h h':=
 ⟨λb ob q _ _ _=>k b ob q,λb ob q _ _ _=> ⟨ob.slots,k b ob q⟩,λ_ _ _ n _=>n,λb ob q _=> ⟨ob,k b ob q⟩,λ_ _ q=>q,λ_ _ _ q=>q,λ_ ps q=> ⟨#[],by rw[q];simp⟩⟩
theorem Un.refl:Un fs ex H H h h:=Un.kept λ_ _ q=>q
theorem Un.laid (k:∀b u,h.get? b=some u->h'.get? b=some u)(hp:h.objs.size<=a)(hn:H a=none):Un fs ex H (upd H a o) h h' where
 keep:=λb u q _ _ _=>k b u q
 slot:=λb u q _ _ _=> ⟨u.slots,k b u q⟩
 free:=λb u q n _=>by rw[bA (gu (gi (AV q) hp))];exact n
 there:=λb u q _=> ⟨u,k b u q⟩
 tups:=λb xs q=>by rw[bA (bK q hn)];exact q
 frzs:=λb u xs q=>by rw[bA (bK q hn)];exact q
 tbls:=λb ps q=> ⟨#[],by rw[bA (bK q hn),q];simp⟩
theorem Un.write (mu:Mut (H x))(he:e=x\/H e=some (.own x))(k:∀b u,b≠e->h.get? b=some u->h'.get? b=some u)(heo:∃u,h'.get? e=some u):Un fs ex H (upd H x o) h h':=by
 have hx:∀b,H b=none->b≠x:=λb n z=>by subst z;rw[n]at mu;exact mu
 have hb:∀b,H b=none->b≠e:=λb n z=>by
  subst z;rcases he with r|r
  ·exact hx b n r
  ·rw[n]at r;cases r
 have hm:∀b u,H b=some u->¬Mut (some u)->b≠x:=λb u q nm z=>by subst z;rw[q]at mu;exact nm mu
 refine⟨λb u q n _ _=>k b u (hb b n) q,λb u q n _ _=> ⟨u.slots,k b u (hb b n) q⟩,λb u q n _=>by rw[bA (hx b n)];exact n,λb u q _=> ?_,
  λb xs q=>by rw[bA (hm b _ q λz=>z)];exact q,λb u xs q=>by rw[bA (hm b _ q λz=>z)];exact q,λb ps q=> ⟨#[],by rw[bA (hm b _ q λz=>z),q];simp⟩⟩
 by_cases hbe:b=e
 ·subst hbe;exact heo
 ·exact⟨u,k b u hbe q⟩
end
noncomputable def trk (h:iw)(H:Hp):List gy:=(iq h.objs.size).filter λa=>(H a).isSome
noncomputable def iB (h:iw)(H:Hp):iw:=W.hideAll h (trk h H)
theorem A34 (h:iw)(H:Hp):(iB h H).objs.size=h.objs.size:=W.hideAll_size _ _
theorem A7r (e:h.get? b=some o)(n:H b=none):(iB h H).get? b=some o:=
 W.hideAll_get _ e λhm=>by
  have q:(H b).isSome=true:=(dj.mp hm).2;rw[n]at q;simp at q
theorem A5c (e:(iB h H).get? b=some o):h.get? b=some o/\H b=none:=by
 have e':h.get? b=some o:=W.of_hideAll (trk h H) e;refine⟨e',?_⟩;cases q:H b with
 |none=>rfl
 |some x=>
  have hm:b∈trk h H:=dj.mpr ⟨d5.mpr (AV e'),by simp[q]⟩;have z:(iB h H).get? b=none:=W.hideAll_none (trk h H) hm;rw[z]at e;cases e
noncomputable def A8c (g h:iw)(L:gy):List (gy×Obj):=(iq h.objs.size).filterMap λa=>if a=L\/(g.get? a).isSome=true then none else(h.get? a).map λo=>(a,o)
noncomputable def rest (g h:iw)(L d:gy):List (gy×Obj):=(A8c g h L).filter λp=>decide (p.1≠d)
structure Mod (K:W.Frag)(mg:Str->Option gw)(base:iw):Prop where
 kin:K.In base
 glob:base.Ns ip mg
 blt:∃mb,base.Ns builtinsNs mb/\∀x:Str,x≠ "__name__"->mb x=mq x
 nolimit:base.NoLimit
structure Cx where
 prog:il
 w:i6
 K:W.Frag
 mg:Str->Option gw
 base:iw
 A:kb
 N:List Str
 s₀:h7
 H₀:Hp
 env:Env
 outer:List Env
 stack:List Env
 ex:List gy
 fn:Str->Bool
 calm:Bool
 pn:List (gy×Obj)
 xe:gw->h7->Prop
noncomputable def frs (l:List Env):List gy:=l.filterMap (·.frame)
noncomputable abbrev Cx.fs (X:Cx):List gy:=frs X.outer
noncomputable def Vis (sc:rl)(x:Str):Prop:=sc.names.lookup x=some .local\/sc.names.lookup x=some .cell\/sc.names.lookup x=some .free
noncomputable def Loc (sc:rl)(x:Str):Prop:=sc.names.lookup x=some .local\/sc.names.lookup x=some .cell
noncomputable def A6l (env:Env)(h:iw)(m:Str->Option gw)(x:Str)(u:gw):Prop:=
 (env.kindOf x=some .local/\m x=some u)\/((env.kindOf x=some .cell\/env.kindOf x=some .free)/\∃c,env.cells.lookup x=some c/\h.IsCell c (some u))
structure Cx.Ok (X:Cx):Prop where
 mod:Mod X.K X.mg X.base
 kind:X.env.scope.kind= .function
 glob:X.env.globals=ip
 blt:X.env.builtins=builtinsNs
 above:X.s₀.heap.objs.size<=X.env.locals
 inj:∀x y c,X.env.cells.lookup x=some c->X.env.cells.lookup y=some c->x=y
 has:∀x,(X.env.kindOf x=some .cell\/X.env.kindOf x=some .free)->∃c,X.env.cells.lookup x=some c
 cab:∀x c,X.fn x=true->X.env.cells.lookup x=some c->X.s₀.heap.objs.size<=c
 hd:X.calm=true->X.A.handled=none
 frames:X.A.frames=some X.stack
 stk:X.stack=X.outer\/(X.stack=X.env::X.outer/\X.env.frame=some X.env.locals)
 exf:∀b∈X.ex,b≠X.env.locals/\∀x c,X.env.cells.lookup x=some c->c≠b
 bs:∀b o,X.base.get? b=some o->X.s₀.heap.get? b=some o/\X.H₀ b=none
 bsz:X.base.objs.size<=X.s₀.heap.objs.size
 noex:∀b o,X.base.get? b=some o->b∉X.ex
 exfs:∀b∈X.ex,b∉X.fs
 funs:X.s₀.heap.FunFrames X.base X.outer
 frf:∀b∈X.fs,X.H₀ b=none
structure Inv (X:Cx)(ir:List (gy×Obj))(σ:List (Option V))(H:Hp)(s:h7):Prop where
 ok:X.Ok
 os:s.os=X.s₀.os
 bare:vw s.gens
 base:Un X.fs X.ex X.H₀ H X.s₀.heap s.heap
 loc:∃m,s.heap.Ns X.env.locals m/\∀(i:Nat)(x:Str)(v:V),X.N[i]?=some x->σ[i]?=some (some v)->Vis X.env.scope x->∃u,RelV v u/\A6l X.env s.heap m x u
 cell:∀x c,X.env.cells.lookup x=some c->∃v,s.heap.IsCell c v
 free:H X.env.locals=none
 freeC:∀x c,X.env.cells.lookup x=some c->H c=none
 pin:∀p∈X.pn++ir,s.heap.get? p.1=some p.2/\H p.1=none/\p.1≠X.env.locals/\p.1∉X.fs/\∀v,p.2.data≠ .cell v
 hok:AZ X.prog X.w H s.heap
 len:σ.length=X.N.length
section
variable {X:Cx}{ir:List (gy×Obj)}{σ:List (Option V)}{H H':Hp}{s:h7}{h':iw}
theorem Cx.Ok.nofr (ok:X.Ok){b:gy}{o:Obj}(e:X.base.get? b=some o):b∉X.fs:=λhb=>by
 have:=(ok.funs.mem hb).1;rw[e]at this;cases this
theorem Inv.bs (I:Inv X ir σ H s):∀b o,X.base.get? b=some o->s.heap.get? b=some o/\H b=none:=λb o e=>
 ⟨I.base.keep b o (I.ok.bs b o e).1 (I.ok.bs b o e).2 (I.ok.nofr e) (I.ok.noex b o e),I.base.free b o (I.ok.bs b o e).1 (I.ok.bs b o e).2 (I.ok.noex b o e)⟩
theorem Inv.bk (I:Inv X ir σ H s):∀b o,X.base.get? b=some o->s.heap.get? b=some o:=λb o e=>(I.bs b o e).1
theorem Inv.mod (I:Inv X ir σ H s):Mod X.K X.mg X.base:=I.ok.mod
theorem Inv.kIn (I:Inv X ir σ H s):X.K.In s.heap:=I.ok.mod.kin.keeps I.bk
theorem Inv.lt (I:Inv X ir σ H s):X.env.locals<s.heap.objs.size:=let ⟨_,hn,_⟩:=I.loc;hn.lt
theorem Inv.sz (I:Inv X ir σ H s):X.s₀.heap.objs.size<=s.heap.objs.size:=gc I.ok.above (f9 I.lt)
theorem Inv.nofs (I:Inv X ir σ H s)(h:s.heap.objs.size<=a):a∉X.fs:=λhb=>by
 obtain⟨_,o,ho,_⟩:=I.ok.funs.mem hb;exact absurd (gi (AV ho) (gc I.sz h)) (gg _)
theorem Inv.cne (I:Inv X ir σ H s):∀x c,X.env.cells.lookup x=some c->c≠X.env.locals:=λx c e z=>by
 obtain⟨v,o,ho,hd⟩:=I.cell x c e;obtain⟨m,⟨o',es,ep,ho',hd',_⟩,_⟩:=I.loc;rw[z,ho']at ho;cases ho;rw[hd']at hd;cases hd
theorem Inv.funs (I:Inv X ir σ H s):s.heap.FunFrames X.base X.outer:=by
 have all:∀(l:List Env),(∀b∈frs l,b∈X.fs)->X.s₀.heap.FunFrames X.base l->s.heap.FunFrames X.base l:=by
  intro l
  induction l with
  |nil=>intro _ _;trivial
  |cons env r ih=>
   intro hs hl;obtain⟨hk,⟨L,o,hf,hn,ho,hd⟩,hr⟩:=hl;have hL:L∈X.fs:=hs L (by unfold frs;rw[ar,hf];exact AX);obtain⟨sl,e⟩:=I.base.slot L o ho (I.ok.frf L hL) hL λz=>I.ok.exfs L z hL;exact⟨hk,⟨L,_,hf,hn,e,hd⟩,ih (λb hb=>hs b (by unfold frs;rw[ar,hf];exact AW _ hb)) hr⟩
 exact all X.outer (λ_ hb=>hb) I.ok.funs
theorem Inv.stack (I:Inv X ir σ H s):s.heap.FunFrames X.base X.stack:=by
 rcases I.ok.stk with e| ⟨e,hf⟩
 ·rw[e];exact I.funs
 ·rw[e];obtain⟨m,hn,_⟩:=I.loc;refine .cons (by rw[I.ok.kind];decide) hf hn ?_ I.funs;exact iw.get?_none_of_le (gc I.ok.bsz I.ok.above)
theorem Inv.stkSub (I:Inv X ir σ H s):∀b∈frs X.stack,b∈X.env.locals::X.fs:=λb hb=>by
 rcases I.ok.stk with e| ⟨e,hf⟩
 ·rw[e]at hb;exact AW _ hb
 ·rw[e]at hb;unfold frs at hb;rw[ar,hf]at hb;exact hb
theorem Inv.stkFree (I:Inv X ir σ H s):∀b∈frs X.stack,H b=none:=λb hb=>by
 rcases di.mp (I.stkSub b hb)with e|hb
 ·rw[e];exact I.free
 ·obtain⟨_,o,ho,_⟩:=I.ok.funs.mem hb;exact I.base.free b o ho (I.ok.frf b hb) λz=>I.ok.exfs b z hb
theorem Inv.step {g':Array GenState}{t':Nat}{d':Drawn}{ch:List gy}(I:Inv X ir σ H s)
  (hch:∀b∈ch,(b∈X.ex\/X.s₀.heap.objs.size<=b)/\b≠X.env.locals/\(∀x c,X.env.cells.lookup x=some c->c≠b)/\∀p∈X.pn++ir,p.1≠b)
  (keep:∀b o,b≠X.env.locals->b∉X.fs->b∉ch->s.heap.get? b=some o->H b=none->h'.get? b=some o)
  (slot:∀b o,b≠X.env.locals->b∈X.fs->b∉ch->s.heap.get? b=some o->H b=none->∃sl,h'.get? b=some {o with slots:=sl})(free:∀b o,b∉ch->s.heap.get? b=some o->H b=none->H' b=none)
  (there:∀b o,b∉ch->s.heap.get? b=some o->∃o',h'.get? b=some o')
  (tups:∀b xs,H b=some (.tup xs)->H' b=some (.tup xs))(frzs:∀b o u,H b=some (.frz o u)->H' b=some (.frz o u))(tbls:∀b ps,H b=some (.tbl ps)->∃more,H' b=some (.tbl (ps++more)))
  (ns:∀m,s.heap.Ns X.env.locals m->h'.Ns X.env.locals m)(hok:AZ X.prog X.w H' h')(hg:vw g'):
  Inv X ir σ H' {s with heap:=h',gens:=g',drawn:=d',toks:=t'}:=by
 have neL:∀b o,X.s₀.heap.get? b=some o->b≠X.env.locals:=λb o e=>gu (gi (AV e) I.ok.above);have neC:∀b o,X.s₀.heap.get? b=some o->b∉X.ex->b∉ch:=λb o e hx hb=>by
  rcases(hch b hb).1 with z|z
  ·exact hx z
  ·exact absurd (gi (AV e) z) (gg _)
 have cellK:∀x c,X.env.cells.lookup x=some c->∀v,s.heap.IsCell c v->h'.IsCell c v:=λx c e v ⟨o,ho,hd⟩=>by
  have nch:c∉ch:=λz=>(hch c z).2.2.1 x c e rfl;by_cases hc:c∈X.fs
  ·obtain⟨sl,q⟩:=slot c o (I.cne x c e) hc nch ho (I.freeC x c e);exact⟨_,q,hd⟩
  ·exact⟨o,keep c o (I.cne x c e) hc nch ho (I.freeC x c e),hd⟩
 refine⟨I.ok,I.os,hg,⟨λb o e n hb hx=> ?_,λb o e n hb hx=> ?_,λb o e n hx=> ?_,λb o e hx=> ?_,λb xs e=>tups b xs (I.base.tups b xs e),λb o xs e=>frzs b o xs (I.base.frzs b o xs e),λb ps e=> ?_⟩,?_,λx c e=> ?_,?_,λx c e=> ?_,λp hp=> ?_,hok,I.len⟩
 ·exact keep b o (neL b o e) hb (neC b o e hx) (I.base.keep b o e n hb hx) (I.base.free b o e n hx)
 ·obtain⟨sl,e1⟩:=I.base.slot b o e n hb hx;obtain⟨sl',e2⟩:=slot b _ (neL b o e) hb (neC b o e hx) e1 (I.base.free b o e n hx);exact⟨sl',e2⟩
 ·obtain⟨o',e1⟩:=I.base.there b o e hx;exact free b o' (neC b o e hx) e1 (I.base.free b o e n hx)
 ·obtain⟨o',e1⟩:=I.base.there b o e hx;exact there b o' (neC b o e hx) e1
 ·obtain⟨m1,e1⟩:=I.base.tbls b ps e;obtain⟨m2,e2⟩:=tbls b _ e1;exact⟨m1++m2,by rw[e2,Array.append_assoc]⟩
 ·obtain⟨m,hn,hl⟩:=I.loc;refine⟨m,ns m hn,λi x v e1 e2 e3=> ?_⟩;obtain⟨u,r,l⟩:=hl i x v e1 e2 e3;refine⟨u,r,?_⟩;rcases l with l| ⟨k,c,e,z⟩
  ·exact .inl l
  ·exact .inr ⟨k,c,e,cellK x c e _ z⟩
 ·obtain⟨v,z⟩:=I.cell x c e;exact⟨v,cellK x c e v z⟩
 ·obtain⟨m,⟨o,_,_,ho,_⟩,_⟩:=I.loc;exact free _ o (λz=>(hch _ z).2.1 rfl) ho I.free
 ·obtain⟨v,o,ho,hd⟩:=I.cell x c e;exact free c o (λz=>(hch c z).2.2.1 x c e rfl) ho (I.freeC x c e)
 ·obtain⟨e,n,ne,nf,d⟩:=I.pin p hp;have nch:p.1∉ch:=λz=>(hch p.1 z).2.2.2 p hp rfl;exact⟨keep p.1 p.2 ne nf nch e n,free p.1 p.2 nch e n,ne,nf,d⟩
theorem Inv.un {t':Nat}(I:Inv X ir σ H s)(u:Un X.fs [] H H' s.heap h')(hok:AZ X.prog X.w H' h'):Inv X ir σ H' {s with heap:=h',toks:=t'}:=by
 obtain⟨m,⟨o,es,ep,ho,r⟩,_⟩:=id I.loc;obtain⟨sl,hL⟩:=u.any ho I.free (by simp);exact I.step (g':=s.gens) (d':=s.drawn) (ch:=[]) (λ_ z=>nomatch z) (λb o _ hb _ e n=>u.keep b o e n hb (by simp)) (λb o _ hb _ e n=>u.slot b o e n hb (by simp)) (λb o _ e n=>u.free b o e n (by simp)) (λb o _ e=>u.there b o e (by simp)) u.tups u.frzs u.tbls (λm' hm=>by
  obtain⟨o',es',ep',ho',r'⟩:=hm;rw[ho]at ho';cases ho';exact⟨_,es',ep',hL,r'⟩) hok I.bare
theorem Inv.call {g':Array GenState}{t':Nat}{d':Drawn}{ch:List gy}(I:Inv X ir σ H s)(u:Un (frs X.stack) ch H H' s.heap h')(hok:AZ X.prog X.w H' h')(hg:vw g')
  (hch:∀b∈ch,(b∈X.ex\/X.s₀.heap.objs.size<=b)/\b≠X.env.locals/\(∀x c,X.env.cells.lookup x=some c->c≠b)/\∀p∈X.pn++ir,p.1≠b):
  Inv X ir σ H' {s with heap:=h',gens:=g',drawn:=d',toks:=t'}:=by
 obtain⟨m,⟨o,es,ep,ho,r⟩,_⟩:=id I.loc;obtain⟨sl,hL⟩:=u.any ho I.free λz=>(hch _ z).2.1 rfl;exact I.step (ch:=ch) hch (λb o hL hb hc e n=>u.keep b o e n (λz=>(di.mp (I.stkSub b z)).elim hL hb) hc) (λb o _ _ hc e n=>u.any e n hc) (λb o hc e n=>u.free b o e n hc) (λb o hc e=>u.there b o e hc) u.tups u.frzs u.tbls (λm' hm=>by
  obtain⟨o',es',ep',ho',r'⟩:=hm;rw[ho]at ho';cases ho';exact⟨_,es',ep',hL,r'⟩) hok hg
theorem Inv.turned {t':Nat}{it:gy}(I:Inv X ir σ H s)(k:∀b o,b≠it->s.heap.get? b=some o->h'.get? b=some o)(hn:H it=none)(hL:it≠X.env.locals)
  (h1:it∈X.ex\/X.s₀.heap.objs.size<=it)(h2:∀x c,X.env.cells.lookup x=some c->c≠it)(h3:∀p∈X.pn++ir,p.1≠it):Inv X ir σ H {s with heap:=h',toks:=t'}:=by
 have nit:∀b u,H b=some u->b≠it:=λb u e z=>by rw[z,hn]at e;cases e
 refine I.step (g':=s.gens) (d':=s.drawn) (ch:=[it]) (λb hb=> ?_) (λb o _ _ hc e _=>k b o (λz=>hc (by simp[z])) e) (λb o _ _ hc e _=> ⟨o.slots,k b o (λz=>hc (by simp[z])) e⟩) (λ_ _ _ _ n=>n)
  (λb o hc e=> ⟨o,k b o (λz=>hc (by simp[z])) e⟩) (λ_ _ e=>e) (λ_ _ _ e=>e) (λb ps e=> ⟨#[],by rw[e];simp⟩) (λm hm=> ?_) (λb u e=> ?_) I.bare
 ·have e:b=it:=by simpa using hb
  subst e;exact⟨h1,hL,h2,h3⟩
 ·obtain⟨o,es,ep,ho,r⟩:=hm;exact⟨o,es,ep,k _ o (k6 hL) ho,r⟩
 ·refine(I.hok b u e).stay (λc v hc q=>k c v ?_ q) (λ_ q=>q) λ_ _ q=>q;rcases hc with z|z
  ·rw[z];exact nit b u e
  ·exact nit c _ z
theorem Inv.tok (I:Inv X ir σ H s)(t:Nat):Inv X ir σ H {s with toks:=t}:=I.un (h':=s.heap) (t':=t) Un.refl I.hok
theorem Inv.kept (I:Inv X ir σ H s)(k:∀b u,s.heap.get? b=some u->h'.get? b=some u):Inv X ir σ H {s with heap:=h',toks:=t'}:=I.un (Un.kept k) (I.hok.kept k)
theorem Inv.laid (I:Inv X ir σ H s)(k:∀b u,s.heap.get? b=some u->h'.get? b=some u)(hp:s.heap.objs.size<=a)(new:ObjOk X.prog X.w (upd H a o) h' a o):
  Inv X ir σ (upd H a o) {s with heap:=h',toks:=t'}:=I.un (Un.laid k hp (I.hok.fresh hp)) (I.hok.laid k hp new)
theorem Inv.write (I:Inv X ir σ H s)(mu:Mut (H x))(he:e=x\/H e=some (.own x))(k:∀b u,b≠e->s.heap.get? b=some u->h'.get? b=some u)(heo:∃u,h'.get? e=some u)
  (new:ObjOk X.prog X.w (upd H x o) h' x o):Inv X ir σ (upd H x o) {s with heap:=h',toks:=t'}:=I.un (Un.write mu he k heo) (I.hok.write mu he k heo new)
theorem Inv.pins_of (I:Inv X ir σ H s)(h:∀p∈pins',s.heap.get? p.1=some p.2/\H p.1=none/\p.1≠X.env.locals/\p.1∉X.fs/\∀v,p.2.data≠ .cell v):Inv X pins' σ H s:=
 ⟨I.ok,I.os,I.bare,I.base,I.loc,I.cell,I.free,I.freeC,λp hp=>(da.mp hp).elim (λz=>I.pin p (de _ z)) (h p),I.hok,I.len⟩
theorem A02 {N:List Str}(hN:N.Nodup){i j:Nat}{x:Str}(a:N[i]?=some x)(b:N[j]?=some x):i=j:=by obtain⟨h1,e1⟩:=AR.mp a;obtain⟨h2,e2⟩:=AR.mp b;exact(bw hN).mp (e1.trans e2.symm)
theorem B4l {M:Model}{A:kb}{E:gw->h7->Prop}{i:Nat}{x:Str}{v:V}{u:gw}{Q:Unit->h7->Prop}(I:Inv X ir σ H s)(hN:X.N.Nodup)(hi:X.N[i]?=some x)(hx:Loc X.env.scope x)(r:RelV v u)
  (h:∀s',Inv X ir (σ.set i (some v)) H s'->(∃a,ju a s.heap s'.heap/\(a=X.env.locals\/X.env.cells.lookup x=some a))->Q () s')(hf:X.fn x=true\/X.env.scope.names.lookup x=some .local:=by first|exact .inl rfl|exact .inr rfl|assumption):ia M A (storeName X.env x u) Q E s:=by
 obtain⟨m,hn,hl⟩:=id I.loc;have hcls:(X.env.scope.kind== .class|| (X.env.scope.kind== .module&&X.env.locals !=X.env.globals))=false:=by rw[I.ok.kind];rfl
 have hiσ:i<σ.length:=by rw[I.len];exact(AR.mp hi).1
 have cne:=I.cne;have tracked:∀{a:gy}{h':iw},(∃o,s.heap.get? a=some o/\H a=none)->ju a s.heap h'->AZ X.prog X.w H h':=fun{a h'} ha hs b ob e=>by
  obtain⟨_,_,hfree⟩:=ha;refine(I.hok b ob e).stay (λc w' hc q=>(hs.2 c ?_).trans q) (λ_ q=>q) λ_ _ q=>q;rintro rfl;rcases hc with rfl|hc
  ·rw[hfree]at e;cases e
  ·rw[hfree]at hc;cases hc
 rcases hx with hk|hk
 ·refine wpAny_storeName_local hk hn (λh' hn' hs=> ?_) hcls;obtain⟨oL,_,_,hoL,_⟩:=id hn;refine h _ ⟨I.ok,I.os,I.bare,⟨λb o e n hb hx=> ?_,λb o e n hb hx=> ?_,I.base.free,λb o e hx=> ?_,I.base.tups,I.base.frzs,I.base.tbls⟩,⟨_,hn',λj y v' e1 e2 e3=> ?_⟩,λy c e=> ?_,I.free,I.freeC,λp hp=> ?_,tracked ⟨oL,hoL,I.free⟩ hs,by simpa using I.len⟩ ⟨_,hs,.inl rfl⟩
  ·exact(hs.2 b (gu (gi (AV e) I.ok.above))).trans (I.base.keep b o e n hb hx)
  ·obtain⟨sl,e1⟩:=I.base.slot b o e n hb hx;exact⟨sl,(hs.2 b (gu (gi (AV e) I.ok.above))).trans e1⟩
  ·obtain⟨o',e1⟩:=I.base.there b o e hx;exact⟨o',(hs.2 b (gu (gi (AV e) I.ok.above))).trans e1⟩
  ·by_cases hj:j=i
   ·subst hj;rw[hi]at e1;cases e1;rw[xu hiσ]at e2;cases e2;exact⟨u,r,.inl ⟨hk,by simp⟩⟩
   ·rw[List.getElem?_set_ne (k6 hj)]at e2;obtain⟨u',r',q⟩:=hl j y v' e1 e2 e3;refine⟨u',r',?_⟩;rcases q with⟨k,e⟩| ⟨k,c,e,z⟩
    ·refine .inl ⟨k,?_⟩;have:y≠x:=λe=>hj (A02 hN e1 (e▸hi));simp[this,e]
    ·exact .inr ⟨k,c,e,z.sameBut hs (cne y c e)⟩
  ·obtain⟨w',z⟩:=I.cell y c e;exact⟨w',z.sameBut hs (cne y c e)⟩
  ·obtain⟨e,n,ne,nf,d⟩:=I.pin p hp;exact⟨(hs.2 p.1 ne).trans e,n,ne,nf,d⟩
 ·have hfn:X.fn x=true:=by
   rcases hf with z|z
   ·exact z
   ·rw[z]at hk;cases hk
  obtain⟨c,hc⟩:=I.ok.has x (.inl hk);obtain⟨w',z⟩:=I.cell x c hc;refine wpAny_storeName_cell I.ok.kind hk hc z (λh' hc' hs=> ?_);obtain⟨oc,hoc,hocd⟩:=id z;refine h {s with heap:=h'} ⟨I.ok,I.os,I.bare,⟨λb o e n hb hx=> ?_,λb o e n hb hx=> ?_,I.base.free,λb o e hx=> ?_,I.base.tups,I.base.frzs,I.base.tbls⟩,⟨m,hn.sameBut hs (k6 (cne x c hc)),λj y v' e1 e2 e3=> ?_⟩,λy c' e=> ?_,I.free,I.freeC,λp hp=> ?_,tracked ⟨oc,hoc,I.freeC x c hc⟩ hs,by simpa using I.len⟩ ⟨c,hs,.inr hc⟩
  ·exact(hs.2 b (gu (gi (AV e) (I.ok.cab x c hfn hc)))).trans (I.base.keep b o e n hb hx)
  ·obtain⟨sl,e1⟩:=I.base.slot b o e n hb hx;exact⟨sl,(hs.2 b (gu (gi (AV e) (I.ok.cab x c hfn hc)))).trans e1⟩
  ·obtain⟨o',e1⟩:=I.base.there b o e hx;exact⟨o',(hs.2 b (gu (gi (AV e) (I.ok.cab x c hfn hc)))).trans e1⟩
  ·by_cases hj:j=i
   ·subst hj;rw[hi]at e1;cases e1;rw[xu hiσ]at e2;cases e2;exact⟨u,r,.inr ⟨.inl hk,c,hc,hc'⟩⟩
   ·rw[List.getElem?_set_ne (k6 hj)]at e2;obtain⟨u',r',q⟩:=hl j y v' e1 e2 e3;refine⟨u',r',?_⟩;rcases q with q| ⟨k,c',e,z'⟩
    ·exact .inl q
    ·refine .inr ⟨k,c',e,z'.sameBut hs ?_⟩;rintro rfl;exact hj (A02 hN e1 (I.ok.inj _ _ _ e hc▸hi))
  ·by_cases hcc:c'=c
   ·subst hcc;exact⟨_,hc'⟩
   ·obtain⟨w2,z2⟩:=I.cell y c' e;exact⟨w2,z2.sameBut hs hcc⟩
  ·obtain⟨e,n,ne,nf,d⟩:=I.pin p hp;refine⟨(hs.2 p.1 ?_).trans e,n,ne,nf,d⟩;intro q;rw[q,hoc]at e;have q':oc=p.2:=ig e;exact d w' (by rw[←q'];exact hocd)
theorem lJ (I:Inv X ir σ H s)(hN:X.N.Nodup)(hi:X.N[i]?=some x)(hx:Loc X.env.scope x)(r:RelV v u)
  (h:∀s',Inv X ir (σ.set i (some v)) H s'->Q () s')(hf:X.fn x=true\/X.env.scope.names.lookup x=some .local:=by first|exact .inl rfl|exact .inr rfl|assumption):ia M A (storeName X.env x u) Q E s:=
 B4l I hN hi hx r (λs' I' _=>h s' I') hf
theorem Inv.call' (I:Inv X ir σ H s)(ho:s'.os=s.os)(u:Un (frs X.stack) ch H H' s.heap s'.heap)(hok:AZ X.prog X.w H' s'.heap)(hg:vw s'.gens)
  (hch:∀b∈ch,(b∈X.ex\/X.s₀.heap.objs.size<=b)/\b≠X.env.locals/\(∀x c,X.env.cells.lookup x=some c->c≠b)/\∀p∈X.pn++ir,p.1≠b):Inv X ir σ H' s':=by
 obtain⟨h',g',d',t',o'⟩:=s';have e:o'=s.os:=ho;subst e;exact I.call (g':=g') (t':=t') (d':=d') u hok hg hch
end
noncomputable abbrev XK:=gw->Option gy->Hp->Prop
noncomputable abbrev St:=List (Option V)
noncomputable abbrev VK:=V->Hp->Prop
noncomputable abbrev TE:=St->Hp->VK->Prop
noncomputable abbrev TT:=St->Hp->(Bool->Hp->Prop)->Prop
noncomputable abbrev TA:=St->Hp->(List V->Hp->Prop)->Prop
structure eA where
 nx:St->Hp->Prop
 rt:VK
 bk:St->Hp->Prop:=λ_ _=>False
 ct:St->Hp->Prop:=λ_ _=>False
noncomputable abbrev TS:=eA->St->Hp->Prop
noncomputable def EP (X:Cx)(ir:List (gy×Obj))(σ:St)(Q:VK)(u:gw)(s':h7):Prop:=∃v H',Inv X ir σ H' s'/\RelV v u/\Q v H'
noncomputable def TP (X:Cx)(ir:List (gy×Obj))(σ:St)(Q:Bool->Hp->Prop)(b:Bool)(s':h7):Prop:=∃H',Inv X ir σ H' s'/\Q b H'
noncomputable def AP (X:Cx)(ir:List (gy×Obj))(σ:St)(Q:List V->Hp->Prop)(us:List gw)(s':h7):Prop:=∃vs H',Inv X ir σ H' s'/\Vals vs us/\Q vs H'
noncomputable def SP (X:Cx)(ir:List (gy×Obj))(D:eA)(f:Flow)(s':h7):Prop:=
 match f with
 | .next=> ∃σ' H',Inv X ir σ' H' s'/\D.nx σ' H'
 | .brk=> ∃σ' H',Inv X ir σ' H' s'/\D.bk σ' H'
 | .cont=> ∃σ' H',Inv X ir σ' H' s'/\D.ct σ' H'
 | .ret u=> ∃v σ' H',Inv X ir σ' H' s'/\RelV v u/\D.rt v H'
noncomputable def PE (X:Cx)(e:j7)(t:TE):Prop:=
 ∀(ir:List (gy×Obj))(s:h7)(σ:St)(H:Hp)(Q:VK),Inv X ir σ H s->t σ H Q->ia (iu X.prog X.w) X.A (mv e X.env) (EP X ir σ Q) X.xe s
noncomputable def PT (X:Cx)(e:j7)(t:TT):Prop:=
 ∀(ir:List (gy×Obj))(s:h7)(σ:St)(H:Hp)(Q:Bool->Hp->Prop),Inv X ir σ H s->t σ H Q->ia (iu X.prog X.w) X.A (isTrue e X.env (mv e X.env)) (TP X ir σ Q) X.xe s
noncomputable def PW (X:Cx)(e:j7)(t:TT):Prop:=
 ∀(whole:Sem gw)(ir:List (gy×Obj))(s:h7)(σ:St)(H:Hp)(Q:Bool->Hp->Prop),Inv X ir σ H s->t σ H Q->ia (iu X.prog X.w) X.A (isTrue e X.env whole) (TP X ir σ Q) X.xe s
theorem PW.pt (h:PW X e t):PT X e t:=h _
noncomputable def PA (X:Cx)(es:List j7)(t:TA):Prop:=
 ∀(pos:Pos)(ir:List (gy×Obj))(s:h7)(σ:St)(H:Hp)(Q:List V->Hp->Prop),Inv X ir σ H s->t σ H Q->ia (iu X.prog X.w) X.A (spliced (wt pos (jo es X.env))) (AP X ir σ Q) X.xe s
noncomputable def PS (X:Cx)(st:je)(t:TS):Prop:=
 ∀(ir:List (gy×Obj))(s:h7)(σ:St)(H:Hp)(D:eA),Inv X ir σ H s->t D σ H->ia (iu X.prog X.w) X.A (exec st X.env) (SP X ir D) X.xe s
noncomputable def A0 (X:Cx)(st:List je)(t:TS):Prop:=
 ∀(ir:List (gy×Obj))(s:h7)(σ:St)(H:Hp)(D:eA),Inv X ir σ H s->t D σ H->ia (iu X.prog X.w) X.A (execs st X.env) (SP X ir D) X.xe s
theorem thn (h:ia M A t Q E s)(hQ:∀a s,Q a s->Q' a s):ia M A t Q' E s:=m8 h hQ λ_ _ x=>x
section
noncomputable def dY (i:Nat):TE:=λσ H Q=> ∃v,σ[i]?=some (some v)/\Q v H
noncomputable def tC (v:V):TE:=λ_ H Q=>Q v H
theorem A5z (hN:X.N[i]?=some x)(hv:Vis X.env.scope x)(hd:(x==("__debug__":Str))=false:=by decide)(hcd:(x==("__classdict__":Str))=false:=by decide):PE X (.Name x pos) (dY i):=by
 intro ir s σ H Q I h;obtain⟨v,e,h⟩:=h;obtain⟨m,hn,hl⟩:=I.loc;obtain⟨u,r,l⟩:=hl i x v hN e hv;have fin:EP X ir σ Q u s:=⟨v,H,I,r,h⟩;rcases l with⟨hk,hm⟩| ⟨hk,c,hc,hcell⟩
 ·exact wpAny_Name (wpAny_loadName_local I.ok.kind hk hn hm fin) hd
 ·rcases hk with hk|hk
  ·exact wpAny_Name (wpAny_loadName_cell I.ok.kind hk hc hcell fin) hd
  ·exact wpAny_Name (wpAny_loadName_free I.ok.kind hk hc hcell fin hcd) hd
theorem aV:PE X (.Constant (.int i) j pos) (tC (.int i)):=λ_ _ _ H _ I h=>wpAny_Constant_int ⟨.int i,H,I.tok _,⟨_,rfl⟩,h⟩
theorem fD:PE X (.Constant (.bool b) j pos) (tC (.bl b)):=λ_ _ _ H _ I h=>Constant_bool ⟨.bl b,H,I,rfl,h⟩
theorem iX:PE X (.Constant .none j pos) (tC .non):=λ_ _ _ H _ I h=>Constant_none ⟨.non,H,I,rfl,h⟩
noncomputable def Gl (X:Cx)(x:Str):Prop:=X.env.kindOf x=some .globalImplicit
theorem A1c (I:Inv X ir σ H s)(hg:Gl X x)(hm:X.mg x=some u)(h:Q u s)
  (hd:(x==("__debug__":Str))=false:=by decide):ia (iu X.prog X.w) X.A (mv (.Name x pos) X.env) Q E s:=
 uq I.ok.kind hg (Calls.loadGlobal_global (by rw[I.ok.glob];exact I.mod.glob.keeps I.bk) hm h) hd
theorem iP (I:Inv X ir σ H s)(hg:Gl X x)(hm:X.mg x=none)(hv:mq x=some u)(h:Q u s)
  (hn:x≠ "__name__":=by decide)(hd:(x==("__debug__":Str))=false:=by decide):ia (iu X.prog X.w) X.A (mv (.Name x pos) X.env) Q E s:=by
 obtain⟨mb,h1,h2⟩:=I.mod.blt;exact uq I.ok.kind hg (Calls.loadGlobal_builtin (by rw[I.ok.glob];exact I.mod.glob.keeps I.bk) hm (by rw[I.ok.blt];exact h1.keeps I.bk) ((h2 x hn).trans hv) h) hd
theorem eJ (hg:Gl X x)(hm:X.mg x=some u)(r:RelV v u)(hd:(x==("__debug__":Str))=false:=by decide):PE X (.Name x pos) (tC v):=
 λ_ _ _ H _ I h=>A1c I hg hm ⟨v,H,I,r,h⟩ hd
theorem kX (hg:Gl X x)(hm:X.mg x=none)(hv:mq x=some u)(r:RelV v u)(hn:x≠ "__name__":=by decide)(hd:(x==("__debug__":Str))=false:=by decide):PE X (.Name x pos) (tC v):=
 λ_ _ _ H _ I h=>iP I hg hm hv ⟨v,H,I,r,h⟩ hn hd
noncomputable def PC (X:Cx)(op:CmpOp)(a b:j7)(t:TE):Prop:=
 ∀(ir:List (gy×Obj))(s:h7)(σ:St)(H:Hp)(Q:VK),Inv X ir σ H s->t σ H Q->
  ia (iu X.prog X.w) X.A (mv a X.env) (λv s₁=>ia (iu X.prog X.w) X.A (mv b X.env) (λu s₂=>ia (iu X.prog X.w) X.A (jl op v u) (EP X ir σ Q) X.xe s₂) X.xe s₁) X.xe s
noncomputable def tB (t:TE):TT:=λσ H Q=>t σ H λx H1=> ∃c,x= .bl c/\Q c H1
theorem A9a (h:PC X op a b t)(h1:rh op b=false:=by first|exact nobehind _ (by decide) (by decide)|rfl):PT X (.Compare a [op] [b] pos) (tB t):=by intro ir s σ H Q I hw;refine yn (thn (h ir s σ H _ I hw) λv s1 h1=>thn h1 λu s2 h2=>thn h2 λc s3 ⟨x,H1,I1,r1,q1⟩=> ?_) h1;obtain⟨d,rfl,q⟩:=q1;cases r1;exact j8 ⟨H1,I1,q⟩
theorem bL (h:PE X e t)(he:∀whole,isTrue e X.env whole=(do let v←whole;zg e.pos;xv [v] (truthy v)):=by intro _;rfl):PT X e (tB t):=by intro ir s σ H Q I hw;refine isTrue_plain (thn (h ir s σ H _ I hw) λv s1 ⟨x,H1,I1,r1,q1⟩=> ?_) (he _);obtain⟨d,rfl,q⟩:=q1;cases r1;exact j8 ⟨H1,I1,q⟩
variable {tA tB':TT}{rest:List j7}
noncomputable def A1r (t u:TT):TT:=λσ H Q=>t σ H λc H1=>if c=true then u σ H1 Q else Q false H1
noncomputable def tOr (t u:TT):TT:=λσ H Q=>t σ H λc H1=>if c=true then Q true H1 else u σ H1 Q
noncomputable def A5s (t:TT):TT:=λσ H Q=>t σ H λc H1=>Q (!c) H1
theorem lA (ha:PT X a tA):PW X (.BoolOp .And [a] pos) tA:=by
 intro wh ir s σ H Q I h;refine isTrue_and (thn (ha ir s σ H Q I h) λc s1 e=> ?_);cases c with
 |true=>exact isTrue_and_nil e
 |false=>exact e
theorem gJ (ha:PT X a tA):PW X (.BoolOp .Or [a] pos) tA:=by
 intro wh ir s σ H Q I h;refine isTrue_or (thn (ha ir s σ H Q I h) λc s1 e=> ?_);cases c with
 |false=>exact isTrue_or_nil e
 |true=>exact e
theorem lD (ha:PT X a tA)(hb:PW X (.BoolOp .And (b::rest) pos) tB'):PW X (.BoolOp .And (a::b::rest) pos) (A1r tA tB'):=by
 intro wh ir s σ H Q I h;refine isTrue_and (thn (ha ir s σ H _ I h) λc s1 ⟨H1,I1,q1⟩=> ?_);cases c with
 |true=>exact hb wh ir s1 σ H1 Q I1 q1
 |false=>exact⟨H1,I1,q1⟩
theorem fH (ha:PT X a tA)(hb:PW X (.BoolOp .Or (b::rest) pos) tB'):PW X (.BoolOp .Or (a::b::rest) pos) (tOr tA tB'):=by
 intro wh ir s σ H Q I h;refine isTrue_or (thn (ha ir s σ H _ I h) λc s1 ⟨H1,I1,q1⟩=> ?_);cases c with
 |true=>exact⟨H1,I1,q1⟩
 |false=>exact hb wh ir s1 σ H1 Q I1 q1
theorem bV (ha:PT X a tA):PT X (.UnaryOp .Not a pos) (A5s tA):=by intro ir s σ H Q I h;exact isTrue_not (ha ir s σ H (λc H1=>Q (!c) H1) I h)
noncomputable def A4r (ta tb:TE):TE:=λσ H Q=>ta σ H λx H1=> ∃c,x= .bl c/\if c=true then tb σ H1 Q else Q (.bl false) H1
noncomputable def A3k (ta:TE):TE:=λσ H Q=>ta σ H λx H1=> ∃c,x= .bl c/\Q (.bl (!c)) H1
theorem gI (h:PE X a t):PE X (.BoolOp op [a] pos) t:=λir s σ H Q I hw=>BoolOp_one (h ir s σ H Q I hw)
theorem gH (ha:PE X a ta)(hb:PE X (.BoolOp .And (b::rest) pos) tb):PE X (.BoolOp .And (a::b::rest) pos) (A4r ta tb):=by
 intro ir s σ H Q I h;refine BoolOp_and (thn (ha ir s σ H _ I h) λv s1 ⟨x,H1,I1,r1,q1⟩=> ?_);obtain⟨c,rfl,q1⟩:=q1;cases r1;refine j8 ?_;cases c with
 |true=>exact hb ir s1 σ H1 Q I1 q1
 |false=>exact⟨.bl false,H1,I1,rfl,q1⟩
theorem B0m (ha:PE X a ta):PE X (.UnaryOp .Not a pos) (A3k ta):=by intro ir s σ H Q I h;refine UnaryOp_ (thn (ha ir s σ H _ I h) λv s1 ⟨x,H1,I1,r1,q1⟩=> ?_);obtain⟨c,rfl,q1⟩:=q1;cases r1;exact not_of (j8 ⟨.bl (!c),H1,I1,rfl,q1⟩)
noncomputable def tIf (t:TT)(ta tb:TE):TE:=λσ H Q=>t σ H λc H1=>if c=true then ta σ H1 Q else tb σ H1 Q
theorem B2r (hc:PT X c tA)(ha:PE X a ta)(hb:PE X b tb):PE X (.IfExp c a b pos) (tIf tA ta tb):=by
 intro ir s σ H Q I h;refine wpAny_IfExp (thn (hc ir s σ H _ I h) λd s1 ⟨H1,I1,q1⟩=> ?_);cases d with
 |true=>exact ha ir s1 σ H1 Q I1 q1
 |false=>exact hb ir s1 σ H1 Q I1 q1
end
noncomputable def A2 (K:W.Frag)(H:Hp)(a:gy)(xs:List V):Prop:=
 Rd H a (.lst xs)\/
  ∃(o:Obj)(i8:Array gw)(n:Nat),K.lookup a=some o/\o.cls= .type "list"/\o.dict=none/\o.data= .seq i8 n/\i8.size<=gz/\Vals xs i8.toList
noncomputable def A3 (K:W.Frag)(H:Hp)(a:gy)(xs:List V):Prop:=
 Rd H a (.tup xs)\/
  ∃(o:Obj)(i8:Array gw)(n:Nat),K.lookup a=some o/\o.cls= .type "tuple"/\o.data= .seq i8 n/\i8.size<=gz/\Vals xs i8.toList
noncomputable def B03:gw->Option V
 | .none=>some .non
 | .bool b=>some (.bl b)
 | .int i _=>some (.int i)
 | .str x _=>some (.str x)
 | .bytes b _=>some (.byt b)
 | .float b _=>some (.flt b)
 | .ref a=>some (.ref a)
 | .type n=>some (.ty n)
 |_=>none
theorem RelV.abs (r:RelV x u):B03 u=some x:=by
 cases x with
 |non=>cases r;rfl
 |bl _=>cases r;rfl
 |int _=>obtain⟨t,rfl⟩:=r;rfl
 |str _=>obtain⟨t,rfl⟩:=r;rfl
 |byt _=>obtain⟨t,rfl⟩:=r;rfl
 |flt _=>obtain⟨t,rfl⟩:=r;rfl
 |ref _=>cases r;rfl
 |ty _=>cases r;rfl
theorem RelV.inj (r:RelV x u)(q:RelV y u):x=y:=ig (r.abs.symm.trans q.abs)
theorem Vals.inj:∀{xs ys:List V}{us:List gw},Vals xs us->Vals ys us->xs=ys
 |_,_,_,.nil,.nil=>rfl
 |_,_,_,.cons r t,.cons r' t'=>by rw[r.inj r',Vals.inj t t']
theorem A2.of {K:W.Frag}(h:H a=some (.lst xs)):A2 K H a xs:=.inl (.inl h)
theorem A3.of {K:W.Frag}(h:H a=some (.tup xs)):A3 K H a xs:=.inl (.inl h)
theorem Inv.list (I:Inv X ir σ H s)(h:A2 X.K H a xs):∃i8:List gw,Vals xs i8/\PlainL s.heap a i8.toArray/\xs.length<=gz:=by
 rcases h with h| ⟨o,i8,n,hk,hc,hd,hs,hz,r⟩
 ·obtain⟨z,i8,n,r,e⟩:=h.ok I.hok;exact⟨i8,r,⟨_,n,e,rfl,rfl,rfl⟩,z⟩
 ·refine⟨i8.toList,r,⟨o,n,I.kIn a o hk,hc,hd,by simpa using hs⟩,?_⟩;have e:=r.length;simp only[mz]at e;omega
theorem Inv.tuple (I:Inv X ir σ H s)(h:A3 X.K H a xs):∃i8:List gw,Vals xs i8/\xc s.heap a i8.toArray/\xs.length<=gz:=by
 rcases h with h| ⟨o,i8,n,hk,hc,hs,hz,r⟩
 ·obtain⟨z,i8,r,p⟩:=h.ok I.hok;exact⟨i8,r,p,z⟩
 ·refine⟨i8.toList,r,⟨o,I.kIn a o hk,hc,n,by simpa using hs⟩,?_⟩;have e:=r.length;simp only[mz]at e;omega
theorem Inv.list_inj (I:Inv X ir σ H s)(h:A2 X.K H a xs)(h':A2 X.K H a ys):xs=ys:=by
 obtain⟨i8,r,⟨o,n,e,_,_,d⟩,_⟩:=I.list h;obtain⟨its',r',⟨o',n',e',_,_,d'⟩,_⟩:=I.list h';rw[e]at e';cases e';rw[d]at d';injection d' with d1 _
 have:i8=its':=by simpa using congrArg Array.toList d1
 subst this;exact r.inj r'
theorem Inv.tuple_inj (I:Inv X ir σ H s)(h:A3 X.K H a xs)(h':A3 X.K H a ys):xs=ys:=by
 obtain⟨i8,r,⟨o,e,_,n,d⟩,_⟩:=I.tuple h;obtain⟨its',r',⟨o',e',_,n',d'⟩,_⟩:=I.tuple h';rw[e]at e';cases e';rw[d]at d';injection d' with d1 _
 have:i8=its':=by simpa using congrArg Array.toList d1
 subst this;exact r.inj r'
noncomputable abbrev Cx.wish (X:Cx)(E:gw->h7->Prop):Cx:={X with xe:=E}
noncomputable abbrev Cx.nox (X:Cx):Cx:=X.wish λ_ _=>False
theorem Cx.Ok.wish {X:Cx}(ok:X.Ok)(E:gw->h7->Prop):(X.wish E).Ok:=
 ⟨ok.mod,ok.kind,ok.glob,ok.blt,ok.above,ok.inj,ok.has,ok.cab,ok.hd,ok.frames,ok.stk,ok.exf,ok.bs,ok.bsz,ok.noex,ok.exfs,ok.funs,ok.frf⟩
theorem Cx.Ok.unwish {X:Cx}{E:gw->h7->Prop}(ok:(X.wish E).Ok):X.Ok:=
 ⟨ok.mod,ok.kind,ok.glob,ok.blt,ok.above,ok.inj,ok.has,ok.cab,ok.hd,ok.frames,ok.stk,ok.exf,ok.bs,ok.bsz,ok.noex,ok.exfs,ok.funs,ok.frf⟩
section
variable {X:Cx}{ir:List (gy×Obj)}{σ:St}{H:Hp}{s:h7}{E:gw->h7->Prop}
theorem Inv.wish (I:Inv X ir σ H s)(E:gw->h7->Prop):Inv (X.wish E) ir σ H s:=⟨I.ok.wish E,I.os,I.bare,I.base,I.loc,I.cell,I.free,I.freeC,I.pin,I.hok,I.len⟩
theorem Inv.unwish (I:Inv (X.wish E) ir σ H s):Inv X ir σ H s:=⟨I.ok.unwish,I.os,I.bare,I.base,I.loc,I.cell,I.free,I.freeC,I.pin,I.hok,I.len⟩
theorem SP.unwish (h:SP (X.wish E) ir D f s'):SP X ir D f s':=by
 cases f with
 |next=>obtain⟨σ',H',I,q⟩:=h;exact⟨σ',H',I.unwish,q⟩
 |brk=>obtain⟨σ',H',I,q⟩:=h;exact⟨σ',H',I.unwish,q⟩
 |cont=>obtain⟨σ',H',I,q⟩:=h;exact⟨σ',H',I.unwish,q⟩
 |ret u=>obtain⟨v,σ',H',I,r,q⟩:=h;exact⟨v,σ',H',I.unwish,r,q⟩
theorem A0.nox {st:List je}{t:TS}(h:A0 X.nox st t):A0 X st t:=λir s σ H D I hw=>
 m8 (h ir s σ H D (I.wish _) hw) (λ_ _ q=>q.unwish) λ_ _ z=>m9 z
end
section
variable {X:Cx}{st:je}{rest:List je}{t u:TS}{e:j7}{te:TE}{pos:Pos}
noncomputable def A9q:TS:=λD σ H=>D.nx σ H
noncomputable def oZ (t u:TS):TS:=λD σ H=>t {D with nx:=u D} σ H
theorem bT:A0 X [] A9q:=λ_ _ σ H _ I h=>si ⟨σ,H,I,h⟩
theorem aU (h1:PS X st t)(h2:A0 X rest u):A0 X (st::rest) (oZ t u):=by
 intro ir s σ H D I h;refine wpAny_execs_cons (thn (h1 ir s σ H {D with nx:=u D} I h) λf s1 q=> ?_);cases f with
 |next=>
  obtain⟨σ',H',I',q⟩:=q;exact h2 ir s1 σ' H' D I' q
 |ret v=>exact q
 |brk=>exact q
 |cont=>exact q
theorem bB (h1:PS X st t):A0 X [st] t:=by
 intro ir s σ H D I h;refine wpAny_execs_cons (thn (h1 ir s σ H D I h) λf s1 q=> ?_);cases f with
 |next=>exact si q
 |ret v=>exact q
 |brk=>exact q
 |cont=>exact q
theorem Inv.quiet (I:Inv X ir σ H s):interactive X.env=false:=by simp[interactive,I.ok.kind]
noncomputable def A89 (te:TE):TS:=λD σ H=>te σ H λ_ H1=>D.nx σ H1
theorem cP (he:PE X e te)(hs:Au e none pos.line X.env=pure false:=by rfl):PS X (.Expr e pos) (A89 te):=by intro ir s σ H D I h;exact wpAny_Expr_any (thn (he ir s σ H _ I h) λv s1 ⟨x,H1,I1,r1,q1⟩=> ⟨σ,H1,I1,q1⟩) I.quiet hs
noncomputable def tG (te:TE):TS:=λD σ H=>te σ H D.rt
theorem bF (he:PE X e te):PS X (.Return (some e) pos) (tG te):=by intro ir s σ H D I h;exact wpAny_Return_some (thn (he ir s σ H _ I h) λv s1 ⟨x,H1,I1,r1,q1⟩=> ⟨x,σ,H1,I1,r1,q1⟩)
noncomputable def A7k (c:TT)(t u:TS):TS:=λD σ H=>c σ H λb H1=>if b=true then t D σ H1 else u D σ H1
theorem bS (hc:PT X c tc)(ha:A0 X a t)(hb:A0 X b u):PS X (.If c a b pos) (A7k tc t u):=by
 intro ir s σ H D I h;refine wpAny_If (thn (hc ir s σ H _ I h) λd s1 ⟨H1,I1,q1⟩=> ?_);cases d with
 |true=>exact ha ir s1 σ H1 D I1 q1
 |false=>exact hb ir s1 σ H1 D I1 q1
noncomputable def A8f:TS:=λ_ _ _=>False
theorem dR:A0 X sts A8f:=λ_ _ _ _ _ _ h=>h.elim
end
noncomputable abbrev TG:=V->St->Hp->(St->Hp->Prop)->Prop
noncomputable abbrev TGs:=List V->St->Hp->(St->Hp->Prop)->Prop
noncomputable def PG (X:Cx)(target:j7)(t:TG):Prop:=
 ∀(ir:List (gy×Obj))(s:h7)(σ:St)(H:Hp)(v:V)(u:gw)(Q:St->Hp->Prop),Inv X ir σ H s->RelV v u->t v σ H Q->
  ia (iu X.prog X.w) X.A (assign target X.env u) (λ_ s'=> ∃σ' H',Inv X ir σ' H' s'/\Q σ' H') X.xe s
noncomputable def PGs (X:Cx)(ts:List j7)(t:TGs):Prop:=
 ∀(ir:List (gy×Obj))(s:h7)(σ:St)(H:Hp)(vs:List V)(us:List gw)(Q:St->Hp->Prop),Inv X ir σ H s->Vals vs us->t vs σ H Q->
  ia (iu X.prog X.w) X.A (zm ((ur ts X.env).map (·.2)) us) (λ_ s'=> ∃σ' H',Inv X ir σ' H' s'/\Q σ' H') X.xe s
noncomputable abbrev vO:=V->V->V->Hp->(Hp->Prop)->Prop
noncomputable def zG (X:Cx)(t:vO):Prop:=
 ∀(ir:List (gy×Obj))(s:h7)(σ:St)(H:Hp)(o i v:V)(ov iv u:gw)(Q:Hp->Prop),Inv X ir σ H s->RelV o ov->RelV i iv->RelV v u->t o i v H Q->
  ia (iu X.prog X.w) X.A (setItem ov iv u) (λ_ s'=> ∃H',Inv X ir σ H' s'/\Q H') X.xe s
noncomputable abbrev TIp:=V->V->Hp->VK->Prop
noncomputable def PIp (X:Cx)(op:Operator)(t:TIp):Prop:=
 ∀(ir:List (gy×Obj))(s:h7)(σ:St)(H:Hp)(x y:V)(v u:gw)(Q:VK),Inv X ir σ H s->RelV x v->RelV y u->t x y H Q->
  ia (iu X.prog X.w) X.A (inplaceOp op v u) (EP X ir σ Q) X.xe s
noncomputable def dL (i:Nat):TG:=λv σ H Q=>Q (σ.set i (some v)) H
theorem aQ (hN:X.N.Nodup)(hi:X.N[i]?=some x)(hx:Loc X.env.scope x)(hf:X.fn x=true\/X.env.scope.names.lookup x=some .local:=by first|exact .inl rfl|exact .inr rfl|assumption):PG X (.Name x pos) (dL i):=by intro ir s σ H v u Q I r h;exact wpAny_assign_Name (lJ I hN hi hx r (λs' I'=> ⟨_,H,I',h⟩) hf)
theorem A4 (i:Nat)(hN:X.N.Nodup)(hi:X.N[i]?=some x:=by rfl)(hx:Loc X.env.scope x:=by exact .inl rfl)(hf:X.fn x=true\/X.env.scope.names.lookup x=some .local:=by first|exact .inl rfl|exact .inr rfl|assumption):PG X (.Name x pos) (dL i):=aQ hN hi hx hf
noncomputable def jN:TGs:=λvs σ H Q=>vs=[]/\Q σ H
noncomputable def fJ (t:TG)(u:TGs):TGs:=λvs σ H Q=> ∃v r,vs=v::r/\t v σ H λσ' H'=>u r σ' H' Q
theorem bO:PGs X [] jN:=by intro ir s σ H vs us Q I r h;obtain⟨e,h⟩:=h;subst e;cases r;exact assignInOrder_nil ⟨σ,H,I,h⟩
theorem bC (h1:PG X e t)(h2:PGs X es u)
  (hs:(ur (e::es) X.env).map (·.2)=assign e X.env::(ur es X.env).map (·.2):=by rfl):PGs X (e::es) (fJ t u):=by
 intro ir s σ H vs us Q I r h;obtain⟨v,vr,e1,h⟩:=h;subst e1;cases r with
 |cons r rr=>
  rw[hs];refine uu (thn (h1 ir s σ H _ _ _ I r h) λ_ s1 ⟨σ1,H1,I1,q1⟩=> ?_);exact h2 ir s1 σ1 H1 _ _ Q I1 rr q1
noncomputable def kG (K:W.Frag)(n:Nat)(t:TGs):TG:=λv σ H Q=> ∃a xs,v= .ref a/\A3 K H a xs/\xs.length=n/\t xs σ H Q
theorem bN (hc:X.calm=true)(h:PGs X es t)
  (hn:(ur es X.env).length=n:=by rfl)(hst:(ur es X.env).findIdx? (·.1)=none:=by rfl):PG X (.Tuple es k pos) (kG X.K n t):=by
 intro ir s σ H v u Q I r hw;obtain⟨a,xs,e1,hq,hl,hw⟩:=hw;subst e1;cases r;obtain⟨i8,rv,ht,hz⟩:=I.tuple hq;refine assign_Tuple_tuple (I.ok.hd hc) ht (by simp[hn,←hl,rv.length]) hst λh' hx=> ?_;have I1:Inv X ir σ H {s with heap:=h'}:=I.kept (t':=s.toks) λb o e=>hx b o (gu (AV e)) e;exact h ir _ σ H xs _ Q I1 (by simpa using rv) hw
noncomputable def A6v (to ti:TE)(t:vO):TG:=λv σ H Q=>to σ H λo H1=>ti σ H1 λi H2=>t o i v H2 λH3=>Q σ H3
theorem sD (ho:PE X o to)(hi:PE X i ti)(hs:zG X t)
  (ha:∀v,assign (.Subscript o i pos) X.env v=(do
   let ov←xv [v] (mv o X.env);let iv←xv [v,ov] (mv i X.env)
   zg pos
   xv [v,ov,iv] (setItem ov iv v)
   release [v,ov,iv] []):=by intro _;rfl):PG X (.Subscript o i pos) (A6v to ti t):=by
 intro ir s σ H v u Q I r h;rw[ha];refine AN (jw (thn (ho ir s σ H _ I h) λov s1 ⟨x,H1,I1,r1,q1⟩=> ?_));refine AN (jw (thn (hi ir s1 σ H1 _ I1 q1) λiv s2 ⟨y,H2,I2,r2,q2⟩=> ?_));refine AN (nv (AN (jw (thn (hs ir s2 σ H2 x y v ov iv u _ I2 r1 r2 r q2) λ_ s3 ⟨H3,I3,q3⟩=> ?_))));exact wpAny_release ⟨σ,H3,I3,q3⟩
noncomputable def lU (te:TE)(g:TG):TS:=λD σ H=>te σ H λx H1=>g x σ H1 D.nx
theorem cK (he:PE X e te)(hg:PG X tg g)(hs:swapsWithSole [tg] e pos.line X.env=pure false:=by rfl)(hw:swappedStores [tg] e X.env=pure none:=by rfl)
  (h1:(ur [tg] X.env).map (·.2)=[assign tg X.env]:=by rfl):PS X (.Assign [tg] e pos) (lU te g):=by
 intro ir s σ H D I h;refine wpAny_Assign_stores (thn (he ir s σ H _ I h) λv s1 ⟨x,H1,I1,r1,q1⟩=> ?_) hs hw;rw[h1];exact thn (hg ir s1 σ H1 x v _ I1 r1 q1) λ_ s2 q=>q
theorem bP (hN:X.N.Nodup)(hi:X.N[i]?=some x)(hx:Loc X.env.scope x)(he:PE X e te)(hs:Au e (some (.Name x pos')) pos.line X.env=pure false:=by rfl)(hf:X.fn x=true\/X.env.scope.names.lookup x=some .local:=by first|exact .inl rfl|exact .inr rfl|assumption):
  PS X (.Assign [.Name x pos'] e pos) (lU te (dL i)):=by
 intro ir s σ H D I h;refine wpAny_Assign_Name (thn (he ir s σ H _ I h) λv s1 ⟨y,H1,I1,r1,q1⟩=> ?_) hs;exact lJ I1 hN hi hx r1 (λs2 I2=> ⟨_,H1,I2,q1⟩) hf
noncomputable def B3d (i j:Nat)(ta:TA):TS:=λD σ H=>ta σ H λvs H1=> ∃v w,vs=[v,w]/\D.nx ((σ.set i (some v)).set j (some w)) H1
theorem iQ (hc:X.calm=true)(hN:X.N.Nodup)(hi:X.N[i]?=some x)(hj:X.N[j]?=some y)(hij:i≠j)
  (hx:X.env.scope.names.lookup x=some .local)(hy:X.env.scope.names.lookup y=some .local)(ha:PA X [a,b] ta)
  (hw:swappedStores [.Tuple [.Name x px,.Name y py] kt pt] (.Tuple [a,b] k2 pt2) X.env=pure (some [x,y]))
  (hs:swapsWithSole [.Tuple [.Name x px,.Name y py] kt pt] (.Tuple [a,b] k2 pt2) pos.line X.env=pure false:=by rfl):
  PS X (.Assign [.Tuple [.Name x px,.Name y py] kt pt] (.Tuple [a,b] k2 pt2) pos) (B3d i j ta):=by
 intro ir s σ H D I h;rw[exec_Assign_arm];refine AN (nv ?_);rw[hs];refine AN (AO ?_);rw[if_neg (by decide)];refine AN (Tuple_ (thn (ha _ ir s σ H _ I h) λus s1 ⟨vs,H1,I1,r1,q1⟩=> ?_));obtain⟨v,w,e1,q1⟩:=q1;subst e1;obtain⟨u1,u2,rfl,rv,rw'⟩:∃u1 u2,us=[u1,u2]/\RelV v u1/\RelV w u2:=by
  cases r1 with
  |cons p q=>
   cases q with
   |cons p' q'=>
    cases q';exact⟨_,_,rfl,p,p'⟩
 refine i9 ?_ (by show 2<=gz;decide);have I2:Inv X ir σ H1 {s1 with heap:=s1.heap.push {cls:=.type "tuple",data:=.seq [u1,u2].toArray}}:=I1.kept (t':=s1.toks) λb o e=>AQ _ e;rw[hw];refine AN (AO ?_)
 show ia (iu X.prog X.w) X.A (do rule "assign.swapped-stores";let items←unpackItems (.ref s1.heap.objs.size) 2 none;zm [λv=>bindName X.env y v,λv=>bindName X.env x v] items.reverse;pure Flow.next) _ _ _;refine AN (qw (AN (unpackItems_tuple (items:=#[u1,u2]) (I.ok.hd hc) (Av s1.heap _) λh' hx'=> ?_)));have I3:=I2.kept (h':=h') (t':=s1.toks) λb o e=>hx' b o (gu (AV e)) e;show ia _ _ (zm [λv=>bindName X.env y v,λv=>bindName X.env x v] [u2,u1]>>=λ_=>pure Flow.next) _ _ _;refine AN (uu (wpAny_bindName (lJ I3 hN hj (.inl hy) rw' (λs2 I4=> ?_) (.inr hy))));refine uu (wpAny_bindName (lJ I4 hN hi (.inl hx) rv (λs3 I5=>assignInOrder_nil (AO ?_)) (.inr hx)));rw[List.set_comm _ _ (k6 hij)]at I5;exact⟨_,H1,I5,q1⟩
noncomputable def A8o (i:Nat)(te:TE)(ti:TIp):TS:=λD σ H=> ∃x,σ[i]?=some (some x)/\te σ H λy H1=>ti x y H1 λz H2=>D.nx (σ.set i (some z)) H2
theorem A7y (hN:X.N.Nodup)(hi:X.N[i]?=some x)(hx:Loc X.env.scope x)(he:PE X e te)(ho:PIp X op ti)(hf:X.fn x=true\/X.env.scope.names.lookup x=some .local:=by first|exact .inl rfl|exact .inr rfl|assumption):
  PS X (.AugAssign (.Name x pos') op e pos) (A8o i te ti):=by
 intro ir s σ H D I h;obtain⟨v,e1,h⟩:=h;obtain⟨m,hn,hl⟩:=I.loc;have vis:Vis X.env.scope x:=by rcases hx with k|k;exact .inl k;exact .inr (.inl k)
 obtain⟨u,r,l⟩:=hl i x v hi e1 vis;refine wpAny_AugAssign_Name ?_;have go:ia (iu X.prog X.w) X.A (mv e X.env) (λw s₂=>ia (iu X.prog X.w) X.A (inplaceOp op u w) (λr s₃=>ia (iu X.prog X.w) X.A (storeName X.env x r) (λ_=>SP X ir D .next) X.xe s₃) X.xe s₂) X.xe s:=by
  refine thn (he ir s σ H _ I h) λw s1 ⟨y,H1,I1,r1,q1⟩=> ?_;refine thn (ho ir s1 σ H1 v y u w _ I1 r r1 q1) λz s2 ⟨zv,H2,I2,r2,q2⟩=> ?_;exact lJ I2 hN hi hx r2 (λs3 I3=> ⟨_,H2,I3,q2⟩) hf
 rcases l with⟨hk,hm⟩| ⟨hk,c,hc,hcell⟩
 ·exact wpAny_loadName_local I.ok.kind hk hn hm go
 ·rcases hk with hk|hk
  ·exact wpAny_loadName_cell I.ok.kind hk hc hcell go
  ·rcases hx with k|k
   ·have:X.env.scope.names.lookup x=some .free:=hk;rw[k]at this;cases this
   ·have:X.env.scope.names.lookup x=some .free:=hk;rw[k]at this;cases this
noncomputable def ipI (f:Int->Int->Int):TIp:=λx y H Q=> ∃i j,x= .int i/\y= .int j/\Q (.int (f i j)) H
theorem B2z:PIp X .Add (ipI λi j=>i+j):=by intro ir s σ H x y v u Q I r1 r2 h;obtain⟨i,j,e1,e2,q⟩:=h;subst e1;subst e2;obtain⟨t,rfl⟩:=r1;obtain⟨t',rfl⟩:=r2;exact iadd_int ⟨.int _,H,I.tok _,⟨_,rfl⟩,q⟩
noncomputable def zB (c:TT)(tb:TS):TS:=λD σ H=> ∃W:Nat->St->Hp->Prop,(∃m,W m σ H)/\∀m σ H,W m σ H->
 c σ H λb H1=>if b=true then∃N:St->Hp->Prop,(∀σ' H',N σ' H'->∃m',m'<m/\W m' σ' H')/\tb {D with nx:=N,ct:=N,bk:=D.nx} σ H1 else D.nx σ H1
theorem nC (hp:km (iu X.prog X.w) X.A X.env X.xe)(hc:PT X c tc)(hb:A0 X body tb):PS X (.While c body [] pos) (zB tc tb):=by
 intro ir s σ H D I h;obtain⟨W,⟨m0,w0⟩,turn⟩:=h;refine wpAny_While (codeAny_whileLoop (λn s'=> ∃σ' H',Inv X ir σ' H' s'/\W n σ' H') ?_ m0 ⟨σ,H,I,w0⟩);rintro n s1 ⟨σ1,H1,I1,w1⟩;refine ml hp (thn (hc ir s1 σ1 H1 _ I1 (turn n σ1 H1 w1)) λb s2 ⟨H2,I2,q2⟩=> ?_);cases b with
 |true=>
  obtain⟨N,hN,q2⟩:=q2;rw[if_pos rfl];refine ml hp (thn (hb ir s2 σ1 H2 _ I2 q2) λf s3 q3=> ?_);cases f with
  |next=>
   obtain⟨σ3,H3,I3,n3⟩:=q3;obtain⟨m',hm,w3⟩:=hN σ3 H3 n3;exact⟨m',hm,σ3,H3,I3,w3⟩
  |cont=>
   obtain⟨σ3,H3,I3,n3⟩:=q3;obtain⟨m',hm,w3⟩:=hN σ3 H3 n3;exact⟨m',hm,σ3,H3,I3,w3⟩
  |brk=>exact q3
  |ret v=>exact q3
 |false=>
  rw[if_neg ib];exact si ⟨σ1,H2,I2,q2⟩
structure It where
 go:Nat->Hp->Prop
 yld:Nat->Hp->V->Hp->Prop
 stop:Nat->Hp->Prop
noncomputable def fI (X:Cx)(ir:List (gy×Obj))(H:Hp)(b:gy):Prop:=
 H b=none/\b≠X.env.locals/\b∉X.fs/\(b∈X.ex\/X.s₀.heap.objs.size<=b)/\(∀x c,X.env.cells.lookup x=some c->c≠b)/\∀p∈X.pn++ir,p.1≠b
theorem Inv.fpOk (I:Inv X ir σ H s)(hb:s.heap.objs.size<=b)(hn:H' b=none):fI X ir H' b:=by
 refine⟨hn,gr (gi I.lt hb),I.nofs hb,.inr (gc I.sz hb),λx c e z=> ?_,λp hp z=> ?_⟩
 ·obtain⟨v,q⟩:=I.cell x c e;exact absurd (gi q.lt (by rw[z];exact hb)) (gg _)
 ·exact absurd (gi (AV (I.pin p hp).1) (by rw[z];exact hb)) (gg _)
structure gA (P:il)(w:i6)(K:W.Frag)(tg:j7)(J:It)(fp:List gy)(it:gy)(tn:Nat->iw->Prop):Prop where
 mem:it∈fp
 obj:∀i h,tn i h->∀b∈fp,∃o,h.get? b=some o/\∀v,o.data≠ .cell v
 keep:∀i h h',tn i h->(∀b∈fp,∀o,h.get? b=some o->h'.get? b=some o)->tn i h'
 item:∀(X:Cx),X.prog=P->X.w=w->X.K=K->X.calm=true->∀(i:Nat)(ir:List (gy×Obj))(s:h7)(σ:St)(H:Hp)(E:gw->h7->Prop),Inv X ir σ H s->(∀b∈fp,fI X ir H b)->tn i s.heap->J.go i H->
  ia (iu P w) X.A (uv (.ref it)) (λr s1=> ∃u,r=some u/\
   ia (iu P w) X.A (sj tg (.ref it) u) (λ_ s2=> ∃x H',Inv X ir σ H' s2/\RelV x u/\J.yld i H x H'/\tn (i+1) s2.heap/\∀b∈fp,H' b=none) E s1) E s
 done:∀(X:Cx),X.prog=P->X.w=w->X.K=K->X.calm=true->∀(i:Nat)(ir:List (gy×Obj))(s:h7)(σ:St)(H:Hp)(E:gw->h7->Prop),Inv X ir σ H s->(∀b∈fp,fI X ir H b)->tn i s.heap->J.stop i H->
  ia (iu P w) X.A (uv (.ref it)) (λr s1=>r=none/\Inv X ir σ H s1) E s
 self:∀(A:kb)(i:Nat)(s:h7)(Q:gw->h7->Prop)(E:gw->h7->Prop),tn i s.heap->Q (.ref it) s->ia (iu P w) A (Af (.ref it)) Q E s
noncomputable abbrev TI:=St->Hp->(It->Hp->Prop)->Prop
noncomputable def PIE (X:Cx)(ir:List (gy×Obj))(σ:St)(tg:j7)(R:It->Hp->Prop)(itv:gw)(s2:h7):Prop:=
 ∃(it:gy)(fp:List gy)(tn:Nat->iw->Prop)(J:It)(H':Hp),itv= .ref it/\Inv X ir σ H' s2/\gA X.prog X.w X.K tg J fp it tn/\tn 0 s2.heap/\(∀b∈fp,fI X ir H' b)/\R J H'
noncomputable def PI (X:Cx)(tg iter:j7)(wi:TI):Prop:=
 ∀(ir:List (gy×Obj))(s:h7)(σ:St)(H:Hp)(R:It->Hp->Prop),Inv X ir σ H s->wi σ H R->
  ia (iu X.prog X.w) X.A (mv iter X.env) (λv s1=>ia (iu X.prog X.w) X.A (Af v) (PIE X ir σ tg R) X.xe s1) X.xe s
theorem lL (ho:s.heap.get? it=some o)(hc:o.cls= .type n)(hd:o.data= .fields vs)
    (hn:["enumerate","zip","dict_itemiterator","dict_reverseitemiterator","odict_iterator","itertools.zip_longest","itertools.pairwise"].contains n=false)(hQ:Q () s):ia M A (sj tg (.ref it) u) Q E s:=by
  unfold sj;cases tg<;>first
    |exact AO hQ
    | (cases u<;>first
        |exact AO hQ
        | (refine AN (wpAny_load ho ?_)
           rw[hc,hd];show ia M A (if (["enumerate","zip","dict_itemiterator","dict_reverseitemiterator","odict_iterator","itertools.zip_longest","itertools.pairwise"].contains n&&vs[0]?==some (qb _))=true then _ else _) Q E s;rw[if_neg (by intro h;rw[hn,yu]at h;cases h)];exact AO hQ))
noncomputable def Itl (K:W.Frag)(a:gy):It:=
 ⟨λi H=> ∃xs x,A2 K H a xs/\xs[i]?=some x,λi H x H'=>H'=H/\∀xs,A2 K H a xs->xs[i]?=some x,λi H=> ∃xs,A2 K H a xs/\xs.length<=i⟩
noncomputable def Itt (K:W.Frag)(a:gy):It:=
 ⟨λi H=> ∃xs x,A3 K H a xs/\xs[i]?=some x,λi H x H'=>H'=H/\∀xs,A3 K H a xs->xs[i]?=some x,λi H=> ∃xs,A3 K H a xs/\xs.length<=i⟩
noncomputable def Itr (lo:Int)(n:Nat):It:=⟨λi _=>i<n,λi H x H'=>H'=H/\x= .int (lo+i),λi _=>n<=i⟩
theorem A9i {P:il}{w:i6}{K:W.Frag}{tg:j7}(a it:gy):gA P w K tg (Itl K a) [it] it (λi h=>h.IsListIter it a i)where
 mem:=by simp
 obj:=λi h st b hb=>by
  have e:b=it:=by simpa using hb
  subst e;obtain⟨o,e,c,d⟩:=st;exact⟨o,e,λv z=>by rw[d]at z;cases z⟩
 keep:=λi h h' st k=>st.at λo e=>k it (by simp) o e
 item:=by
  intro X hP hw hK hc i ir s σ H E I hf st hg;subst hP hw hK;obtain⟨xs,x,hq,hx⟩:=hg;obtain⟨i8,rv,p,hz⟩:=I.list hq;obtain⟨u,hu,ru⟩:=rv.get hx;obtain⟨f0,f1,f2,f3,f4,f5⟩:=hf it (by simp);refine wpAny_pyNext_list_item st p.isList (x:=u) (by simpa using hu) λh' yv sb=> ?_;have I1:Inv X ir σ H {s with heap:=h'}:=I.turned (t':=s.toks) (λb o hb e=>(sb.2 b hb).trans e) f0 f1 f3 f4 f5;obtain⟨o,e,c,d⟩:=id yv;exact⟨u,rfl,lL (s:={s with heap:=h'}) e c d (by decide) ⟨x,H,I1,ru,⟨rfl,λys hy=>by rw[I.list_inj hy hq];exact hx⟩,yv,λb hb=>(hf b hb).1⟩⟩
 done:=by
  intro X hP hw hK hc i ir s σ H E I hf st hg;subst hP hw hK;obtain⟨xs,hq,hx⟩:=hg;obtain⟨i8,rv,p,hz⟩:=I.list hq;obtain⟨f0,f1,f2,f3,f4,f5⟩:=hf it (by simp);have hl:=rv.length;exact wpAny_pyNext_list_end (I.ok.hd hc) st p.isList (by simp;omega) λh' eb=> ⟨rfl,I.turned (t':=s.toks) (λb o hb e=>eb b o hb e) f0 f1 f3 f4 f5⟩
 self:=λ_ _ _ _ _ st h=>wpAny_pyIter_listiter st h
theorem B4c {P:il}{w:i6}{K:W.Frag}{tg:j7}(a it:gy):gA P w K tg (Itt K a) [it] it (λi h=>h.IsTupleIter it a i)where
 mem:=by simp
 obj:=λi h st b hb=>by
  have e:b=it:=by simpa using hb
  subst e;obtain⟨o,e,c,d⟩:=st;exact⟨o,e,λv z=>by rw[d]at z;cases z⟩
 keep:=λi h h' st k=>st.at λo e=>k it (by simp) o e
 item:=by
  intro X hP hw hK hc i ir s σ H E I hf st hg;subst hP hw hK;obtain⟨xs,x,hq,hx⟩:=hg;obtain⟨i8,rv,p,hz⟩:=I.tuple hq;obtain⟨u,hu,ru⟩:=rv.get hx;obtain⟨f0,f1,f2,f3,f4,f5⟩:=hf it (by simp);refine wpAny_pyNext_tuple_item st (show s.heap.IsTuple a i8.toArray from p) (x:=u) (by simpa using hu) λh' yv sb=> ?_;have I1:Inv X ir σ H {s with heap:=h'}:=I.turned (t':=s.toks) (λb o hb e=>(sb.2 b hb).trans e) f0 f1 f3 f4 f5;obtain⟨o,e,c,d⟩:=id yv;exact⟨u,rfl,lL (s:={s with heap:=h'}) e c d (by decide) ⟨x,H,I1,ru,⟨rfl,λys hy=>by rw[I.tuple_inj hy hq];exact hx⟩,yv,λb hb=>(hf b hb).1⟩⟩
 done:=by
  intro X hP hw hK hc i ir s σ H E I hf st hg;subst hP hw hK;obtain⟨xs,hq,hx⟩:=hg;obtain⟨i8,rv,p,hz⟩:=I.tuple hq;obtain⟨f0,f1,f2,f3,f4,f5⟩:=hf it (by simp);have hl:=rv.length;exact wpAny_pyNext_tuple_end (I.ok.hd hc) st (show s.heap.IsTuple a i8.toArray from p) (by simp;omega) λh' eb=> ⟨rfl,I.turned (t':=s.toks) (λb o hb e=>eb b o hb e) f0 f1 f3 f4 f5⟩
 self:=λ_ _ _ _ _ st h=>wpAny_pyIter_tupleiter st h
theorem A25 {P:il}{w:i6}{K:uh}{tg:j7}(it:gy)(lo:Int)(n:Nat):gA P w K tg (Itr lo n) [it] it (λi h=>IsRangeIter h it (lo+(i:Nat)*1) ((n:Int) -(i:Nat)) 1)where
 mem:=by simp
 obj:=λi h st b hb=>by
  have e:b=it:=by simpa using hb
  subst e;exact⟨_,st,λv z=>by
   have z':Data.fields _=Data.cell v:=z;cases z'⟩
 keep:=λi h h' st k=>k it (by simp) _ st
 item:=by
  intro X hP hw hK hc i ir s σ H E I hf st hg;subst hP hw hK;obtain⟨f0,f1,f2,f3,f4,f5⟩:=hf it (by simp);have W:=Walks.range (prog:=X.prog) (w:=X.w) (I.ok.hd hc) it lo 1 n;refine W.item i s _ _ hg st λv h' tk hv yv kk=> ?_;obtain⟨t,rfl⟩:=hv;have I1:Inv X ir σ H {s with heap:=h',toks:=tk}:=I.turned (λb o hb e=>kk b o (by simpa using hb) e) f0 f1 f3 f4 f5;refine⟨_,rfl,lL (s:={s with heap:=h',toks:=tk}) (n:="range_iterator") yv rfl rfl (by decide) ⟨.int (lo+i),H,I1,⟨t,?_⟩,⟨rfl,rfl⟩,yv,λb hb=>(hf b hb).1⟩⟩;rw[Int.mul_one]
 done:=by
  intro X hP hw hK hc i ir s σ H E I hf st hg;subst hP hw hK;obtain⟨f0,f1,f2,f3,f4,f5⟩:=hf it (by simp);exact wpAny_pyNext_range_end (I.ok.hd hc) st (by have:n<=i:=hg;omega) λh' eb=> ⟨rfl,I.turned (t':=s.toks) (λb o hb e=>eb b o hb e) f0 f1 f3 f4 f5⟩
 self:=λ_ _ _ _ _ st h=>wpAny_pyIter_rangeiter st h
noncomputable def A3l (K:W.Frag)(tl:TE):TI:=λσ H R=>tl σ H λx H1=> ∃a,x= .ref a/\(∃xs,A2 K H1 a xs)/\R (Itl K a) H1
noncomputable def B3k (K:W.Frag)(tl:TE):TI:=λσ H R=>tl σ H λx H1=> ∃a,x= .ref a/\(∃xs,A3 K H1 a xs)/\R (Itt K a) H1
theorem dH {l:j7}{tl:TE}(hl:PE X l tl):PI X tg l (A3l X.K tl):=by
 intro ir s σ H R I h;refine thn (hl ir s σ H _ I h) λv s1 ⟨x,H1,I1,r1,q1⟩=> ?_;obtain⟨a,e,⟨xs,hq⟩,q⟩:=q1;subst e;cases r1;obtain⟨i8,rv,p,hz⟩:=I1.list hq;refine n5 p.isList ?_;refine⟨s1.heap.objs.size,[s1.heap.objs.size],_,_,H1,rfl,I1.kept (t':=s1.toks) λb o e=>AQ _ e,A9i a _,⟨_,fu _ rfl,rfl,rfl⟩,λb hb=> ?_,q⟩;have e:b=s1.heap.objs.size:=by simpa using hb
 subst e;exact I1.fpOk (AY _) (I1.hok.fresh (AY _))
theorem dM {l:j7}{tl:TE}(hl:PE X l tl):PI X tg l (B3k X.K tl):=by
 intro ir s σ H R I h;refine thn (hl ir s σ H _ I h) λv s1 ⟨x,H1,I1,r1,q1⟩=> ?_;obtain⟨a,e,⟨xs,hq⟩,q⟩:=q1;subst e;cases r1;obtain⟨i8,rv,p,hz⟩:=I1.tuple hq;refine kl (show s1.heap.IsTuple a i8.toArray from p) ?_;refine⟨s1.heap.objs.size,[s1.heap.objs.size],_,_,H1,rfl,I1.kept (t':=s1.toks) λb o e=>AQ _ e,B4c a _,⟨_,fu _ rfl,rfl,rfl⟩,λb hb=> ?_,q⟩;have e:b=s1.heap.objs.size:=by simpa using hb
 subst e;exact I1.fpOk (AY _) (I1.hok.fresh (AY _))
theorem A3r {ir:List (gy×Obj)}{σ:St}{H:Hp}{s:h7}{R:It->Hp->Prop}{E:gw->h7->Prop}{lo hi:Int}{t u v:Tok}{tk:Nat}(I:Inv X ir σ H s)(h1:-(2^62)<=lo)(h2:lo<2^62)(h3:-(2^62)<=hi)(h4:hi<2^62)
  (q:R (Itr lo (hi - lo).toNat) H):ia (iu X.prog X.w) X.A (Af (.ref s.heap.objs.size)) (PIE X ir σ tg R) E {s with heap:=s.heap.push {cls:=.type "range",data:=.fields #[.int lo t,.int hi u,.int 1 v]},toks:=tk}:=by
 refine wpAny_pyIter_range (IsRange.new ..) (small_one h1 h2 h3 h4) ?_;have I1:Inv X ir σ H {s with heap:=s.heap.push {cls:=.type "range",data:=.fields #[.int lo t,.int hi u,.int 1 v]},toks:=tk}:=I.kept λb o e=>AQ _ e;refine⟨(s.heap.push {cls:=.type "range",data:=.fields #[.int lo t,.int hi u,.int 1 v]}).objs.size,[(s.heap.push {cls:=.type "range",data:=.fields #[.int lo t,.int hi u,.int 1 v]}).objs.size],_,_,H,rfl,
  I1.kept (t':=tk) λb o e=>AQ _ e,A25 _ lo (hi - lo).toNat,?_,λb hb=> ?_,q⟩
 ·have e1:lo+((0:Nat):Int)*1=lo:=by simp
  have e2:(((hi - lo).toNat:Nat):Int) -((0:Nat):Int)=ic.Range.rangeSize lo hi 1:=by rw[rangeSize_one];split<;>omega
  show IsRangeIter _ _ (lo+((0:Nat):Int)*1) ((((hi - lo).toNat:Nat):Int) -((0:Nat):Int)) 1;rw[e1,e2];exact fu _ rfl
 ·have e:b=(s.heap.push {cls:=.type "range",data:=.fields #[.int lo t,.int hi u,.int 1 v]}).objs.size:=by simpa using hb
  subst e;exact I1.fpOk (AY _) (I1.hok.fresh (AY _))
noncomputable def A23 (ta:TA):TI:=λσ H R=>ta σ H λvs H1=> ∃j:Int,vs=[.int j]/\-(2^62)<=j/\j<2^62/\R (Itr 0 j.toNat) H1
theorem lX {a:j7}{ta:TA}{p pos:Pos}(hg:Gl X "range")(hm:X.mg "range" =none)(ha:PA X [a] ta)(hs:jo [a] X.env=[(false,mv a X.env)]:=by rfl):PI X tg (.Call (.Name "range" p) [a] [] pos) (A23 ta):=by
 intro ir s σ H R I h;refine Call_ (iP I hg hm boot_range (j9 (thn (ha pos ir s σ H _ I h) λus s1 ⟨vs,H1,I1,r1,q1⟩=> ?_) hs rfl));obtain⟨j,e,q1,q2,q⟩:=q1;subst e;cases r1 with
 |cons r rr=>
  cases rr;obtain⟨t,rfl⟩:=r;exact call_range_1 (A3r I1 (by omega) (by omega) q1 q2 (by simpa using q))
noncomputable def B35 (wi:TI)(g:TG)(tb:TS):TS:=λD σ H=>wi σ H λJ H1=> ∃W:Nat->Nat->St->Hp->Prop,(∃m,W 0 m σ H1)/\∀i m σ H,W i m σ H->
 (J.stop i H/\D.nx σ H)\/(J.go i H/\∃N:St->Hp->Prop,(∀σ' H',N σ' H'->∃m',m'<m/\W (i+1) m' σ' H')/\∀x H',J.yld i H x H'->g x σ H' λσ2 H2=>tb {D with nx:=N,ct:=N,bk:=D.nx} σ2 H2)
noncomputable def lZ (fp:List gy)(h:iw):List (gy×Obj):=fp.filterMap λb=>(h.get? b).map λo=>(b,o)
theorem mW (hb:b∈fp)(e:h.get? b=some o):(b,o)∈lZ fp h:=dk.mpr ⟨b,hb,by rw[e];rfl⟩
theorem B1d (hp:p∈lZ fp h):p.1∈fp/\h.get? p.1=some p.2:=by
 obtain⟨b,hb,e⟩:=dk.mp hp;cases q:h.get? b with
 |none=>rw[q]at e;cases e
 |some o=>
  rw[q]at e;have e':(b,o)=p:=ig e;subst e';exact⟨hb,q⟩
theorem Inv.pinned (I:Inv X ir σ H s)(hf:∀b∈fp,fI X ir H b)(ho:∀b∈fp,∃o,s.heap.get? b=some o/\∀v,o.data≠ .cell v):Inv X (ir++lZ fp s.heap) σ H s:=
 I.pins_of λp hp=>(da.mp hp).elim (λz=>I.pin p (dh _ z)) λz=>by
  obtain⟨hb,e⟩:=B1d z;obtain⟨f0,f1,f2,_⟩:=hf p.1 hb;obtain⟨o,e',d⟩:=ho p.1 hb;rw[e]at e';cases e';exact⟨e,f0,f1,f2,d⟩
theorem Inv.unpinned (I:Inv X (ir++pl) σ H s):Inv X ir σ H s:=I.pins_of λp hp=>I.pin p (dh _ (de _ hp))
theorem fZ (hp:km (iu X.prog X.w) X.A X.env X.xe)(hc:X.calm=true)(hi:PI X tg iter wi)(hg:PG X tg g)(hb:A0 X body tb)
  (hs:∀x,kg iter X.env x=pure x:=by intro _;rfl):PS X (.For tg iter body [] pos) (B35 wi g tb):=by
 intro ir s σ H D I h;refine wpAny_For (thn (hi ir s σ H _ I h) λv s1 h1=>thn h1 λitv s2 h2=> ?_) hs;obtain⟨it,fp,tn,J,H2,e,I2,T,st2,f2,W,⟨m0,w0⟩,turn⟩:=h2;subst e;have stat:∀{H':Hp},(∀b∈fp,H' b=none)->∀b∈fp,fI X ir H' b:=λhn b hb=> ⟨hn b hb,(f2 b hb).2⟩;refine codeAny_forLoop_any (λn s'=> ∃i σ' H',Inv X ir σ' H' s'/\tn i s'.heap/\(∀b∈fp,H' b=none)/\W i n σ' H') ?_ m0 ⟨0,σ,H2,I2,st2,λb hb=>(f2 b hb).1,w0⟩;rintro n s3 ⟨i,σ3,H3,I3,st3,fr3,w3⟩;rcases turn i n σ3 H3 w3 with⟨stop,qn⟩| ⟨go,N,hN,step⟩
 ·refine ml hp (thn (T.done X rfl rfl rfl hc i ir s3 σ3 H3 X.xe I3 (stat fr3) st3 stop) λr s4 ⟨hr,I4⟩=> ?_);subst hr;exact si ⟨σ3,H3,I4,qn⟩
 ·refine ml hp (thn (T.item X rfl rfl rfl hc i ir s3 σ3 H3 X.xe I3 (stat fr3) st3 go) λr s4 ⟨u,hr,h4⟩=> ?_);subst hr;refine ml hp (thn h4 λ_ s5 ⟨x,H5,I5,r5,y5,st5,fr5⟩=> ?_);have I5':=I5.pinned (stat fr5) (T.obj _ _ st5);refine ml hp (thn (hg _ s5 σ3 H5 x u _ I5' r5 (step x H5 y5)) λ_ s6 ⟨σ6,H6,I6,q6⟩=> ?_);refine ml hp (thn (hb _ s6 σ6 H6 _ I6 q6) λf s7 q7=> ?_);have again:∀{σ7:St}{H7:Hp},Inv X (ir++lZ fp s5.heap) σ7 H7 s7->N σ7 H7->∃m,m<n/\∃i σ' H',Inv X ir σ' H' s7/\tn i s7.heap/\(∀b∈fp,H' b=none)/\W i m σ' H':=fun{σ7 H7} I7 n7=>by
   obtain⟨m',hm,w7⟩:=hN σ7 H7 n7;refine⟨m',hm,i+1,σ7,H7,I7.unpinned,T.keep _ _ _ st5 λb hb o e=>(I7.pin (b,o) (dh _ (dh _ (mW hb e)))).1,λb hb=> ?_,w7⟩;obtain⟨o,e,d⟩:=T.obj _ _ st5 b hb;exact(I7.pin (b,o) (dh _ (dh _ (mW hb e)))).2.1
  cases f with
  |next=>obtain⟨σ7,H7,I7,n7⟩:=q7;exact again I7 n7
  |cont=>obtain⟨σ7,H7,I7,n7⟩:=q7;exact again I7 n7
  |brk=>obtain⟨σ7,H7,I7,q7⟩:=q7;exact⟨σ7,H7,I7.unpinned,q7⟩
  |ret v=>obtain⟨x7,σ7,H7,I7,r7,q7⟩:=q7;exact⟨x7,σ7,H7,I7.unpinned,r7,q7⟩
theorem eW {K:uh}{a:gy}{xs:List V}{g:TG}{tb:TS}{D:eA}{σ:St}{H:Hp}(Pv:Nat->St->Hp->Prop)(h0:Pv 0 σ H)(hl:∀i σ H,i<=xs.length->Pv i σ H->A2 K H a xs)
  (hs:∀i x σ H,xs[i]?=some x->Pv i σ H->g x σ H λσ2 H2=>tb {D with nx:=Pv (i+1),ct:=Pv (i+1),bk:=D.nx} σ2 H2)(hd:∀σ H,Pv xs.length σ H->D.nx σ H):
  ∃W:Nat->Nat->St->Hp->Prop,(∃m,W 0 m σ H)/\∀i m σ H,W i m σ H->
   ((Itl K a).stop i H/\D.nx σ H)\/((Itl K a).go i H/\∃N:St->Hp->Prop,(∀σ' H',N σ' H'->∃m',m'<m/\W (i+1) m' σ' H')/\∀x H',(Itl K a).yld i H x H'->g x σ H' λσ2 H2=>tb {D with nx:=N,ct:=N,bk:=D.nx} σ2 H2):=by
 refine⟨λi m σ H=>m=xs.length - i/\i<=xs.length/\Pv i σ H,⟨xs.length,by simp,gv _,h0⟩,?_⟩;rintro i m σ H ⟨rfl,hi,p⟩;have q:=hl i σ H hi p;by_cases AG:i<xs.length
 ·refine .inr ⟨⟨xs,xs[i],q,by simp[AG]⟩,Pv (i+1),λσ' H' p'=> ⟨xs.length -(i+1),by omega,rfl,AG,p'⟩,λx H' y=> ?_⟩;obtain⟨e,y⟩:=y;subst e;exact hs i x σ _ (y xs q) p
 ·have e:i=xs.length:=by omega
  subst e;exact .inl ⟨⟨xs,q,AY _⟩,hd σ H p⟩
theorem iK {K:uh}{a:gy}{xs:List V}{g:TG}{tb:TS}{D:eA}{σ:St}{H:Hp}(Pv:Nat->St->Hp->Prop)(h0:Pv 0 σ H)(hl:∀i σ H,i<=xs.length->Pv i σ H->A3 K H a xs)
  (hs:∀i x σ H,xs[i]?=some x->Pv i σ H->g x σ H λσ2 H2=>tb {D with nx:=Pv (i+1),ct:=Pv (i+1),bk:=D.nx} σ2 H2)(hd:∀σ H,Pv xs.length σ H->D.nx σ H):
  ∃W:Nat->Nat->St->Hp->Prop,(∃m,W 0 m σ H)/\∀i m σ H,W i m σ H->
   ((Itt K a).stop i H/\D.nx σ H)\/((Itt K a).go i H/\∃N:St->Hp->Prop,(∀σ' H',N σ' H'->∃m',m'<m/\W (i+1) m' σ' H')/\∀x H',(Itt K a).yld i H x H'->g x σ H' λσ2 H2=>tb {D with nx:=N,ct:=N,bk:=D.nx} σ2 H2):=by
 refine⟨λi m σ H=>m=xs.length - i/\i<=xs.length/\Pv i σ H,⟨xs.length,by simp,gv _,h0⟩,?_⟩;rintro i m σ H ⟨rfl,hi,p⟩;have q:=hl i σ H hi p;by_cases AG:i<xs.length
 ·refine .inr ⟨⟨xs,xs[i],q,by simp[AG]⟩,Pv (i+1),λσ' H' p'=> ⟨xs.length -(i+1),by omega,rfl,AG,p'⟩,λx H' y=> ?_⟩;obtain⟨e,y⟩:=y;subst e;exact hs i x σ _ (y xs q) p
 ·have e:i=xs.length:=by omega
  subst e;exact .inl ⟨⟨xs,q,AY _⟩,hd σ H p⟩
theorem lF {lo:Int}{n:Nat}{g:TG}{tb:TS}{D:eA}{σ:St}{H:Hp}(Pv:Nat->St->Hp->Prop)(h0:Pv 0 σ H)
  (hs:∀i σ H,i<n->Pv i σ H->g (.int (lo+i)) σ H λσ2 H2=>tb {D with nx:=Pv (i+1),ct:=Pv (i+1),bk:=D.nx} σ2 H2)(hd:∀σ H,Pv n σ H->D.nx σ H):
  ∃W:Nat->Nat->St->Hp->Prop,(∃m,W 0 m σ H)/\∀i m σ H,W i m σ H->
   ((Itr lo n).stop i H/\D.nx σ H)\/((Itr lo n).go i H/\∃N:St->Hp->Prop,(∀σ' H',N σ' H'->∃m',m'<m/\W (i+1) m' σ' H')/\∀x H',(Itr lo n).yld i H x H'->g x σ H' λσ2 H2=>tb {D with nx:=N,ct:=N,bk:=D.nx} σ2 H2):=by
 refine⟨λi m σ H=>m=n - i/\i<=n/\Pv i σ H,⟨n,by simp,gv _,h0⟩,?_⟩;rintro i m σ H ⟨rfl,hi,p⟩;by_cases AG:i<n
 ·refine .inr ⟨AG,Pv (i+1),λσ' H' p'=> ⟨n -(i+1),by omega,rfl,AG,p'⟩,λx H' y=> ?_⟩;obtain⟨e,y⟩:=y;subst e y;exact hs i σ _ AG p
 ·have e:i=n:=by omega
  subst e;exact .inl ⟨AY _,hd σ H p⟩
theorem A17 (Pv:St->Hp->Prop)(μ:St->Hp->Nat)(h0:Pv σ H)
  (hs:∀σ H,Pv σ H->c σ H λb H1=>if b=true then tb {D with nx:=λσ' H'=>Pv σ' H'/\μ σ' H'<μ σ H,ct:=λσ' H'=>Pv σ' H'/\μ σ' H'<μ σ H,bk:=D.nx} σ H1 else D.nx σ H1)
  (mono:∀σ H Q Q',(∀b H1,Q b H1->Q' b H1)->c σ H Q->c σ H Q'):zB c tb D σ H:=by
 refine⟨λm σ H=>m=μ σ H/\Pv σ H,⟨_,rfl,h0⟩,?_⟩;rintro m σ H ⟨rfl,p⟩;refine mono σ H _ _ (λb H1 q=> ?_) (hs σ H p);cases b with
 |true=>exact⟨_,λσ' H' ⟨p',l⟩=> ⟨_,l,rfl,p'⟩,q⟩
 |false=>exact q
noncomputable abbrev R2:=V->V->Hp->VK->Prop
noncomputable def OpR (X:Cx)(f:gw->gw->Sem gw)(r:R2):Prop:=
 ∀(ir:List (gy×Obj))(s:h7)(σ:St)(H:Hp)(x y:V)(v u:gw)(Q:VK),Inv X ir σ H s->RelV x v->RelV y u->r x y H Q->
  ia (iu X.prog X.w) X.A (f v u) (EP X ir σ Q) X.xe s
noncomputable def UnR (X:Cx)(f:gw->Sem gw)(r:V->Hp->VK->Prop):Prop:=
 ∀(ir:List (gy×Obj))(s:h7)(σ:St)(H:Hp)(x:V)(v:gw)(Q:VK),Inv X ir σ H s->RelV x v->r x H Q->
  ia (iu X.prog X.w) X.A (f v) (EP X ir σ Q) X.xe s
noncomputable def eO (X:Cx)(f:gw)(r:List V->Hp->VK->Prop):Prop:=
 ∀(ir:List (gy×Obj))(s:h7)(σ:St)(H:Hp)(xs:List V)(us:List gw)(Q:VK),Inv X ir σ H s->Vals xs us->r xs H Q->
  ia (iu X.prog X.w) X.A (call f us) (EP X ir σ Q) X.xe s
noncomputable def tOp (r:R2)(ta tb:TE):TE:=λσ H Q=>ta σ H λx H1=>tb σ H1 λy H2=>r x y H2 Q
noncomputable def tUn (r:V->Hp->VK->Prop)(ta:TE):TE:=λσ H Q=>ta σ H λx H1=>r x H1 Q
noncomputable def rI (C:Int->Int->Prop)(g:Int->Int->V):R2:=λx y H Q=> ∃i j,x= .int i/\y= .int j/\C i j/\Q (g i j) H
noncomputable def rI0 (g:Int->Int->V):R2:=λx y H Q=> ∃i j,x= .int i/\y= .int j/\Q (g i j) H
noncomputable def rU (g:Int->V):V->Hp->VK->Prop:=λx H Q=> ∃i,x= .int i/\Q (g i) H
section
variable {X:Cx}{a b c:j7}{ta tb tc:TE}{pos:Pos}
theorem uY (ha:PE X a ta)(hb:PE X b tb){ir:List (gy×Obj)}{s:h7}{σ:St}{H:Hp}{R:V->V->Hp->Prop}(I:Inv X ir σ H s)
  (h:ta σ H λx H1=>tb σ H1 λy H2=>R x y H2){Q:gw->h7->Prop}{f:gw->gw->Sem gw}
  (hf:∀v u s2 x y H2,Inv X ir σ H2 s2->RelV x v->RelV y u->R x y H2->ia (iu X.prog X.w) X.A (f v u) Q X.xe s2):
  ia (iu X.prog X.w) X.A (mv a X.env) (λv s₁=>ia (iu X.prog X.w) X.A (mv b X.env) (λu s₂=>ia (iu X.prog X.w) X.A (f v u) Q X.xe s₂) X.xe s₁) X.xe s:=by
 refine thn (ha ir s σ H _ I h) λv s1 ⟨x,H1,I1,r1,q1⟩=> ?_;refine thn (hb ir s1 σ H1 _ I1 q1) λu s2 ⟨y,H2,I2,r2,q2⟩=> ?_;exact hf v u s2 x y H2 I2 r1 r2 q2
theorem bI {op:Operator}{r:R2}(ho:OpR X (ot op) r)(ha:PE X a ta)(hb:PE X b tb):PE X (.BinOp a op b pos) (tOp r ta tb):=by intro ir s σ H Q I h;exact wpAny_BinOp (uY ha hb I h λv u s2 x y H2 I2 rx ry q=>ho ir s2 σ H2 x y v u Q I2 rx ry q)
theorem jP (ho:UnR X (unaryOp op) r)(ha:PE X a ta):PE X (.UnaryOp op a pos) (tUn r ta):=by intro ir s σ H Q I h;exact UnaryOp_ (thn (ha ir s σ H _ I h) λv s1 ⟨x,H1,I1,r1,q1⟩=>ho ir s1 σ H1 x v Q I1 r1 q1)
theorem opI {f:gw->gw->Sem gw}{C:Int->Int->Prop}{g:Int->Int->Int}
  (rule:∀(i j:Int)(t u:Tok)(s:h7)(Q:gw->h7->Prop)(E:gw->h7->Prop),C i j->Q (.int (g i j) s.toks) {s with toks:=s.toks+1}->ia (iu X.prog X.w) X.A (f (.int i t) (.int j u)) Q E s):
  OpR X f (rI C λi j=> .int (g i j)):=by
 intro ir s σ H x y v u Q I rx ry h;obtain⟨i,j,rfl,rfl,hc,q⟩:=h;obtain⟨t,rfl⟩:=rx;obtain⟨t',rfl⟩:=ry;exact rule i j t t' s _ _ hc ⟨.int (g i j),H,I.tok _,⟨_,rfl⟩,q⟩
theorem tX {f:gw->gw->Sem gw}{g:Int->Int->Int}
  (rule:∀(i j:Int)(t u:Tok)(s:h7)(Q:gw->h7->Prop)(E:gw->h7->Prop),Q (.int (g i j) s.toks) {s with toks:=s.toks+1}->ia (iu X.prog X.w) X.A (f (.int i t) (.int j u)) Q E s):
  OpR X f (rI0 λi j=> .int (g i j)):=by
 intro ir s σ H x y v u Q I rx ry h;obtain⟨i,j,rfl,rfl,q⟩:=h;obtain⟨t,rfl⟩:=rx;obtain⟨t',rfl⟩:=ry;exact rule i j t t' s _ _ ⟨.int (g i j),H,I.tok _,⟨_,rfl⟩,q⟩
theorem nN {f:gw->gw->Sem gw}{g:Int->Int->Bool}
  (rule:∀(i j:Int)(t u:Tok)(s:h7)(Q:gw->h7->Prop)(E:gw->h7->Prop),Q (.bool (g i j)) s->ia (iu X.prog X.w) X.A (f (.int i t) (.int j u)) Q E s):
  OpR X f (rI0 λi j=> .bl (g i j)):=by
 intro ir s σ H x y v u Q I rx ry h;obtain⟨i,j,rfl,rfl,q⟩:=h;obtain⟨t,rfl⟩:=rx;obtain⟨t',rfl⟩:=ry;exact rule i j t t' s _ _ ⟨.bl (g i j),H,I,rfl,q⟩
noncomputable def A07 (i j:Int):Prop:=0<j/\j<1073741824
noncomputable def A9b (i j:Int):Prop:=0<=j/\j<=1000000/\i.natAbs<2^64
noncomputable def CMul (i j:Int):Prop:=(-(2^64)<i/\i<2^64)\/(-(2^64)<j/\j<2^64)
theorem CMul.ok (h:CMul i j):IntMulOk i j:=by
 rcases h with⟨h1,h2⟩| ⟨h1,h2⟩
 ·exact .of_left (intBits_le_64 h1 h2)
 ·exact .of_right (intBits_le_64 h1 h2)
theorem dG:OpR X (ot .Add) (rI0 λi j=> .int (i+j)):=tX λ_ _ _ _ _ _ _ q=>add_int q
theorem jO:OpR X (ot .Sub) (rI0 λi j=> .int (i - j)):=tX λ_ _ _ _ _ _ _ q=>sub_int q
theorem eE:OpR X (ot .Mult) (rI CMul λi j=> .int (i*j)):=opI λ_ _ _ _ _ _ _ hc q=>mul_int q hc.ok
theorem nT:OpR X (ot .FloorDiv) (rI A07 λi j=> .int (i/j)):=opI λi j _ _ _ _ _ hc q=>by
 have h1:(0:Int)<j:=hc.1;have h2:j<1073741824:=hc.2;exact floordiv_int (by omega) (by rw[uw i (by omega)];exact q) (.inl (xw (by omega)))
theorem kE:OpR X (ot .Mod) (rI (λ_ j=>0<j) λi j=> .int (i%j)):=opI λi j _ _ _ _ _ hc q=>by
 have h1:(0:Int)<j:=hc;exact mod_int' (by omega) (by rw[uz i (by omega)];exact q)
theorem A8m:OpR X (ot .Pow) (rI A9b λi j=> .int (i^j.toNat)):=opI λ_ _ _ _ _ _ _ hc q=>pow_int_small hc.1 hc.2.1 hc.2.2 q
theorem A5e:OpR X (ot .BitAnd) (rI0 λi j=> .int (jg i j)):=tX λ_ _ _ _ _ _ _ q=>and_int q
theorem unI {f:gw->Sem gw}{g:Int->Int}
  (rule:∀(i:Int)(t:Tok)(s:h7)(Q:gw->h7->Prop)(E:gw->h7->Prop),Q (.int (g i) s.toks) {s with toks:=s.toks+1}->ia (iu X.prog X.w) X.A (f (.int i t)) Q E s):
  UnR X f (rU λi=> .int (g i)):=by
 intro ir s σ H x v Q I rx h;obtain⟨i,rfl,q⟩:=h;obtain⟨t,rfl⟩:=rx;exact rule i t s _ _ ⟨.int (g i),H,I.tok _,⟨_,rfl⟩,q⟩
theorem kK:UnR X (unaryOp .USub) (rU λi=> .int (-i)):=unI λ_ _ _ _ _ q=>neg_int q
end
noncomputable def scal:V->V->Bool
 | .non,.non=>true| .non,.int _=>true| .int _,.non=>true| .non,.bl _=>true| .bl _,.non=>true| .non,.str _=>true| .str _,.non=>true
 | .int _,.int _=>true| .bl _,.bl _=>true| .str _,.str _=>true| .byt _,.byt _=>true
 | .int _,.str _=>true| .str _,.int _=>true| .bl _,.str _=>true| .str _,.bl _=>true
 |_,_=>false
noncomputable def rEq:R2:=λx y H Q=>scal x y=true/\Q (.bl (decide (x=y))) H
noncomputable def rNe:R2:=λx y H Q=>scal x y=true/\Q (.bl (!decide (x=y))) H
theorem vS:decide (V.int i=V.int j)=(i==j):=by rw[iy];simp
theorem A2h:decide (V.bl i=V.bl j)=(i==j):=by rw[iy];simp
theorem zS:decide (V.str i=V.str j)=(i==j):=by rw[iy];simp
theorem wS:decide (V.byt i=V.byt j)=(i.toList==j.toList):=by rw[iy];cases i;cases j;simp
theorem cC (I:Inv X ir σ H s)(q:Q (.bl k) H)(e:k=k'):EP X ir σ Q (.bool k') s:=by subst e;exact⟨.bl k,H,I,rfl,q⟩
theorem gB:OpR X (jl .Eq) rEq:=by
 intro ir s σ H x y v u Q I rx ry h;obtain⟨hs,q⟩:=h;cases x with
 |non=>
  cases rx;cases y with
  |non=>cases ry;exact PySem.EqNone.eq_none_none (cC I q (by simp))
  |bl j=>cases ry;exact PySem.EqNone.eq_none_bool (cC I q (by simp))
  |int j=>obtain⟨t',rfl⟩:=ry;exact PySem.EqNone.eq_none_int (cC I q (by simp))
  |str j=>obtain⟨t',rfl⟩:=ry;exact PySem.EqNone.eq_none_str (cC I q (by simp))
  |_=>exact absurd (show false=true from hs) ib
 |bl i=>
  cases rx;cases y with
  |non=>cases ry;exact PySem.EqNone.eq_bool_none (cC I q (by simp))
  |bl j=>cases ry;exact eq_bool (cC I q A2h)
  |str j=>obtain⟨t',rfl⟩:=ry;exact PySem.EqMixed.eq_bool_str (cC I q (by simp))
  |_=>exact absurd (show false=true from hs) ib
 |int i=>
  obtain⟨t,rfl⟩:=rx;cases y with
  |non=>cases ry;exact PySem.EqNone.eq_int_none (cC I q (by simp))
  |int j=>obtain⟨t',rfl⟩:=ry;exact eq_int (cC I q vS)
  |str j=>obtain⟨t',rfl⟩:=ry;exact PySem.EqMixed.eq_int_str (cC I q (by simp))
  |_=>exact absurd (show false=true from hs) ib
 |str i=>
  obtain⟨t,rfl⟩:=rx;cases y with
  |non=>cases ry;exact PySem.EqNone.eq_str_none (cC I q (by simp))
  |bl j=>cases ry;exact PySem.EqMixed.eq_str_bool (cC I q (by simp))
  |int j=>obtain⟨t',rfl⟩:=ry;exact PySem.EqMixed.eq_str_int (cC I q (by simp))
  |str j=>obtain⟨t',rfl⟩:=ry;exact eq_str (cC I q zS)
  |_=>exact absurd (show false=true from hs) ib
 |byt i=>
  obtain⟨t,rfl⟩:=rx;cases y with
  |byt j=>obtain⟨t',rfl⟩:=ry;exact W.eq_bytes (cC I q wS)
  |_=>exact absurd (show false=true from hs) ib
 |_=>cases y<;>exact absurd (show false=true from hs) ib
theorem A3a:OpR X (jl .NotEq) rNe:=by
 intro ir s σ H x y v u Q I rx ry h;obtain⟨hs,q⟩:=h;cases x with
 |non=>
  cases rx;cases y with
  |non=>cases ry;exact PySem.EqNone.ne_none_none (cC I q (by simp))
  |bl j=>cases ry;exact PySem.EqNone.ne_none_bool (cC I q (by simp))
  |int j=>obtain⟨t',rfl⟩:=ry;exact PySem.EqNone.ne_none_int (cC I q (by simp))
  |str j=>obtain⟨t',rfl⟩:=ry;exact PySem.EqNone.ne_none_str (cC I q (by simp))
  |_=>exact absurd (show false=true from hs) ib
 |bl i=>
  cases rx;cases y with
  |non=>cases ry;exact PySem.EqNone.ne_bool_none (cC I q (by simp))
  |bl j=>cases ry;exact ne_bool (cC I q (congrArg not A2h))
  |str j=>obtain⟨t',rfl⟩:=ry;exact PySem.EqMixed.ne_bool_str (cC I q (by simp))
  |_=>exact absurd (show false=true from hs) ib
 |int i=>
  obtain⟨t,rfl⟩:=rx;cases y with
  |non=>cases ry;exact PySem.EqNone.ne_int_none (cC I q (by simp))
  |int j=>obtain⟨t',rfl⟩:=ry;exact ne_int (cC I q (congrArg not vS))
  |str j=>obtain⟨t',rfl⟩:=ry;exact PySem.EqMixed.ne_int_str (cC I q (by simp))
  |_=>exact absurd (show false=true from hs) ib
 |str i=>
  obtain⟨t,rfl⟩:=rx;cases y with
  |non=>cases ry;exact PySem.EqNone.ne_str_none (cC I q (by simp))
  |bl j=>cases ry;exact PySem.EqMixed.ne_str_bool (cC I q (by simp))
  |int j=>obtain⟨t',rfl⟩:=ry;exact PySem.EqMixed.ne_str_int (cC I q (by simp))
  |str j=>obtain⟨t',rfl⟩:=ry;exact ne_str (cC I q (congrArg not zS))
  |_=>exact absurd (show false=true from hs) ib
 |byt i=>
  obtain⟨t,rfl⟩:=rx;cases y with
  |byt j=>obtain⟨t',rfl⟩:=ry;exact W.ne_bytes (cC I q (congrArg not wS))
  |_=>exact absurd (show false=true from hs) ib
 |_=>cases y<;>exact absurd (show false=true from hs) ib
theorem iM:OpR X (jl .Lt) (rI0 λi j=> .bl (decide (i<j))):=nN λ_ _ _ _ _ _ _ q=>lt_int q
theorem jF:OpR X (jl .LtE) (rI0 λi j=> .bl (decide (i<=j))):=nN λ_ _ _ _ _ _ _ q=>le_int q
theorem A0f:OpR X (jl .Gt) (rI0 λi j=> .bl (decide (j<i))):=nN λ_ _ _ _ _ _ _ q=>gt_int q
theorem mN:OpR X (jl .GtE) (rI0 λi j=> .bl (decide (j<=i))):=nN λ_ _ _ _ _ _ _ q=>ge_int q
theorem xP:OpR X (jl .Is) (λx y H Q=>y= .non/\Q (.bl (decide (x= .non))) H):=by
 intro ir s σ H x y v u Q I rx ry h;obtain⟨rfl,q⟩:=h;cases ry;refine is_none_gen (cC I q ?_);cases x<;>first
  | (cases rx;rfl)
  | (obtain⟨t,rfl⟩:=rx;rfl)
theorem sM:OpR X (jl .IsNot) (λx y H Q=>y= .non/\Q (.bl (!decide (x= .non))) H):=by
 intro ir s σ H x y v u Q I rx ry h;obtain⟨rfl,q⟩:=h;cases ry;refine isnot_none_gen (cC I q ?_);cases x<;>first
  | (cases rx;rfl)
  | (obtain⟨t,rfl⟩:=rx;rfl)
theorem nomark (b:j7)(h:op≠ .In:=by decide)(h2:op≠ .NotIn:=by decide):rh op b=false:=by
 have e1:(op==CmpOp.In)=false:=by cases op<;>first|rfl|exact absurd rfl h
 have e2:(op==CmpOp.NotIn)=false:=by cases op<;>first|rfl|exact absurd rfl h2
 cases b<;>simp[rh,e1,e2]
theorem dE {op:CmpOp}{r:R2}(ho:OpR X (jl op) r)(ha:PE X a ta)(hb:PE X b tb)(hm:rh op b=false):PE X (.Compare a [op] [b] pos) (tOp r ta tb):=by intro ir s σ H Q I h;exact wpAny_Compare1 (uY ha hb I h λv u s2 x y H2 I2 rx ry q=>ho ir s2 σ H2 x y v u Q I2 rx ry q) hm
noncomputable def vM (t:TE):TT:=λσ H Q=>t σ H λx H'=> ∃k,x= .bl k/\Q k H'
theorem cI (ho:OpR X (jl op) r)(ha:PE X a ta)(hb:PE X b tb)(hm:rh op b=false):PT X (.Compare a [op] [b] pos) (vM (tOp r ta tb)):=by
 intro ir s σ H Q I h;refine yn (thn (ha ir s σ H _ I h) λv s1 ⟨x,H1,I1,r1,q1⟩=>thn (hb ir s1 σ H1 _ I1 q1) λu s2 ⟨y,H2,I2,r2,q2⟩=>
  thn (ho ir s2 σ H2 x y v u _ I2 r1 r2 q2) λc s3 ⟨z,H3,I3,r3,k,e,q3⟩=> ?_) hm
 subst e;cases r3;exact j8 ⟨H3,I3,q3⟩
noncomputable def A3x (r r':R2)(ta tb tc:TE):TE:=λσ H Q=>ta σ H λx H1=>tb σ H1 λy H2=>r x y H2 λz H3=> ∃k,z= .bl k/\
 (if k=true then tc σ H3 λw' H4=>r' y w' H4 Q else Q (.bl false) H3)
theorem tN (ho:OpR X (jl op) r)(ho':OpR X (jl op') r')(ha:PE X a ta)(hb:PE X b tb)(hc:PE X c tc)
  (hm:lastMarks [op,op'] [b,c]=false:=by with_unfolding_all rfl):PE X (.Compare a [op,op'] [b,c] pos) (A3x r r' ta tb tc):=by
 intro ir s σ H Q I h;refine Compare_chain (thn (ha ir s σ H _ I h) λv s1 ⟨x,H1,I1,r1,q1⟩=>chain_link (thn (hb ir s1 σ H1 _ I1 q1) λu s2 ⟨y,H2,I2,r2,q2⟩=>
  thn (ho ir s2 σ H2 x y v u _ I2 r1 r2 q2) λd s3 ⟨z,H3,I3,r3,k,e,q3⟩=> ?_)) hm
 subst e;cases r3;refine j8 ?_;cases k with
 |false=>exact ite_ff ⟨.bl false,H3,I3,rfl,q3⟩
 |true=>exact ite_tt (chain_last (thn (hc ir s3 σ H3 _ I3 q3) λw' s4 ⟨z',H4,I4,r4,q4⟩=>ho' ir s4 σ H4 y z' u w' Q I4 r2 r4 q4))
theorem oG:(gz:Nat)<2^63:=by rw[jh];decide
theorem fX (r:Vals [x] us):∃u,us=[u]/\RelV x u:=by
 cases r with
 |cons r1 r2=>cases r2;exact⟨_,rfl,r1⟩
theorem jX (r:Vals [x,y] us):∃u w',us=[u,w']/\RelV x u/\RelV y w':=by
 cases r with
 |cons r1 r2=>
  cases r2 with
  |cons r3 r4=>cases r4;exact⟨_,_,rfl,r1,r3⟩
theorem B4f:eO X (.builtin "abs") (λxs H Q=> ∃i,xs=[.int i]/\Q (.int (if i<0 then -i else i)) H):=by intro ir s σ H xs us Q I r h;obtain⟨i,rfl,q⟩:=h;obtain⟨u,rfl,t,rfl⟩:=fX r;exact call_abs_int λu tk=> ⟨.int (if i<0 then -i else i),H,I.tok _,⟨_,rfl⟩,q⟩
theorem B08 (hc:X.calm=true):eO X (.builtin "min") (λxs H Q=> ∃i j,xs=[.int i,.int j]/\Q (.int (if j<i then j else i)) H):=by
 intro ir s σ H xs us Q I r h;obtain⟨i,j,rfl,q⟩:=h;obtain⟨u,w',rfl,⟨t,rfl⟩,⟨t',rfl⟩⟩:=jX r;refine min_two_ints (I.ok.hd hc) λh' tk k=> ⟨_,H,I.kept k,?_,q⟩;by_cases hj:j<i
 ·rw[if_pos hj,if_pos hj];exact⟨_,rfl⟩
 ·rw[if_neg hj,if_neg hj];exact⟨_,rfl⟩
theorem zO:eO X (.type "int") (λxs H Q=>(∃i,xs=[.int i]/\Q (.int i) H)\/ ∃k,xs=[.bl k]/\Q (.int (if k then 1 else 0)) H):=by
 intro ir s σ H xs us Q I r h;rcases h with⟨i,rfl,q⟩| ⟨k,rfl,q⟩
 ·obtain⟨u,rfl,t,rfl⟩:=fX r;exact call_int_int ⟨.int i,H,I,⟨_,rfl⟩,q⟩
 ·obtain⟨u,rfl,r1⟩:=fX r;cases r1;exact call_int_bool ⟨.int (if k then 1 else 0),H,I.tok _,⟨_,rfl⟩,q⟩
theorem A9s:eO X (.builtin "divmod") (λxs H Q=> ∃i j,xs=[.int i,.int j]/\A07 i j/\∀p,H p=none->Q (.ref p) (upd H p (.tup [.int (i/j),.int (i%j)]))):=by intro ir s σ H xs us Q I r h;obtain⟨i,j,rfl,⟨h1,h2⟩,q⟩:=h;obtain⟨u,w',rfl,⟨t,rfl⟩,⟨t',rfl⟩⟩:=jX r;refine divmod_int (by omega) ?_ (.inl (xw (by omega)));rw[uw i (by omega),uz i (by omega)];have hn:H s.heap.objs.size=none:=I.hok.fresh (AY _);refine⟨.ref s.heap.objs.size,_,?_,rfl,q _ hn⟩;refine I.laid (λb o e=>AQ _ e) (AY _) ⟨by simp only[b4,b9];rw[jh];decide,[.int (i/j) s.toks,.int (i%j) (s.toks+1)],.cons ⟨_,rfl⟩ (.cons ⟨_,rfl⟩ .nil),?_⟩;exact⟨_,fu s.heap rfl,rfl,0,rfl⟩
structure ObjM (h:iw)(x dx C:gy)(mA:Str->Option gw):Prop where
 obj:h.get? x=some (W.instObj C dx)
 ns:h.Ns1 dx mA
 ne:dx≠x
theorem A3v {h:iw}{dx:gy}{mA:Str->Option gw}(n:h.Ns1 dx mA):∃od,h.get? dx=some od/\∀name,W.lookIn name od=some (mA name):=by
 obtain⟨o,es,ep,ho,hd,hk,_,hm⟩:=n;refine⟨o,ho,λname=> ?_⟩;have e:=hm name;unfold nsFind findBy at e;rw[←Array.find?_toList]at e;unfold W.lookIn;rw[hd];dsimp only
 split
 ·rename_i y q;rw[q]at e;exact congrArg some e
 ·rename_i q;rw[q]at e;have a:es.toList.any (·.refKey)=false:=by
   rw[List.any_eq_false];intro y hy;obtain⟨z,t,hkey⟩:=hk y (Array.mem_toList_iff.mp hy);simp[Aw.refKey,hkey]
  have a':¬es.toList.any (·.refKey)=true:=by rw[a];exact ib
  rw[if_neg a'];exact congrArg some e
theorem ObjM.look (I:ObjM h x dx C mA):∃od,W.InstAt h x (W.instObj C dx) C (some od)/\∀name,W.lookIn name od=some (mA name):=
 let ⟨od,ho,hl⟩:=A3v I.ns
 ⟨od,⟨I.obj,rfl,rfl,ho⟩,hl⟩
theorem RelO.some_of (r:RelO (some v) o):∃u,o=some u/\RelV v u:=by
 cases o with
 |none=>exact(show False from r).elim
 |some u=>exact⟨u,rfl,r⟩
theorem A21 (hok:AZ P w H h)(e:H a=some (.ins C dx fs)):∃mA,ObjM h a dx C mA/\(∀f,RelO (fs.lookup f) (mA f))/\PySem.Within mA (fs.map (·.1))/\fs.length<=1000/\H dx=some (.own a):=by obtain⟨d,z,ne,ob,mA,n,r,q⟩:=(show ObjOk P w H h a (.ins C dx fs)from hok a _ e);exact⟨mA,⟨ob,n,ne⟩,r,q,z,d⟩
structure Cls (K:W.Frag)(C:gy):Prop where
 pg:W.plainGet K C Str.empty=true
 hd:W.hasDictIn K C=true
 po:W.plainOver K C=true
 sa:W.findIn K (.ref C) "__setattr__" =some (some (.builtin "object.__setattr__"))
theorem Cls.get {K:W.Frag}{C:gy}(c:Cls K C)(f:Str):W.plainGet K C f=true:=c.pg
inductive TyOf (K:W.Frag) (H:Hp):V->gw->Prop where
 |non:TyOf K H .non (.type "NoneType")
 |bl (x:Bool):TyOf K H (.bl x) (.type "bool")
 |int (i:Int):TyOf K H (.int i) (.type "int")
 |str (x:Str):TyOf K H (.str x) (.type "str")
 |flt (x:UInt64):TyOf K H (.flt x) (.type "float")
 |lst {a:gy} {xs:List V} (e:H a=some (.lst xs)):TyOf K H (.ref a) (.type "list")
 |frz {a:gy} {o:Obj} {xs:List V} (e:H a=some (.frz o (.lst xs))):TyOf K H (.ref a) (.type "list")
 |tup {a:gy} {xs:List V} (e:H a=some (.tup xs)):TyOf K H (.ref a) (.type "tuple")
 |dK {a:gy} {kvs:List (Key×V)} (e:H a=some (.dK kvs)):TyOf K H (.ref a) (.type "dict")
 |dT {a:gy} {kvs:List (List Key×V)} (e:H a=some (.dT kvs)):TyOf K H (.ref a) (.type "dict")
 |ins {a C dx:gy} {fs:List (Str×V)} (e:H a=some (.ins C dx fs)) (cl:Cls K C) (ha:W.findIn K (.ref C) "__class__" =some (some (.builtin "object.__class__")))
   (hn:W.specialIn K (.builtin "object.__class__") "__get__" =some (some (.builtin "getset_descriptor.__get__"))) (htk:W.takesIn K (.builtin "object.__class__")=some true)
   (hm:W.mroIn K C (.type "object")=some true):TyOf K H (.ref a) (.ref C)
theorem A67 (I:Inv X ir σ H s)(rx:RelV x u)(ty:TyOf X.K H x t):∃P,W.KitX X.K u t P/\P s.heap/\u≠ .builtin "__main__.__loader__#opaque":=by
 cases ty with
 |non=>cases (show u=jf from rx);exact⟨_,W.kitx_none,kf,(λz=>nomatch z)⟩
 |bl y=>cases (show u=m7 y from rx);exact⟨_,W.kitx_bool,kf,(λz=>nomatch z)⟩
 |int i=>obtain⟨t,q⟩:=(show∃t,u=Ar i t from rx);cases q;exact⟨_,W.kitx_int,kf,(λz=>nomatch z)⟩
 |str y=>obtain⟨t,q⟩:=(show∃t,u=As y t from rx);cases q;exact⟨_,W.kitx_str,kf,(λz=>nomatch z)⟩
 |flt y=>obtain⟨t,q⟩:=(show∃t,u=gw.float y t from rx);cases q;exact⟨_,W.kitx_float,kf,(λz=>nomatch z)⟩
 | @lst a xs ea=>
  cases (show u=h8 a from rx);obtain⟨_,_,n,_,h1⟩:=(show ObjOk X.prog X.w H s.heap a (.lst xs)from I.hok a _ ea);exact⟨_,W.kitx_list,⟨_,h1,rfl⟩,(λz=>nomatch z)⟩
 | @frz a ob xs ea=>
  cases (show u=h8 a from rx);obtain⟨_,_,_,n,_,h1⟩:=(show ObjOk X.prog X.w H s.heap a (.frz ob (.lst xs))from I.hok a _ ea);exact⟨_,W.kitx_list,⟨_,h1,rfl⟩,(λz=>nomatch z)⟩
 | @tup a xs ea=>
  cases (show u=h8 a from rx);obtain⟨_,_,_,p⟩:=(show ObjOk X.prog X.w H s.heap a (.tup xs)from I.hok a _ ea);obtain⟨o,h1,h2,_⟩:=p;exact⟨_,W.kitx_tuple,⟨o,h1,h2⟩,(λz=>nomatch z)⟩
 | @dK a kvs ea=>
  cases (show u=h8 a from rx);obtain⟨_,_,vs,_,p⟩:=(show ObjOk X.prog X.w H s.heap a (.dK kvs)from I.hok a _ ea);obtain⟨o,es,ep,h1,h2,_⟩:=p;exact⟨_,W.kitx_dict,⟨o,h1,h2.1⟩,(λz=>nomatch z)⟩
 | @dT a kvs ea=>
  cases (show u=h8 a from rx);obtain⟨_,_,xs,_,o,es,ep,h1,h2,_⟩:=(show ObjOk X.prog X.w H s.heap a (.dT kvs)from I.hok a _ ea);exact⟨_,W.kitx_dict,⟨o,h1,h2.1⟩,(λz=>nomatch z)⟩
 | @ins a C dx fs ea cl ha hn htk hm=>
  cases (show u=h8 a from rx);obtain⟨mA,O,_⟩:=A21 I.hok ea;obtain⟨od,J,_⟩:=O.look;exact⟨_,(W.kitx_own (cl.get _) cl.hd ha hn htk hm),J,(λz=>nomatch z)⟩
theorem A8p (I:Inv X ir σ H s)(rx:RelV x u)(ty:TyOf X.K H x t)(e:W.kitOne X.K t c=some b)(h:∀tk,Q (.bool b) {s with toks:=tk}):
  ia (iu X.prog X.w) A (call (.builtin "isinstance") [u,c]) Q E s:=
 let ⟨_,z,p,n⟩:=A67 I rx ty
 W.kia_one z I.kIn p e n h
structure Room (k:Nat)(A:kb):Prop where
 hd:A.handled=none
 dp:A.depth+3*k+5<recursionLimit
 un:A.units+16*k+200<jt
 gd:A.guards=some []
theorem Room.mono (r:Room k A)(h:j<=k):Room j A:=⟨r.hd,by have:=r.dp;omega,by have:=r.un;omega,r.gd⟩
theorem Room.deeper (r:Room (k+1) A)(env:Env):Room k (A.deeper env):=
 ⟨r.hd,by have:=r.dp;show A.depth+1+3*k+5<_;omega,by have:=r.un;show A.units+3+16*k+200<_;omega,r.gd⟩
theorem Room.depth (r:Room k A):A.depth<recursionLimit:=by have:=r.dp;omega
theorem Room.units (r:Room k A):A.units+64<jt:=by have:=r.un;omega
noncomputable def iF:TA:=λ_ H Q=>Q [] H
noncomputable def cD (ta:TE)(tr:TA):TA:=λσ H Q=>ta σ H λx H1=>tr σ H1 λxs H2=>Q (x::xs) H2
theorem aB:PA X [] iF:=λ_ _ _ _ H Q I h=>vz ⟨[],H,I,.nil,h⟩
theorem bG (ha:PE X e te)(hr:PA X es t)(hs:jo (e::es) X.env=(false,mv e X.env)::jo es X.env:=by rfl):PA X (e::es) (cD te t):=by intro pos ir s σ H Q I h;rw[hs];show ia _ _ (spliced ((false,mv e X.env)::wt pos (jo es X.env))) _ _ s;refine nc (thn (ha ir s σ H _ I h) λu s1 ⟨x,H1,I1,r1,q1⟩=> ?_);exact thn (hr pos ir s1 σ H1 _ I1 q1) λus s2 ⟨xs,H2,I2,r2,q2⟩=> ⟨x::xs,H2,I2,.cons r1 r2,q2⟩
noncomputable def jZ (t:TA):TE:=λσ H Q=>t σ H λxs H1=>xs.length<=gz/\∀p,H1 p=none->Q (.ref p) (upd H1 p (.tup xs))
noncomputable def qT (t:TA):TE:=λσ H Q=>t σ H λxs H1=>xs.length<=gz/\∀p,H1 p=none->Q (.ref p) (upd H1 p (.lst xs))
theorem cL (h:PA X es t):PE X (.Tuple es x1 pos) (jZ t):=by intro ir s σ H Q I hq;refine wpAny_Tuple_spliced (thn (h pos ir s σ H _ I hq) λus s1 ⟨xs,H1,I1,r,z,q⟩=> ⟨by rw[←r.length];exact z,?_⟩);have hf:H1 s1.heap.objs.size=none:=I1.hok.fresh (AY _);refine⟨.ref s1.heap.objs.size,upd H1 s1.heap.objs.size (.tup xs),I1.laid (t':=s1.toks) (λb u e=>AQ _ e) (AY _) ?_,rfl,q _ hf⟩;exact⟨z,us,r,⟨_,fu _ rfl,rfl,_,rfl⟩⟩
theorem eG (h:PA X es t):PE X (.List es pos) (qT t):=by intro ir s σ H Q I hq;refine wpAny_List_spliced (thn (h pos ir s σ H _ I hq) λus s1 ⟨xs,H1,I1,r,z,q⟩=> ⟨by rw[←r.length];exact z,?_⟩);have hf:H1 s1.heap.objs.size=none:=I1.hok.fresh (AY _);refine⟨.ref s1.heap.objs.size,upd H1 s1.heap.objs.size (.lst xs),I1.laid (t':=s1.toks) (λb u e=>AQ _ e) (AY _) ?_,rfl,q _ hf⟩;exact⟨z,us,0,r,fu _ rfl⟩
noncomputable abbrev Sp:=List V->Hp->VK->XK->Prop
noncomputable abbrev CXT:=List Env->Hp->h7->XK->gw->h7->Prop
structure nX (P:il)(w:i6)(K:W.Frag)(mg:Str->Option gw)(base:iw)(A:kb)(outer:List Env)(s:h7)(H:Hp):Prop where
 frames:A.frames=some outer
 mod:Mod K mg base
 bs:∀b o,base.get? b=some o->s.heap.get? b=some o/\H b=none
 bsz:base.objs.size<=s.heap.objs.size
 funs:s.heap.FunFrames base outer
 frf:∀b∈frs outer,H b=none
 hok:AZ P w H s.heap
 bare:vw s.gens
noncomputable def CE (outer:List Env)(P:il)(w:i6)(H:Hp)(s:h7)(Q:VK)(u:gw)(s':h7):Prop:=
 ∃v H',s'.os=s.os/\vw s'.gens/\Un (frs outer) [] H H' s.heap s'.heap/\AZ P w H' s'.heap/\RelV v u/\Q v H'
noncomputable def CR (CX:CXT)(outer:List Env)(P:il)(w:i6)(H:Hp)(s:h7)(Q:VK)(E:XK)(r:Result)(s':h7):Prop:=
 match r with
 | .ok (.ret u)=>CE outer P w H s Q u s'
 | .ok _=>False
 | .error e=>CX outer H s E e s'
structure gN (P:il)(w:i6)(K:W.Frag)(mg:Str->Option gw)(base:iw)(CX:CXT)(k:Nat)(f:gy)(fd:ou)(ps:List Str)(sp:Sp):Prop where
 len:∀vs H Q E,sp vs H Q E->vs.length=ps.length
 run:∀(A:kb)(outer:List Env)(s:h7)(H:Hp)(args:Args)(us:List gw)(vs:List V)(Q:VK)(E:XK),Room k A->nX P w K mg base A outer s H->zh s fd args (ps.zip us)->Vals vs us->sp vs H Q E->
  qc (iu P w) A (.call (.ref f) args) (CR CX outer P w H s Q E) s
theorem Inv.env0 (I:Inv X ir σ H s):nX X.prog X.w X.K X.mg X.base X.A X.stack s H:=
 ⟨I.ok.frames,I.ok.mod,I.bs,gc I.ok.bsz I.sz,I.stack,I.stkFree,I.hok,I.bare⟩
theorem Inv.after (I:Inv X ir σ H s)(h:CE X.stack X.prog X.w H s Q u s'):EP X ir σ Q u s':=by obtain⟨v,H',os,bare,un,hok,r,q⟩:=h;obtain⟨hh,g,d,t,os'⟩:=s';obtain rfl:os'=s.os:=os;exact⟨v,H',I.call (h':=hh) (g':=g) (d':=d) (t':=t) (ch:=[]) un hok bare (λb z=>absurd z (by simp)),r,q⟩
noncomputable def mQ (sp:Sp)(dvs:List V)(E:XK)(t:TA):TE:=λσ H Q=>t σ H λvs H1=>sp (vs++dvs) H1 Q E
noncomputable def Binds (K:W.Frag)(fd:ou)(ps:List Str)(ds:List gw):Prop:=
 ∀(s:h7)(us:List gw),K.In s.heap->(us++ds).length=ps.length->zh s fd ⟨us,[]⟩ (ps.zip (us++ds))
theorem Binds.all {K:W.Frag}{fd:ou}{ps:List Str}(h:∀us:List gw,us.length=ps.length->bindArgs fd ⟨us,[]⟩=pure (ps.zip us)):Binds K fd ps []:=λs us _ hl=>by
 rw[ak]at hl⊢;exact .of_eq (h us hl)
noncomputable def qE (CX:CXT)(X:Cx)(E:XK):Prop:=∀(ir:List (gy×Obj))(σ:St)(H:Hp)(s:h7)(e:gw)(s':h7),Inv X ir σ H s->CX X.stack H s E e s'->X.xe e s'
theorem B1m (F:gN X.prog X.w X.K X.mg X.base CX k f fd ps sp)(hr:Room k X.A)(hb:Binds X.K fd ps ds)(hd:Vals dvs ds)(hx:qE CX X E)
  (I:Inv X ir σ H s)(r:Vals vs us)(h:sp (vs++dvs) H Q E):ia (iu X.prog X.w) X.A (call (.ref f) us) (EP X ir σ Q) X.xe s:=by
 have r2:Vals (vs++dvs) (us++ds):=r.append hd;have hl:(us++ds).length=ps.length:=by rw[←r2.length];exact F.len _ _ _ _ h
 refine wpAny_call (ng (F.run X.A X.stack s H ⟨us,[]⟩ (us++ds) (vs++dvs) Q E hr I.env0 (hb s us I.kIn hl) r2 h) λr s' hq=> ?_);cases r with
 |error e=>exact hx ir σ H s e s' I hq
 |ok fl=>
  cases fl with
  |ret u=>exact I.after hq
  |next=>exact m9 hq
  |brk=>exact m9 hq
  |cont=>exact m9 hq
theorem A31 (F:gN X.prog X.w X.K X.mg X.base CX k f fd ps sp)(hr:Room k X.A)(hg:Gl X x)(hm:X.mg x=some (.ref f))(hk:W.keepIn X.K (.ref f)=true)(hb:Binds X.K fd ps ds)(hd:Vals dvs ds)(hx:qE CX X E)
  (ha:PA X (e::es) t)(hdb:(x==("__debug__":Str))=false:=by decide)(he:jo (e::es) X.env=(false,mv e X.env)::jo es X.env:=by rfl)(hpl:(wt pos (jo es X.env)).any (·.1)=false:=by rfl):
  PE X (.Call (.Name x p) (e::es) [] pos) (mQ sp dvs E t):=by
 intro ir s σ H Q I h;refine pk (A1c I hg hm ?_ hdb);refine W.callWith_K (h₀:=X.base) I.ok.mod.kin hk (thn (ha pos ir s σ H _ I h) λus s1 ⟨vs,H1,I1,r,q⟩=> ⟨I1.kIn,?_⟩) he hpl;exact B1m F hr hb hd hx I1 r q
structure iJ (N P:List Str)(sc:rl):Prop where
 kind:sc.kind= .function
 co:sc.isCoroutine=false
 gen:sc.isGenerator=false
 nd:N.Nodup
 pre:N.take P.length=P
 par:∀x∈P,sc.names.lookup x=some .local\/sc.names.lookup x=some .cell
 nofree:∀y∈sc.names,y.2≠ .free
theorem zD {qx:Str->Option i7}{x:Str}:∀{binds:List (Str×gw)}{m:Str->Option gw},(∀v,(x,v)∉binds)->bindL qx binds m x=m x
 | [],_,_=>rfl
 | (n,v)::r,m,h=>by
  unfold bindL;rw[zD λw hw=>h w (AW _ hw)]
  split
  ·have:x≠n:=by rintro rfl;exact h v AX
   simp[this]
  ·rfl
theorem yL {qx:Str->Option i7}{x:Str}:∀{binds:List (Str×gw)}{m:Str->Option gw},(∀v,(x,v)∉binds)->bindC qx binds m x=m x
 | [],_,_=>rfl
 | (n,v)::r,m,h=>by
  unfold bindC;rw[yL λw hw=>h w (AW _ hw)]
  split
  ·rfl
  ·have:x≠n:=by rintro rfl;exact h v AX
   simp[this]
theorem A04 {qx:Str->Option i7}{x:Str}{v:gw}:∀{P:List Str}{vs:List gw}{i:Nat}{m:Str->Option gw},P.Nodup->P[i]?=some x->vs[i]?=some v->qx x=some .local->
  bindL qx (P.zip vs) m x=some v
 | [],_,_,_,_,h,_,_=>by simp at h
 |_::_,[],_,_,_,_,h,_=>by simp at h
 |p::P,w::vs,0,m,nd,h1,h2,hk=>by
  simp at h1 h2;subst h1;subst h2;show bindL qx ((p,w)::P.zip vs) m p=_;unfold bindL;rw[zD λv hv=>(d9.mp nd).1 (fe hv).1,if_pos hk];simp
 |p::P,w::vs,i+1,m,nd,h1,h2,hk=>by
  show bindL qx ((p,w)::P.zip vs) m x=_;unfold bindL;exact A04 (i:=i) (d9.mp nd).2 (by simpa using h1) (by simpa using h2) hk
theorem A2d {qx:Str->Option i7}{x:Str}{v:gw}:∀{P:List Str}{vs:List gw}{i:Nat}{m:Str->Option gw},P.Nodup->P[i]?=some x->vs[i]?=some v->qx x≠some .local->
  bindC qx (P.zip vs) m x=some v
 | [],_,_,_,_,h,_,_=>by simp at h
 |_::_,[],_,_,_,_,h,_=>by simp at h
 |p::P,w::vs,0,m,nd,h1,h2,hk=>by
  simp at h1 h2;subst h1;subst h2;show bindC qx ((p,w)::P.zip vs) m p=_;unfold bindC;rw[yL λv hv=>(d9.mp nd).1 (fe hv).1,if_neg hk];simp
 |p::P,w::vs,i+1,m,nd,h1,h2,hk=>by
  show bindC qx ((p,w)::P.zip vs) m x=_;unfold bindC;exact A2d (i:=i) (d9.mp nd).2 (by simpa using h1) (by simpa using h2) hk
noncomputable def start (N:List Str)(vs:List V):St:=vs.map some++List.replicate (N.length - vs.length) none
noncomputable def fC (CX:CXT)(P:il)(w:i6)(K:W.Frag)(mg:Str->Option gw)(base:iw)(N:List Str)(qual:Str)(scope:rl)(f:gy)(cd:gw)(A:kb)(outer:List Env)(s:h7)(H:Hp)(E:XK):Cx where
 prog:=P
 w:=w
 K:=K
 mg:=mg
 base:=base
 A:=A.deeper (sk qual scope s.heap.objs.size f cd)
 N:=N
 s₀:=s
 H₀:=H
 env:=sk qual scope s.heap.objs.size f cd
 outer:=outer
 stack:=sk qual scope s.heap.objs.size f cd::outer
 ex:=[]
 calm:=true
 fn:=λ_=>true
 pn:=[]
 xe:=λe s'=>ia (iu P w) (A.deeper (sk qual scope s.heap.objs.size f cd)) (leaving (sk qual scope s.heap.objs.size f cd) e) (λ_ s''=>CX outer H s E e s'') (λe' s''=>CX outer H s E e' s'') s'
theorem zQ {sc:rl}{n:Nat}{x:Str}(h:sc.names.lookup x=some .cell):∃c,(ko n sc.names []).lookup x=some c:=by have q:=W.cellsFrom_some sc.names n [] (.inl h);exact j3.mp q
theorem A65 {CX:CXT}{P:il}{w:i6}{K:W.Frag}{mg:Str->Option gw}{base:iw}{N ps:List Str}{qual:Str}{scope:rl}{f:gy}{cd:gw}{A:kb}{outer:List Env}{s s1:h7}{H:Hp}{E:XK}{us:List gw}{vs:List V}
  (S:iJ N ps scope)(hd:A.handled=none)(e0:nX P w K mg base A outer s H)(hl:vs.length=ps.length)(r:Vals vs us)
  (x:InCallC s s.heap.objs.size (bindL (sk qual scope s.heap.objs.size f cd).kindOf (ps.zip us) λ_=>none) (ko (s.heap.objs.size+1) scope.names []) (bindC (sk qual scope s.heap.objs.size f cd).kindOf (ps.zip us) λ_=>none) s1):
  Inv (fC CX P w K mg base N qual scope f cd A outer s H E) [] (start N vs) H s1:=by
 have hpl:ps.length<=N.length:=by have:=congrArg kq S.pre;rw[cm]at this;omega
 obtain⟨h1,tk,rfl,hk⟩:=x.done;have noA:∀b:gy,b∉(fC CX P w K mg base N qual scope f cd A outer s H E).ex:=λb z=>absurd (show b∈([]:List gy)from z) (by simp);refine⟨⟨e0.mod,S.kind,rfl,rfl,AY _,λy z c h1 h2=> ?_,λy hy=> ?_,λy c _ h=> ?_,λ_=>hd,kb.frames_deeper e0.frames,.inr ⟨rfl,rfl⟩,λb z=>absurd z (noA b),e0.bs,e0.bsz,λb _ _=>noA b,λb z=>absurd z (noA b),e0.funs,e0.frf⟩,
  rfl,e0.bare,Un.kept hk,⟨_,x.toInCall.ns,λi y v h1 h2 h3=> ?_⟩,λy c h=> ⟨_,x.cell y c h⟩,e0.hok.fresh (AY _),λy c h=> ?_,λp hp=>absurd (show p∈([]:List (gy×Obj))from hp) (by simp),e0.hok.kept hk,?_⟩
 ·exact name_of_addr x.apart (j6 h1) (j6 h2)
 ·have hy:scope.names.lookup y=some .cell\/scope.names.lookup y=some .free:=hy;rcases hy with hy|hy
  ·exact zQ hy
  ·exact absurd rfl (S.nofree _ (j6 hy))
 ·exact f9 (x.above y c (j6 h))
 ·have hi:i<vs.length:=by
   unfold start at h2;by_cases hi:i<vs.length
   ·exact hi
   ·rw[n6 (by simpa using hi)]at h2;rw[xf]at h2
    split at h2<;>cases h2
  have ha:vs[i]?=some v:=by
   unfold start at h2;rw[md (by simpa using hi),br]at h2;cases e:vs[i]? with
   |none=>rw[e]at h2;cases h2
   |some a=>rw[e]at h2;cases h2;rfl
  obtain⟨u,hu,rv⟩:=r.get ha;have hp:ps[i]?=some y:=by
   rw[←S.pre,List.getElem?_take_of_lt (by omega)];exact h1
  have ndP:ps.Nodup:=by rw[←S.pre];exact S.nd.sublist (List.take_sublist _ _)
  refine⟨u,rv,?_⟩;rcases S.par y (d3 hp)with k|k
  ·exact .inl ⟨k,A04 ndP hp hu k⟩
  ·obtain⟨c,e⟩:=zQ (n:=s.heap.objs.size+1) k;refine .inr ⟨.inl k,c,e,?_⟩;have q:=x.cell y c e;rw[A2d ndP hp hu (by show scope.names.lookup y≠_;rw[k];decide)]at q;exact q
 ·exact e0.hok.fresh (f9 (x.above y c (j6 h)))
 ·unfold start;show _=N.length;rw[bz,b8,yo];omega
theorem B0d {CX:CXT}{P:il}{w:i6}{K:W.Frag}{mg:Str->Option gw}{base:iw}{k:Nat}{f:gy}{name qual:Str}{params:Arguments}{body:List je}{scope:rl}{dV kV doc pm cdv ct oc:gw}{an od:Option gy}
  {osl:Array (Option gw)}{N ps:List Str}{sp:Sp}(lk:K.lookup f=some ⟨oc,od,.func (W.fnOf name qual params body scope dV kV doc pm an cdv ct),osl⟩)(hcd:W.codeIn K cdv qual=true)(S:iJ N ps scope)
  (len:∀vs H Q E,sp vs H Q E->vs.length=ps.length)
  (hbody:∀(A:kb)(outer:List Env)(s:h7)(H:Hp)(vs:List V)(Q:VK)(E:XK),Room k (A.deeper (sk qual scope s.heap.objs.size f cdv))->sp vs H Q E->
   ∃t,A0 (fC CX P w K mg base N qual scope f cdv A outer s H E) body t/\t {nx:=λ_ H'=>Q .non H',rt:=Q} (start N vs) H):
  gN P w K mg base CX (k+1) f (W.fnOf name qual params body scope dV kV doc pm an cdv ct) ps sp:=by
 refine⟨len,λA outer s H args us vs Q E hr e0 hb r hsp=> ?_⟩;have hl:=len _ _ _ _ hsp;have KX:K.In s.heap:=e0.mod.kin.keeps λb o e=>(e0.bs b o e).1;have lim:s.heap.NoLimit:=e0.mod.nolimit.keeps λb o e=>(e0.bs b o e).1;have hkind:∀y∈ps.zip us,scope.names.lookup y.1=some .local\/(scope.names.lookup y.1=some .cell/\((ko (s.heap.objs.size+1) scope.names []).lookup y.1).isSome=true):=λ⟨n,v⟩ hy=>by
  rcases S.par n (fe hy).1 with q|q
  ·exact .inl q
  ·exact .inr ⟨q,W.cellsFrom_some _ _ _ (.inl q)⟩
 refine codeAny_call_function hr.depth (KX _ _ lk) rfl S.co S.gen rfl (W.codeRec_of KX hcd) (hb _ _ _ _ ?_);refine wpAny_newFunctionEnv_cells S.kind hkind λenv he s1 x=> ?_;subst he;refine⟨lim.keeps x.toInCall.keep,codeAny_func ?_⟩;obtain⟨t,ht,hq⟩:=hbody A outer s H vs Q E (hr.deeper _) hsp;have I:Inv (fC CX P w K mg base N qual scope f cdv A outer s H E) [] (start N vs) H s1:=A65 S hr.hd e0 hl r x;refine m8 (ht [] s1 (start N vs) H _ I hq) (λfl s' hs=> ?_) λe s' hs=>hs;have fin:∀{σ':St}{H':Hp}{v:V}{u:gw},Inv (fC CX P w K mg base N qual scope f cdv A outer s H E) [] σ' H' s'->RelV v u->Q v H'->CE outer P w H s Q u s':=
  fun{σ' H' v u} J rv q=> ⟨v,H',J.os,J.bare,J.base,J.hok,rv,q⟩
 cases fl with
 |ret u=>
  obtain⟨v,σ',H',J,rv,q⟩:=hs;exact fin J rv q
 |next=>
  obtain⟨σ',H',J,q⟩:=hs;exact fin (v:=V.non) (u:=jf) J rfl q
 |brk=>
  obtain⟨_,_,_,q⟩:=hs;exact m9 q
 |cont=>
  obtain⟨_,_,_,q⟩:=hs;exact m9 q
section
variable {X:Cx}{x:Str}{p pos:Pos}{e:j7}{es:List j7}{t:TA}{id T:String}{r:List V->Hp->VK->Prop}
noncomputable def tCB (r:List V->Hp->VK->Prop)(t:TA):TE:=λσ H Q=>t σ H λvs H1=>r vs H1 Q
theorem bJ (hc:eO X (.builtin id) r)(hg:Gl X x)(hm:X.mg x=none)(hv:mq x=some (.builtin id))(ha:PA X (e::es) t)(hn:x≠ "__name__":=by decide)(hdb:(x==("__debug__":Str))=false:=by decide)
  (he:jo (e::es) X.env=(false,mv e X.env)::jo es X.env:=by rfl)(hpl:(wt pos (jo es X.env)).any (·.1)=false:=by rfl):PE X (.Call (.Name x p) (e::es) [] pos) (tCB r t):=by
 intro ir s σ H Q I h;refine pk (iP I hg hm hv ?_ hn hdb);exact PyProof.Rows.callWith_builtin1 (thn (ha pos ir s σ H _ I h) λus s1 ⟨vs,H1,I1,r1,q1⟩=>hc ir s1 σ H1 vs us Q I1 r1 q1) he hpl
theorem fK (hc:eO X (.type T) r)(hg:Gl X x)(hm:X.mg x=none)(hv:mq x=some (.type T))(ha:PA X (e::es) t)(hn:x≠ "__name__":=by decide)(hdb:(x==("__debug__":Str))=false:=by decide)
  (he:jo (e::es) X.env=(false,mv e X.env)::jo es X.env:=by rfl)(hpl:(wt pos (jo es X.env)).any (·.1)=false:=by rfl):PE X (.Call (.Name x p) (e::es) [] pos) (tCB r t):=by
 intro ir s σ H Q I h;refine pk (iP I hg hm hv ?_ hn hdb);exact j9 (thn (ha pos ir s σ H _ I h) λus s1 ⟨vs,H1,I1,r1,q1⟩=>hc ir s1 σ H1 vs us Q I1 r1 q1) he hpl
end
end L2
namespace HT
open PySem PyProof.Rows
noncomputable def lexLt:List Int->List Int->Bool
 | [],[]=>false
 | [],_::_=>true
 |_::_,[]=>false
 |x::xs,y::ys=>if x=y then lexLt xs ys else decide (x<y)
theorem lexLt_cons (x y:Int)(xs ys:List Int):lexLt (x::xs) (y::ys)=if x=y then lexLt xs ys else decide (x<y):=rfl
theorem B10:lexLt [] []=false:=rfl
theorem B0y (y:Int)(ys:List Int):lexLt [] (y::ys)=true:=rfl
theorem B3l (x:Int)(xs:List Int):lexLt (x::xs) []=false:=rfl
theorem B34 (A:kb)(s:h7)(a:Int)(t:Tok)(c:Int)(u:Tok):∃e,i5 A s (.int a t) (.int c u) e/\(e=true↔a=c):=
 ⟨(a==c),nh a t c u,by simp⟩
theorem B3w (A:kb)(s:h7)(a:Int)(t:Tok)(c:Int)(u:Tok)(prog:il)(w:i6)(E:gw->h7->Prop)(Q:gw->h7->Prop)(h:Q (.bool (decide (a<c))) s):
  ia (iu prog w) A (richCompare .Lt (.int a t) (.int c u)) Q E s:=
 (PyProof.Rows.lt_int h:ia (iu prog w) A (jl .Lt (.int a t) (.int c u)) Q E s)
section
open PySem.SeqAt
open PySem.AutoSeq1 (wpAny_loadPart')
open PySem.MeetsSeq PySem.MeetsSeq2 PySem.MeetsSeq3
theorem A9y (l b:gy)(items items2:Array gw)(n n2:Nat)(dd dd2:Option gy)(sl sl2:Array (Option gw))(ns ms:List Int)(hi:m4 items.toList ns)(hj:m4 items2.toList ms):
  Meets (ic.«tuple.__lt__» ⟨[.ref l,.ref b],[]⟩)
   (λ_ R s=>s.heap.get? l=some {cls:=.type "tuple",dict:=dd,data:=.seq items n,slots:=sl}/\s.heap.get? b=some {cls:=.type "tuple",dict:=dd2,data:=.seq items2 n2,slots:=sl2}/\
    R (.ok (.ret (.bool (lexLt ns ms)))) s):=
 .of_wp λprog w A R s h=>by
  obtain⟨hp,g,d,tk,os⟩:=s;obtain⟨hl,hb,h⟩:=h;have f2:=wu;have z1:items.size=ns.length:=by rw[←hi.length];simp
  have z2:items2.size=ms.length:=by rw[←hj.length];simp
  wp_walk using jn hl,jn hb,og _ (λrest b s'=>b.1=none/\s'=⟨hp,g,d,tk,os⟩/\∃(vs ws:List gw)(ns' ms':List Int),rest=vs.zip ws/\
   m4 vs ns'/\m4 ws ms'/\ns'.length+items2.size=ms'.length+items.size/\R (.ok (.ret (.bool (lexLt ns' ms')))) ⟨hp,g,d,tk,os⟩) _
  case turn=>
   rintro⟨y,x⟩ rest b s' ⟨hb',rfl,vs,ws,ns',ms',hz,hvi,hwi,rg,hR⟩;cases hvi with
   |nil=>rw[List.zip_nil_left]at hz;cases hz
   |cons a t hvi'=>
    cases hwi with
    |nil=>rw[List.zip_nil_right]at hz;cases hz
    |cons c u hwi'=>
     rw[ft]at hz;injection hz with hyx hrest
     injection hyx with hy hx;subst hy hx;rw[lexLt_cons]at hR;simp only[b4]at rg;obtain⟨e,he,hiff⟩:=B34 A.in1 ⟨hp,g,d,tk,os⟩ a t c u;refine AN (he prog w _ _ ?_);cases e with
     |true=>
      rw[if_pos (hiff.mp rfl)]at hR
      wp_walk
      exact⟨rfl,rfl,_,_,_,_,hrest,hvi',hwi',by omega,hR⟩
     |false=>
      rw[if_neg (λq=>absurd (hiff.mpr q) ib)]at hR;have hri:=B3w A.in1 ⟨hp,g,d,tk,os⟩ a t c u prog w
      wp_walk using hri
      exact⟨_,rfl,by simpa using hR⟩
  case fin=>
   rintro⟨b1,b2⟩ s' ⟨hb',rfl,vs,ws,ns',ms',hz,hvi,hwi,rg,hR⟩;simp only at hb';subst hb';have hv:lexLt ns' ms'=decide (items.size<items2.size):=by
    cases hvi with
    |nil=>
     cases hwi with
     |nil=>
      simp only[b9]at rg;rw[B10];exact(AU (by omega)).symm
     |cons c u hw=>
      simp only[b9,b4]at rg;rw[B0y];exact(AS (by omega)).symm
    |cons a t hv=>
     cases hwi with
     |nil=>
      simp only[b9,b4]at rg;rw[B3l];exact(AU (by omega)).symm
     |cons c u hw=>
      rw[ft]at hz;cases hz
   rw[hv]at hR
   wp_walk
   exact⟨_,rfl,by simpa[ic.Tuple.tupleCompareSizes]using hR⟩
  case h=>
   exact⟨rfl,rfl,items.toList,items2.toList,ns,ms,rfl,hi,hj,by omega,h⟩
end
theorem lt_tupInts (hl:xc s.heap l items)(hb:xc s.heap b items2)(hi:m4 items.toList ns)(hj:m4 items2.toList ms)
  (hu:A.units<jt)(h:Q (.bool (lexLt ns ms)) s):ia (iu prog w) A (jl .Lt (.ref l) (.ref b)) Q E s:=by
 obtain⟨⟨cls,dd,data,sl⟩,ho,hc,n,hd⟩:=id hl;obtain⟨⟨cls2,dd2,data2,sl2⟩,ho2,hc2,n2,hd2⟩:=id hb;simp only at hc hd hc2 hd2;subst hc hd hc2 hd2;exact richCompare_meets_room (op:=.Lt) ⟨_,ho,rfl⟩ ⟨_,ho2,rfl⟩ PySem.F.slot_tuple_lt PySem.F.entry_tuple_lt (PySem.F.args_tuple_lt_2 _ _) (A9y l b items items2 n n2 dd dd2 sl sl2 ns ms hi hj)
  ⟨ho,ho2,show m7 (lexLt ns ms)≠gw.notImplemented/\Q (.bool (lexLt ns ms)) s from⟨(λx=>nomatch x),h⟩⟩ hu
theorem cat_tup (ht:xc s.heap t vs.toArray)(hb:xc s.heap b ws.toArray)(hv:vs≠[])
  (h1:ws=[]->Q (.ref t) s)(h2:ws≠[]->Q (.ref s.heap.objs.size) {s with heap:=s.heap.push {cls:=.type "tuple",data:=.seq (vs++ws).toArray}})
  (hsz:vs.length+ws.length<=gz):ia (iu prog w) A (ot .Add (.ref t) (.ref b)) Q E s:=by
 obtain⟨⟨cls,dd,data,sl⟩,ho,hc,n,hd⟩:=id ht;obtain⟨⟨cls2,dd2,data2,sl2⟩,ho2,hc2,n2,hd2⟩:=id hb;simp only at hc hd hc2 hd2;subst hc hd hc2 hd2;have e:vs.toArray++ws.toArray=(vs++ws).toArray:=by simp
 by_cases hw:ws=[]
 ·exact Aj ⟨_,ho,rfl⟩ ⟨_,ho2,rfl⟩ xg zo qd p6 (ow _ _)
   (tuple_addW1 t b vs.toArray ws.toArray n n2 dd dd2 sl sl2 (by simpa using hv) (by simp[hw])) ⟨ho,ho2,h1 hw⟩
 ·refine Aj ⟨_,ho,rfl⟩ ⟨_,ho2,rfl⟩ xg zo qd p6 (ow _ _)
   (tuple_addW2 t b vs.toArray ws.toArray n n2 dd dd2 sl sl2 (by simpa using hv) (by simpa using hw) (by rw[fj,fj];exact hsz)) ⟨ho,ho2,?_⟩
  rw[e];exact h2 hw
noncomputable def sIx (n d:Nat):Option Int->Nat
 |none=>d
 |some v=>if v<0 then(v+(n:Int)).toNat else min v.toNat n
theorem sIx_nat (n d k:Nat):sIx n d (some (k:Int))=min k n:=by show(if (k:Int)<0 then((k:Int)+(n:Int)).toNat else min (k:Int).toNat n)=min k n;rw[if_neg (by omega),jd]
theorem B3y (n d:Nat)(hd:d<=n)(o:Option Int):sIx n d o<=n:=by
 cases o with
 |none=>exact hd
 |some v=>
  show(if v<0 then(v+(n:Int)).toNat else min v.toNat n)<=n;by_cases hv:v<0
  ·rw[if_pos hv];omega
  ·rw[if_neg hv];exact Nat.min_le_right _ _
theorem vT (v:Int)(n d:Nat):(if v<0 then max (v+(n:Int)) 0 else min v (n:Int))=((sIx n d (some v):Nat):Int):=by
 show(if v<0 then max (v+(n:Int)) 0 else min v (n:Int))=(((if v<0 then(v+(n:Int)).toNat else min v.toNat n):Nat):Int);by_cases hv:v<0
 ·simp only[if_pos hv];omega
 ·simp only[if_neg hv];omega
theorem A4w (lo hi:Option Int)(n:Nat):oj lo hi 1 (n:Int)=(((sIx n 0 lo:Nat):Int),((sIx n n hi:Nat):Int)):=by
 have h1:¬((1:Int)<0):=by omega
 unfold oj;simp only[h1,if_false];refine rm ?_ ?_
 ·cases lo with
  |none=>rfl
  |some v=>exact vT v n 0
 ·cases hi with
  |none=>rfl
  |some v=>exact vT v n n
theorem A27 (i j:Nat):jy (i:Int) (j:Int) 1=j - i:=by
 unfold jy;have h1:(1:Int)>0:=by omega
 simp only[h1,if_true,Ak]
 split<;>omega
theorem rS (p:wx v o)(h:Q o s):ia (iu prog w) A (ic.Slice.slicePartIndex v) Q E s:=by
 cases p with
 |none=>exact u5 h
 |int i t=>exact slicePart_int h
theorem sliceApplied_gen {sl:gy}{vl vu:gw}{lo hi:Option Int}{n:Nat}{Q:Int×Int×Nat->h7->Prop}(hs:s.heap.IsSliceOf sl vl vu .none)(pl:wx vl lo)(pu:wx vu hi)
  (h:Q (((sIx n 0 lo:Nat):Int),1,sIx n n hi - sIx n 0 lo) s):ia (iu prog w) A (lq (.ref sl) (pure (n:Int))) Q E s:=by
 obtain⟨os,hos,hcs,hds⟩:=id hs;unfold lq vp;refine AN (AN (jq hos hds (x:=vl) rfl (AN (jq hos hds (x:=vu) rfl (AN (jq hos hds (x:=.none) rfl (AO ?_)))))));refine AN (u5 ?_);show ia _ _ (if ((1:Int)==0)=true then _ else _) _ _ s;rw[if_neg (by decide)];refine AN (rS pl (AN (rS pu (AN (AO ?_)))));show ia _ _ (match oj lo hi 1 (n:Int)with| (lo,hi)=>pure (lo,(1:Int),jy lo hi 1)) _ _ s;rw[A4w lo hi n];show ia _ _ (pure (((sIx n 0 lo:Nat):Int),(1:Int),jy ((sIx n 0 lo:Nat):Int) ((sIx n n hi:Nat):Int) 1)) _ _ s;rw[A27];exact AO h
theorem A9m (xs:Array gw)(i k:Nat):((iq k).filterMap λ(m:Nat)=>xs[((i:Int)+(m:Int)*1).toNat]?).toArray=((xs.toList.drop i).take k).toArray:=by
 have e:(λ(m:Nat)=>xs[((i:Int)+(m:Int)*1).toNat]?)=λm=>xs[i+m]?:=by
  funext m
  have:((i:Int)+(m:Int)*1).toNat=i+m:=by omega
  rw[this]
 rw[e];have:=pick_run xs i k;rw[List.filterMap_map]at this;have e2:((λx=>xs[x]?)∘λx=>i+x)=λm=>xs[i+m]?:=rfl;rw[e2]at this;rw[this]
theorem getItem_tuple_cut {t sl:gy}{items:Array gw}{vl vu:gw}{lo hi:Option Int}{Q:gw->h7->Prop}(ht:xc s.heap t items)(hs:s.heap.IsSliceOf sl vl vu .none)(pl:wx vl lo)(pu:wx vu hi)
  (hw:¬(sIx items.size 0 lo=0/\sIx items.size items.size hi=items.size))
  (h:Q (.ref s.heap.objs.size) {s with heap:=s.heap.push {cls:=.type "tuple",data:=.seq ((items.toList.drop (sIx items.size 0 lo)).take (sIx items.size items.size hi - sIx items.size 0 lo)).toArray}})
  (hsz:items.size<=gz):ia (iu prog w) A (qe (.ref t) (.ref sl)) Q E s:=by
 have htake:sizeOk (.seq ((items.toList.drop (sIx items.size 0 lo)).take (sIx items.size items.size hi - sIx items.size 0 lo)).toArray):=by
  show((items.toList.drop (sIx items.size 0 lo)).take (sIx items.size items.size hi - sIx items.size 0 lo)).toArray.size<=gz;rw[fj,cm,b5,mz];omega
 have hj:sIx items.size items.size hi<=items.size:=B3y _ _ (AY _) hi;obtain⟨os,hos,hcs,hds⟩:=id hs;have hTs:s.TypeIs (.ref sl) "slice":=⟨os,hos,hcs⟩;unfold qe
 try with_reducible refine jw ?_
 first|refine AN (AO ?_)|skip
 refine AN (wa ht.typeIs (by decide) ?_);refine AN (jv (name:=k8 "__getitem__") ht.typeIs jc
  (ji jc ht.typeIs tq ?_ (u7 _ _)))
 show ia _ _ (lu (.ref t)>>=_) _ _ s;refine AN (zq ht ?_);refine AN (Al hTs ?_);rw[if_pos (by decide)];refine AN (sliceApplied_gen hs pl pu ?_);have hno:¬((((sIx items.size 0 lo:Nat):Int)==0&&(1:Int)==1&&(sIx items.size items.size hi - sIx items.size 0 lo)==items.size)=true):=by
  intro q;rw[i4,i4]at q;have q1:((sIx items.size 0 lo:Nat):Int)=0:=eq_of_beq q.1.1;have q2:sIx items.size items.size hi - sIx items.size 0 lo=items.size:=eq_of_beq q.2;exact hw ⟨by omega,by omega⟩
 show ia _ _ (if (((sIx items.size 0 lo:Nat):Int)==0&&(1:Int)==1&&(sIx items.size items.size hi - sIx items.size 0 lo)==items.size)=true then _ else _) _ _ s;rw[if_neg hno,A9m]
 first
  |exact AN (m:=mw _) (i9 (AO ⟨_,rfl,AO h⟩) htake)
  |exact AN (m:=mw _) (i9 (AN (AO (AO ⟨_,rfl,AO h⟩))) htake)
  |exact AN (AN (m:=mw _) (i9 (AO (AO ⟨_,rfl,AO h⟩)) htake))
  |exact AN (AN (m:=mw _) (i9 (AO ⟨_,rfl,AO h⟩) htake))
end HT
namespace L2
open PySem PySem.Spec PyProof.Rows
noncomputable abbrev TO:=St->Hp->(Option Int->Hp->Prop)->Prop
noncomputable def PO (X:Cx)(e:Option j7)(t:TO):Prop:=
 ∀(ir:List (gy×Obj))(s:h7)(σ:St)(H:Hp)(Q:Option Int->Hp->Prop),Inv X ir σ H s->t σ H Q->
  ia (iu X.prog X.w) X.A (evalPart e X.env) (λu s'=> ∃o H',Inv X ir σ H' s'/\wx u o/\Q o H') X.xe s
noncomputable def B4t:TO:=λ_ H Q=>Q none H
noncomputable def A9n (t:TE):TO:=λσ H Q=>t σ H λx H1=> ∃i,x= .int i/\Q (some i) H1
theorem nB:∀{us:List gw},Vals (ns.map V.int) us->m4 us ns:=by
 induction ns with
 |nil=>intro us r;rw[map_nil]at r;cases r;exact .nil
 |cons n ns ih=>
  intro us r;rw[cz]at r;cases r with
  |cons r1 r2=>
   obtain⟨t,e⟩:=r1;subst e;exact .cons n t (ih r2)
section
variable {X:Cx}{e:j7}{te:TE}{lo hi:Option j7}{tl th:TO}{pos p2:Pos}
theorem gX:PO X none B4t:=by intro ir s σ H Q I h;rw[wy];exact AO ⟨none,H,I,.none,h⟩
theorem fY (h:PE X e te):PO X (some e) (A9n te):=by intro ir s σ H Q I hw;rw[zr];refine thn (h ir s σ H _ I hw) λu s1 ⟨x,H1,I1,r1,q1⟩=> ?_;obtain⟨i,rfl,q⟩:=q1;obtain⟨t,rfl⟩:=r1;exact⟨some i,H1,I1,.int i t,q⟩
noncomputable def SlR (X:Cx)(r:V->Option Int->Option Int->Hp->VK->Prop):Prop:=
 ∀(ir:List (gy×Obj))(s:h7)(σ:St)(H:Hp)(x:V)(v vl vu:gw)(lo hi:Option Int)(sl:gy)(Q:VK),Inv X ir σ H s->RelV x v->s.heap.IsSliceOf sl vl vu .none->wx vl lo->wx vu hi->r x lo hi H Q->
  ∃T id,typeLookup (.type T) "__getitem__" =pure (some (.builtin id))/\s.TypeIs v T/\ia (iu X.prog X.w) X.A (qe v (.ref sl)) (EP X ir σ Q) X.xe s
noncomputable def tSl (r:V->Option Int->Option Int->Hp->VK->Prop)(te:TE)(tl th:TO):TE:=λσ H Q=>te σ H λx H1=>tl σ H1 λl H2=>th σ H2 λu H3=>r x l u H3 Q
theorem gC {r:V->Option Int->Option Int->Hp->VK->Prop}(hr:SlR X r)(he:PE X e te)(hl:PO X lo tl)(hu:PO X hi th):PE X (.Subscript e (.Slice lo hi none p2) pos) (tSl r te tl th):=by intro ir s σ H Q I h;refine xx (thn (he ir s σ H _ I h) λv s1 ⟨x,H1,I1,r1,q1⟩=> ?_);refine wpAny_Slice (thn (hl ir s1 σ H1 _ I1 q1) λvl s2 ⟨l,H2,I2,pl,q2⟩=>thn (hu ir s2 σ H2 _ I2 q2) λvu s3 ⟨u,H3,I3,pu,q3⟩=> ?_);rw[wy];refine AO ?_;have I4:Inv X ir σ H3 {s3 with heap:=s3.heap.push {cls:=.type "slice",data:=.fields #[vl,vu,.none]}}:=I3.kept (t':=s3.toks) λb ob q=>AQ _ q;obtain⟨T,id,hT,ht,hg⟩:=hr ir {s3 with heap:=s3.heap.push {cls:=.type "slice",data:=.fields #[vl,vu,.none]}} σ H3 x v vl vu l u s3.heap.objs.size Q I4 r1 (u9 ..) pl pu q3;show ia (iu X.prog X.w) X.A (rj e (.Slice lo hi none p2) v (.ref s3.heap.objs.size)) (EP X ir σ Q) X.xe {s3 with heap:=s3.heap.push {cls:=.type "slice",data:=.fields #[vl,vu,.none]}};exact tail_any (ops:=[.ref s3.heap.objs.size,v]) ht hT hg (by with_unfolding_all rfl)
noncomputable def cJ (xs:List V)(lo hi:Option Int):List V:=(xs.drop (HT.sIx xs.length 0 lo)).take (HT.sIx xs.length xs.length hi - HT.sIx xs.length 0 lo)
theorem tU (xs:List V)(lo hi:Option Int):(cJ xs lo hi).length<=xs.length:=by unfold cJ;rw[cm,b5];omega
noncomputable def A7n (K:W.Frag):R2:=λx y H Q=> ∃a b ns ms,x= .ref a/\y= .ref b/\A3 K H a (ns.map V.int)/\A3 K H b (ms.map V.int)/\Q (.bl (HT.lexLt ns ms)) H
theorem A05 (hu:X.A.units<jt):OpR X (jl .Lt) (A7n X.K):=by intro ir s σ H x y v u Q I rx ry h;obtain⟨a,b,ns,ms,rfl,rfl,ha,hb,q⟩:=h;cases rx;cases ry;obtain⟨i8,r1,p1,_⟩:=I.tuple ha;obtain⟨its2,r2,p2,_⟩:=I.tuple hb;have i1:m4 i8.toArray.toList ns:=nB r1;have i2:m4 its2.toArray.toList ms:=nB r2;exact HT.lt_tupInts p1 p2 i1 i2 hu ⟨.bl (HT.lexLt ns ms),H,I,rfl,q⟩
theorem Vals.nil_iff (r:Vals xs us):us=[]↔xs=[]:=by
 cases r with
 |nil=>simp
 |cons _ _=>simp
end
noncomputable def ixN (n:Nat)(i:Int):Option Nat:=if 0<=i then(if i<n then some i.toNat else none)else if -(n:Int)<=i then some (i+n).toNat else none
noncomputable def atI {α:Type}(xs:List α)(i:Int):Option α:=(ixN xs.length i).bind λj=>xs[j]?
theorem A08 (h:ixN n i=some j):Ax i n=some j/\j<n/\-(n:Int)<=i/\i<n:=by
 unfold ixN at h;by_cases h0:0<=i
 ·rw[if_pos h0]at h;by_cases h1:i<n
  ·rw[if_pos h1]at h;have e:i.toNat=j:=ig h;exact⟨by rw[seqIndex_of h0 h1,e],by omega,by omega,h1⟩
  ·rw[if_neg h1]at h;cases h
 ·rw[if_neg h0]at h;by_cases h1:-(n:Int)<=i
  ·rw[if_pos h1]at h;have e:(i+n).toNat=j:=ig h;exact⟨by rw[Am (by omega) h1,e],by omega,h1,by omega⟩
  ·rw[if_neg h1]at h;cases h
theorem mT (h:atI xs i=some v):∃j,Ax i xs.length=some j/\xs[j]?=some v/\j<xs.length/\-(xs.length:Int)<=i/\i<xs.length:=by
 unfold atI at h;cases e:ixN xs.length i with
 |none=>rw[e]at h;cases h
 |some j=>
  rw[e]at h;obtain⟨h1,h2,h3,h4⟩:=A08 e;exact⟨j,h1,h,h2,h3,h4⟩
theorem dO {α:Type}{xs:List α}{j:Nat}{v:α}(h:xs[j]?=some v):atI xs (j:Int)=some v:=by
 have hj:j<xs.length:=(AR.mp h).1;have e:ixN xs.length (j:Int)=some j:=by
  unfold ixN;rw[if_pos (by omega),if_pos (by omega)];simp
 unfold atI;rw[e];exact h
noncomputable def B1q (b:j7):Prop:=∀o i,yw b false o i=operate [o,i] (qe o i)
noncomputable def IxR (X:Cx)(r:R2):Prop:=
 ∀(value slice:j7)(ir:List (gy×Obj))(s:h7)(σ:St)(H:Hp)(x y:V)(v u:gw)(Q:VK),Inv X ir σ H s->RelV x v->RelV y u->r x y H Q->
  yw slice false v u=operate [v,u] (qe v u)->ia (iu X.prog X.w) X.A (rj value slice v u) (EP X ir σ Q) X.xe s
noncomputable def MtR (X:Cx)(id:String)(r:V->List V->Hp->VK->Prop):Prop:=
 ∀(ir:List (gy×Obj))(s:h7)(σ:St)(H:Hp)(x:V)(xs:List V)(v:gw)(us:List gw)(Q:VK),Inv X ir σ H s->RelV x v->Vals xs us->r x xs H Q->
  ia (iu X.prog X.w) X.A (call (.builtin id) (v::us)) (EP X ir σ Q) X.xe s
section
theorem cA (hr:IxR X r)(ha:PE X a ta)(hb:PE X b tb)(hs:B1q b):PE X (.Subscript a b pos) (tOp r ta tb):=by intro ir s σ H Q I h;exact xx (uY ha hb I h λv u s2 x y H2 I2 rx ry q=>hr a b ir s2 σ H2 x y v u Q I2 rx ry q (hs _ _))
noncomputable def B4d (K:W.Frag):R2:=λx y H Q=> ∃p xs i v,x= .ref p/\y= .int i/\A2 K H p xs/\atI xs i=some v/\Q v H
noncomputable def nU (K:W.Frag):R2:=λx y H Q=> ∃p xs i v,x= .ref p/\y= .int i/\A3 K H p xs/\atI xs i=some v/\Q v H
theorem fT:IxR X (B4d X.K):=by
 intro value slice ir s σ H x y v u Q I rx ry h hs;obtain⟨p,xs,i,z,rfl,rfl,hq,he,q⟩:=h;cases rx;obtain⟨t,rfl⟩:=ry;obtain⟨i8,r,pl,hz⟩:=I.list hq;obtain⟨j,h1,h2,h3,h4,h5⟩:=mT he;obtain⟨w,ew,rw'⟩:=r.get h2;have hl:=r.length;have hn:=oG;have fin:EP X ir σ Q w s:=⟨z,H,I,rw',q⟩;by_cases h0:0<=i
 ·have hj:i.toNat=j:=by
   rw[seqIndex_of h0 h5]at h1;exact ig h1
  exact item_listR pl.isList h0 (by omega) (by rw[hj];simpa using ew) fin hs
 ·have hj:(i+(i8.toArray.size:Int)).toNat=j:=by
   rw[Am (by omega) h4]at h1;rw[fj,←hl];exact ig h1
  exact xy (x:=w) pl.isList.typeIs wc.lookup
   (wpAny_getItem_list_neg (Q:=λr s'=>r=w/\EP X ir σ Q r s') pl.isList (by omega) (by rw[fj]<;>omega) (by omega) (by rw[hj];simpa using ew) ⟨rfl,fin⟩) hs
theorem cZ:IxR X (nU X.K):=by
 intro value slice ir s σ H x y v u Q I rx ry h hs;obtain⟨p,xs,i,z,rfl,rfl,hq,he,q⟩:=h;cases rx;obtain⟨t,rfl⟩:=ry;obtain⟨i8,r,pl,hz⟩:=I.tuple hq;obtain⟨j,h1,h2,h3,h4,h5⟩:=mT he;obtain⟨w,ew,rw'⟩:=r.get h2;have hl:=r.length;have hn:=oG;have fin:EP X ir σ Q w s:=⟨z,H,I,rw',q⟩;exact xy (x:=w) pl.typeIs slot_tuple_getitem.lookup
  (getItem_tuple (j:=j) (Q:=λr s'=>r=w/\EP X ir σ Q r s') pl (by omega) (by omega) (by rw[fj,←hl];exact h1) (by simpa using ew) ⟨rfl,fin⟩) hs
theorem B3z (i8:List gw)(n j:Nat)(u:gw):ly (·.setIfInBounds j u) {cls:=.type "list",data:=.seq i8.toArray n}={cls:=.type "list",data:=.seq (i8.set j u).toArray n}:=by simp[ly]
theorem Inv.lst (I:Inv X ir σ H s)(h:H p=some (.lst xs)):
  ∃(i8:List gw)(n:Nat),Vals xs i8/\s.heap.get? p=some {cls:=.type "list",data:=.seq i8.toArray n}/\xs.length<=gz:=by
 obtain⟨z,i8,n,r,e⟩:=I.hok p _ h;exact⟨i8,n,r,e,z⟩
theorem Inv.lstUpd {ir:List (gy×Obj)}{σ:St}{H:Hp}{s:h7}{p:gy}{xs ys:List V}{i8 its':List gw}{n n':Nat}{f:Obj->Obj}(I:Inv X ir σ H s)(h:H p=some (.lst xs))
  (ho:s.heap.get? p=some {cls:=.type "list",data:=.seq i8.toArray n})(hf:f {cls:=.type "list",data:=.seq i8.toArray n}={cls:=.type "list",data:=.seq its'.toArray n'})(r:Vals ys its')(hz:ys.length<=gz)(t:Nat):
  Inv X ir σ (upd H p (.lst ys)) {s with heap:=s.heap.update p f,toks:=t}:=by
 have e:(s.heap.update p f).get? p=some {cls:=.type "list",data:=.seq its'.toArray n'}:=by
  rw[fz f ho (by rw[hf]<;>rfl),hf]
 refine I.write (x:=p) (e:=p) (by rw[h];trivial) (.inl rfl) (λb u hb q=>(fw _ _ (k6 hb)).trans q) ⟨_,e⟩ ?_;exact⟨hz,its',n',r,e⟩
noncomputable def B2f:V->V->V->Hp->(Hp->Prop)->Prop:=λo i v H Q=> ∃p xs k j,o= .ref p/\i= .int k/\H p=some (.lst xs)/\ixN xs.length k=some j/\Q (upd H p (.lst (xs.set j v)))
theorem rR:zG X B2f:=by
 intro ir s σ H o i v ov iv u Q I ro ri rv h;obtain⟨p,xs,k,j,rfl,rfl,hp,hj,q⟩:=h;cases ro;obtain⟨t,rfl⟩:=ri;obtain⟨i8,n,r,ho,hz⟩:=I.lst hp;obtain⟨h1,h2,h3,h4⟩:=A08 hj;have hl:=r.length;have hn:=oG;have I':Inv X ir σ (upd H p (.lst (xs.set j v))) {s with heap:=s.heap.update p (ly (·.setIfInBounds j u))}:=
  I.lstUpd hp ho (B3z i8 n j u) (r.set rv j) (by rw[List.length_set];exact hz) s.toks
 by_cases h0:0<=k
 ·have hk:k.toNat=j:=by
   rw[seqIndex_of h0 h4]at h1;exact ig h1
  exact W.ki_setAt ho h0 (by omega) (by rw[fj,←hl];exact h4) (by rw[hk];exact⟨_,I',q⟩)
 ·have hk:(k+(i8.toArray.size:Int)).toNat=j:=by
   rw[Am (by omega) h3]at h1;rw[fj,←hl];exact ig h1
  exact W.ki_setBack ho (by omega) (by rw[fj,←hl];exact h3) (by omega) (by rw[hk];exact⟨_,I',q⟩)
theorem A5i (lo hi:Option Int)(n:Nat):(p7 lo hi none n).1=((HT.sIx n 0 lo:Nat):Int)/\(p7 lo hi none n).2.1=((HT.sIx n n hi:Nat):Int)/\(p7 lo hi none n).2.2=1:=by
 refine⟨?_,?_,rfl⟩
 ·cases lo with
  |none=>simp[p7,HT.sIx]
  |some i=>
   simp only[p7,HT.sIx,xh,show(1:Int)>0 by decide,if_true];by_cases h:i<0
   ·simp only[h,if_true]<;>omega
   ·simp only[h,if_false]<;>omega
 ·cases hi with
  |none=>simp[p7,HT.sIx]
  |some i=>
   simp only[p7,HT.sIx,xh,show(1:Int)>0 by decide,if_true];by_cases h:i<0
   ·simp only[h,if_true]<;>omega
   ·simp only[h,if_false]<;>omega
theorem A6t (i8:List gw)(lo hi:Option Int):Ay i8.toArray lo hi none=((i8.drop (HT.sIx i8.length 0 lo)).take (HT.sIx i8.length i8.length hi - HT.sIx i8.length 0 lo)).toArray:=by obtain⟨h1,h2,h3⟩:=A5i lo hi i8.toArray.size;unfold Ay;rw[h1,h2,h3];simp only[sliceRange_one,pick_run,fj]<;>rfl
noncomputable def B0e (K:W.Frag):V->Option Int->Option Int->Hp->VK->Prop:=λx lo hi H Q=> ∃a xs,x= .ref a/\A2 K H a xs/\∀p,H p=none->Q (.ref p) (upd H p (.lst (cJ xs lo hi)))
theorem mL:SlR X (B0e X.K):=by intro ir s σ H x v vl vu lo hi sl Q I rx hs pl pu h;obtain⟨a,xs,rfl,hx,q⟩:=h;cases rx;obtain⟨i8,r,ht,hz⟩:=I.list hx;have rg:=r.length;refine⟨"list",_,wc.lookup,ht.isList.typeIs,?_⟩;refine wz ht.isList hs pl pu .none (by simp) ?_ (by rw[fj]<;>omega);rw[A6t,←rg];refine⟨.ref s.heap.objs.size,_,I.laid (t':=s.toks) (o:=.lst (cJ xs lo hi)) (λb ob q=>AQ _ q) (AY _) ?_,rfl,q _ (I.hok.fresh (AY _))⟩;exact⟨gc (tU xs lo hi) hz,_,0,(r.drop (HT.sIx xs.length 0 lo)).take (HT.sIx xs.length xs.length hi - HT.sIx xs.length 0 lo),fu _ rfl⟩
noncomputable def iA:V->Bool
 | .non=>true
 | .bl _=>true
 | .int _=>true
 | .str _=>true
 |_=>false
noncomputable def eqV:V->V->Bool
 | .non,.non=>true
 | .bl a,.bl b=>a==b
 | .bl a,.int b=>(if a then 1 else 0)==b
 | .int a,.bl b=>a==(if b then 1 else 0)
 | .int a,.int b=>a==b
 | .str a,.str b=>a==b
 |_,_=>false
theorem A7i (ry:RelV y u)(rx:RelV x v)(fy:iA y=true)(fx:iA x=true):i5 A s u v (eqV y x):=by
 cases y with
 |non=>
  cases ry;cases x with
  |non=>cases rx;exact sm _
  |bl b=>cases rx;exact i5.none_bool b
  |int b=>obtain⟨t,rfl⟩:=rx;exact i5.none_int b t
  |str b=>obtain⟨t,rfl⟩:=rx;exact i5.none_str b t
  |_=>exact absurd (show false=true from fx) ib
 |bl a=>
  cases ry;cases x with
  |non=>cases rx;exact i5.bool_none a
  |bl b=>cases rx;exact i5.bool_bool a b
  |int b=>obtain⟨t,rfl⟩:=rx;exact i5.bool_int a b t
  |str b=>obtain⟨t,rfl⟩:=rx;exact i5.bool_str a b t
  |_=>exact absurd (show false=true from fx) ib
 |int a=>
  obtain⟨t',rfl⟩:=ry;cases x with
  |non=>cases rx;exact i5.int_none a t'
  |bl b=>cases rx;exact i5.int_bool a t' b
  |int b=>obtain⟨t,rfl⟩:=rx;exact nh a t' b t
  |str b=>obtain⟨t,rfl⟩:=rx;exact i5.int_str a t' b t
  |_=>exact absurd (show false=true from fx) ib
 |str a=>
  obtain⟨t',rfl⟩:=ry;cases x with
  |non=>cases rx;exact i5.str_none a t'
  |bl b=>cases rx;exact i5.str_bool a t' b
  |int b=>obtain⟨t,rfl⟩:=rx;exact i5.str_int a t' b t
  |str b=>obtain⟨t,rfl⟩:=rx;exact i5.str_str a t' b t
  |_=>exact absurd (show false=true from fx) ib
 |_=>exact absurd (show false=true from fy) ib
noncomputable def eqU (x:V)(u:gw):Bool:=match u with
 | .none=>eqV .non x
 | .bool b=>eqV (.bl b) x
 | .int i _=>eqV (.int i) x
 | .str z _=>eqV (.str z) x
 |_=>false
theorem A0c (r:RelV y u)(f:iA y=true):eqU x u=eqV y x:=by
 cases y with
 |non=>cases r;rfl
 |bl b=>cases r;rfl
 |int i=>obtain⟨t,rfl⟩:=r;rfl
 |str z=>obtain⟨t,rfl⟩:=r;rfl
 |_=>exact absurd (show false=true from f) ib
theorem qP:∀{xs:List V}{us:List gw},Vals xs us->xs.all iA=true->us.any (eqU x)=xs.any λy=>eqV y x
 |_,_,.nil,_=>rfl
 |y::xs,u::us,.cons r t,f=>by
  rw[aa,i4]at f;rw[ag,ag,A0c r f.1,qP t f.2]
theorem uC (rx:RelV x v)(fx:iA x=true):∀{xs:List V}{us:List gw},Vals xs us->xs.all iA=true->∀u∈us,i5 A s u v (eqU x u)
 |_,_,.nil,_=>λu hu=>by cases hu
 |y::xs,u::us,.cons r t,f=>λu' hu=>by
  rw[aa,i4]at f;rcases di.mp hu with rfl|hu
  ·rw[A0c r f.1];exact A7i r rx f.1 fx
  ·exact uC rx fx t f.2 u' hu
noncomputable def inV (x:V)(xs:List V):Bool:=xs.any λy=>eqV y x
noncomputable def rIn (K:W.Frag)(neg:Bool):R2:=λx y H Q=> ∃p xs,y= .ref p/\(A2 K H p xs\/A3 K H p xs)/\iA x=true/\xs.all iA=true/\Q (.bl (if neg then !inV x xs else inV x xs)) H
theorem A4t:OpR X (jl .In) (rIn X.K false):=by
 intro ir s σ H x y v u Q I rx ry h;obtain⟨p,xs,rfl,hq,fx,fs,q⟩:=h;cases ry;rcases hq with hq|hq
 ·obtain⟨i8,r,pl,hz⟩:=I.list hq;refine yh (eqU x) pl.isList (λw hw=>uC rx fx r fs w (by simpa using hw)) ⟨.bl _,H,I,rfl,?_⟩;rw[show i8.toArray.any (eqU x)=i8.any (eqU x) by simp,qP r fs];exact q
 ·obtain⟨i8,r,pl,hz⟩:=I.tuple hq;refine SeqAt.in_tupleAt (eqU x) pl (λw hw=>uC rx fx r fs w (by simpa using hw)) ⟨.bl _,H,I,rfl,?_⟩;rw[show i8.toArray.any (eqU x)=i8.any (eqU x) by simp,qP r fs];exact q
theorem eK:eO X (.builtin "len") (λxs H Q=> ∃p ys,xs=[.ref p]/\(A2 X.K H p ys\/A3 X.K H p ys)/\Q (.int ys.length) H):=by
 intro ir s σ H xs us Q I r h;obtain⟨p,ys,rfl,hq,q⟩:=h;obtain⟨u,rfl,rx⟩:=fX r;cases rx;have hn:=oG;rcases hq with hq|hq
 ·obtain⟨i8,r',pl,hz⟩:=I.list hq;have rg:=r'.length;exact Calls.call_len_list pl.isList (by simp only[fj]<;>omega) ⟨.int ys.length,H,I.tok _,⟨s.toks+1,by rw[fj,rg]⟩,q⟩
 ·obtain⟨i8,r',pl,hz⟩:=I.tuple hq;have rg:=r'.length;exact len_tuple pl (by simp only[fj]<;>omega) ⟨.int ys.length,H,I.tok _,⟨s.toks+1,by rw[fj,rg]⟩,q⟩
theorem A6z:eO X (.type "list") (λxs H Q=> ∃p ys,xs=[.ref p]/\(A2 X.K H p ys\/A3 X.K H p ys)/\∀l,H l=none->Q (.ref l) (upd H l (.lst ys))):=by
 intro ir s σ H xs us Q I r h;obtain⟨p,ys,rfl,hq,q⟩:=h;obtain⟨u,rfl,rx⟩:=fX r;cases rx;have fin:∀(i8:List gw),Vals ys i8->ys.length<=gz->∀(h':iw)(c':Nat),(∀b o',s.heap.get? b=some o'->h'.get? b=some o')->
   h'.get? s.heap.objs.size=some {cls:=.type "list",dict:=none,data:=.seq i8.toArray c',slots:=#[]}->EP X ir σ Q (.ref s.heap.objs.size) {s with heap:=h'}:=λi8 r' hz h' c' kp e=>
  ⟨.ref s.heap.objs.size,_,I.laid (t':=s.toks) kp (AY _) (show ObjOk X.prog X.w _ h' _ (.lst ys)from⟨hz,i8,c',r',e⟩),rfl,q _ (I.hok.fresh (AY _))⟩
 rcases hq with hq|hq
 ·obtain⟨i8,r',pl,hz⟩:=I.list hq;have rg:=r'.length;obtain⟨o,ho,hc,n,hd⟩:=pl.isList;exact call_list_seq p (.inl rfl) ho hc hd (λh' c' kp e=>fin i8 r' hz h' c' kp e) (by simp only[fj]<;>omega)
 ·obtain⟨i8,r',pl,hz⟩:=I.tuple hq;have rg:=r'.length;obtain⟨o,ho,hc,n,hd⟩:=pl;exact call_list_seq p (.inr rfl) ho hc hd (λh' c' kp e=>fin i8 r' hz h' c' kp e) (by simp only[fj]<;>omega)
theorem gM:eO X (.type "tuple") (λxs H Q=> ∃p ys,xs=[.ref p]/\((A2 X.K H p ys/\∀l,H l=none->Q (.ref l) (upd H l (.tup ys)))\/(A3 X.K H p ys/\Q (.ref p) H))):=by
 intro ir s σ H xs us Q I r h;obtain⟨p,ys,rfl,h⟩:=h;obtain⟨u,rfl,rx⟩:=fX r;cases rx;rcases h with⟨hq,q⟩| ⟨hq,q⟩
 ·obtain⟨i8,r',pl,hz⟩:=I.list hq;have rg:=r'.length;refine call_tuple_list pl.isList (λh' kp=> ?_) (by simp only[fj]<;>omega);have I1:Inv X ir σ H {s with heap:=h'}:=I.kept (t':=s.toks) kp;have I2:Inv X ir σ (upd H h'.objs.size (.tup ys)) {s with heap:=h'.push {cls:=.type "tuple",data:=.seq i8.toArray}}:=
   I1.laid (t':=s.toks) (λb o e=>AQ _ e) (AY _) (show ObjOk X.prog X.w _ _ _ (.tup ys)from⟨hz,i8,r',Av _ _⟩)
  exact⟨.ref h'.objs.size,_,I2,rfl,q _ (I1.hok.fresh (AY _))⟩
 ·obtain⟨i8,r',pl,hz⟩:=I.tuple hq;exact call_tuple_same pl ⟨.ref p,H,I,rfl,q⟩
noncomputable def tyV (K:W.Frag)(T:String)(x:V)(H:Hp):Prop:=match x with
 | .str _=>T= "str"
 | .int _=>T= "int"
 | .ref p=>(T= "list"/\∃xs,A2 K H p xs)\/(T= "tuple"/\∃o,K.lookup p=some o/\o.cls= .type "tuple"/\o.dict=none)\/
   (T= "dict"/\((∃kvs,H p=some (.dK kvs))\/ ∃kvs,H p=some (.dT kvs)))\/(T= "set"/\∃S n,H p=some (.set S n))
 |_=>False
theorem A88 (I:Inv X ir σ H s)(r:RelV x v)(ty:tyV X.K T x H):
  s.TypeIs v T/\∀a,v= .ref a->∃ob,s.heap.get? a=some ob/\ob.dict=none:=by
 cases x with
 |str z=>
  obtain⟨t,rfl⟩:=r;cases (show T= "str" from ty);exact⟨typeIs_str s z t,λ_ e=>nomatch e⟩
 |int i=>
  obtain⟨t,rfl⟩:=r;cases (show T= "int" from ty);exact⟨typeIs_int s i t,λ_ e=>nomatch e⟩
 |ref p=>
  cases r;rcases ty with⟨rfl,xs,hq⟩| ⟨rfl,o,hk,hc,hd⟩| ⟨rfl,hk⟩| ⟨rfl,S,n,hk⟩
  ·obtain⟨i8,_,pl,_⟩:=I.list hq;refine⟨pl.isList.typeIs,λa e=> ?_⟩;cases e;obtain⟨o,n,e,c,hd,_⟩:=pl;exact⟨o,e,hd⟩
  ·refine⟨⟨o,I.kIn p o hk,hc⟩,λa e=> ?_⟩;cases e;exact⟨o,I.kIn _ o hk,hd⟩
  ·have z:∃o,s.heap.get? p=some o/\o.ExactDict:=by
    rcases hk with⟨kvs,hk⟩| ⟨kvs,hk⟩
    ·obtain⟨_,_,_,_,o,_,_,e,ex,_⟩:=I.hok p _ hk;exact⟨o,e,ex⟩
    ·obtain⟨_,_,_,_,o,_,_,e,ex,_⟩:=I.hok p _ hk;exact⟨o,e,ex⟩
   obtain⟨o,e,ex⟩:=z;refine⟨⟨o,e,ex.1⟩,λa e2=> ?_⟩;cases e2;exact⟨o,e,ex.2.1⟩
  ·obtain⟨o,_,_,_,e,ex,_⟩:=I.hok p _ hk;refine⟨⟨o,e,ex.1⟩,λa e2=> ?_⟩;cases e2;exact⟨o,e,ex.2.1⟩
 |_=>exact m9 ty
noncomputable def tBM (K:W.Frag)(T:String)(r:V->List V->Hp->VK->Prop)(to:TE)(t:TA):TE:=λσ H Q=>to σ H λx H1=>tyV K T x H1/\t σ H1 λxs H2=>r x xs H2 Q
variable {o e:j7}{es:List j7}{to:TE}{t:TA}{name:Str}{apos AK:Pos}{T id:String}{r:V->List V->Hp->VK->Prop}
theorem jB (pa:PlainAttrs T)(slot:Slot T name id)(hty:typeOf (.builtin id)=pure (.type "method_descriptor"))(hm:MtR X id r)(ho:PE X o to)(ha:PA X (e::es) t)
  (hbase:zu o name X.env (mv o X.env)=mv o X.env:=by rfl)
  (hfew:((wt AK (jo (e::es) X.env)).all (λx=> !x.1)&&(backToKw AK (keywordEach [] X.env)).all (λx=>x.1.isSome)
   &&decide ((e::es).length+([]:List Keyword).length+(if ([]:List Keyword).isEmpty then 0 else 1)<30))=true:=by rfl)
  (hline:(apos.endLine==AK.line)=true:=by rfl)(hs:jo (e::es) X.env=(false,mv e X.env)::jo es X.env:=by rfl)(hplain:(wt AK (jo es X.env)).any (·.1)=false:=by rfl):
  PE X (.Call (.Attribute o name apos) (e::es) [] AK) (tBM X.K T r to t):=by
 intro ir s σ H Q I h;refine wpAny_Call_method_late hbase hfew hline rfl (thn (ho ir s σ H _ I h) λv s1 ⟨x,H1,I1,r1,ty,q1⟩=> ?_);obtain⟨h1,h2⟩:=A88 I1 r1 ty;refine⟨T,id,pa,slot,hty,h1,h2,?_⟩;have hA:=ha AK ir s1 σ H1 _ I1 q1;rw[hs]at hA⊢;refine ni (by show(false|| (wt AK (jo es X.env)).any (·.1))=false;rw[hplain]<;>rfl) (rq ?_);exact thn hA λus s2 ⟨vs,H2,I2,r2,q2⟩=>hm ir s2 σ H2 x vs v us Q I2 r1 r2 q2
/- xs.append(e),list.index on a module's tuple .. are MtR facts of 06m -/
end
noncomputable def MtM (X:Cx)(id:String)(r:V->List V->Hp->VK->Prop):Prop:=
 ∀(ir:List (gy×Obj))(s:h7)(σ:St)(H:Hp)(x:V)(xs:List V)(v:gw)(us:List gw)(Q:VK),Inv X ir σ H s->RelV x v->Vals xs us->r x xs H Q->
  ia (iu X.prog X.w) X.A (call (.builtin id) (v::us)) (EP X ir σ Q) X.xe s
theorem Vals.one:∀{x:V}{us:List gw},Vals [x] us->∃u,us=[u]/\RelV x u:=by intro x us h;cases h with|cons r t=>cases t;exact⟨_,rfl,r⟩
theorem Vals.two:∀{x y:V}{us:List gw},Vals [x,y] us->∃u v,us=[u,v]/\RelV x u/\RelV y v:=by intro x y us h;cases h with|cons r t=>cases t with|cons q t=>cases t;exact⟨_,_,rfl,r,q⟩
theorem Vals.eraseIdx:∀{xs:List V}{us:List gw}(i:Nat),Vals xs us->Vals (xs.eraseIdx i) (us.eraseIdx i)
 |_,_,_,.nil=> .nil
 |_,_,0,.cons _ t=>t
 |_,_,i+1,.cons r t=> .cons r (Vals.eraseIdx i t)
theorem zP:∀(l:List α)(i:Nat),(l.eraseIdx i).length<=l.length
 | [],_=>AY _
 |_::_,0=>gb _
 |_::r,i+1=>Nat.succ_le_succ (zP r i)
theorem Inv.lset {i8 its':List gw}{n:Nat}{f:Array gw->Array gw}{t':Nat}(I:Inv X ir σ H s)(hH:H l=some (.lst xs))
  (e:s.heap.get? l=some {cls:=.type "list",data:=.seq i8.toArray n})(hf:f i8.toArray=its'.toArray)(hv:Vals ys its')(hz:ys.length<=gz):
  Inv X ir σ (upd H l (.lst ys)) {s with heap:=s.heap.update l (ly f),toks:=t'}:=by
 have q:=PySem.IsL.update e f;rw[hf]at q;refine I.write (x:=l) (e:=l) (by rw[hH];exact trivial) (.inl rfl) (λb' u hb hu=>(fw s.heap (ly f) (k6 hb)).trans hu) ⟨_,q⟩ ?_;exact⟨hz,its',_,hv,q⟩
theorem Inv.lnew (I:Inv X ir σ H s)(hv:Vals ys i8)(hz:ys.length<=gz):
  Inv X ir σ (upd H s.heap.objs.size (.lst ys)) {s with heap:=s.heap.push {cls:=.type "list",data:=.seq i8.toArray},toks:=t'}:=
 I.laid (λ_ _ q=>AQ _ q) (AY _) ⟨hz,i8,0,hv,fu _ rfl⟩
theorem Inv.fresh (I:Inv X ir σ H s):H s.heap.objs.size=none:=I.hok.fresh (AY _)
theorem Inv.lstM (I:Inv X ir σ H s)(hH:H l=some (.lst xs)):xs.length<=gz/\∃(i8:List gw)(n:Nat),Vals xs i8/\xs.length=i8.length/\s.heap.get? l=some {cls:=.type "list",data:=.seq i8.toArray n}:=by obtain⟨z,i8,n,r,e⟩:=I.hok l _ hH;exact⟨z,i8,n,r,r.length,e⟩
theorem A1e (h:n<=gz):k5 n=false:=by unfold k5;exact AU (by omega)
section
variable {X:Cx}
noncomputable def A4h:V->List V->Hp->VK->Prop:=λx vs H Q=> ∃l xs y,x= .ref l/\vs=[y]/\H l=some (.lst xs)/\xs.length<gz/\Q .non (upd H l (.lst (xs++[y])))
theorem lH:MtM X "list.append" A4h:=by intro ir s σ H x vs v us Q I rx rv h;obtain⟨l,xs,y,rfl,rfl,hH,hz,q⟩:=h;cases rx;obtain⟨u,rfl,ru⟩:=rv.one;obtain⟨z,i8,n,r,hl,e⟩:=I.lstM hH;refine Ag F.slot_list_append ⟨_,e,rfl⟩ F.entry_list_append (F.args_list_append_2 _ _) (PySem.list_append l i8.toArray n u (by rw[fj];omega)) ⟨e,?_⟩;refine⟨.non,_,I.lset (its':=i8++[u]) hH e (by simp) (r.append (.cons ru .nil)) ?_,rfl,q⟩;rw[bz,cj];omega
noncomputable def B2t:V->List V->Hp->VK->Prop:=λx vs H Q=> ∃l b xs zs,x= .ref l/\vs=[.ref b]/\H l=some (.lst xs)/\H b=some (.lst zs)/\xs.length+zs.length<=gz/\Q .non (upd H l (.lst (xs++zs)))
theorem B3q:MtM X "list.extend" B2t:=by
 intro ir s σ H x vs v us Q I rx rv h;obtain⟨l,b,xs,zs,rfl,rfl,hH,hB,hz,q⟩:=h;cases rx;obtain⟨u,rfl,ru⟩:=rv.one;cases ru;obtain⟨z,i8,n,r,hl,e⟩:=I.lstM hH;obtain⟨z2,its2,n2,r2,AF,e2⟩:=I.lstM hB;have hsz:i8.toArray.size+its2.toArray.size<=gz:=by rw[fj,fj];omega
 have hlong:¬(!i8.toArray.isEmpty&&k5 (i8.toArray.size+its2.toArray.size))=true:=by
  rw[A1e hsz,yx];exact ib
 refine Ag F.slot_list_extend ⟨_,e,rfl⟩ F.entry_list_extend (F.args_list_extend_2 _ _)
  (AutoSeq1.list_extend_list_list_0 l i8.toArray n b its2.toArray n2 hlong (by rw[fj];omega) (by omega)) ⟨e,e2,?_⟩
 refine⟨.non,_,I.lset (its':=i8++its2) hH e (by simp) (r.append r2) ?_,rfl,q⟩;rw[bz];omega
noncomputable def A5t:V->List V->Hp->VK->Prop:=λx vs H Q=> ∃l xs i k y,x= .ref l/\vs=[.int i]/\H l=some (.lst xs)/\-(2^63)<=i/\i<2^63/\Ax i xs.length=some k/\xs[k]?=some y/\Q y (upd H l (.lst (xs.eraseIdx k)))
theorem A3q:MtM X "list.pop" A5t:=by
 intro ir s σ H x vs v us Q I rx rv h;obtain⟨l,xs,i,k,y,rfl,rfl,hH,h1,h2,hk,hy,q⟩:=h;cases rx;obtain⟨u,rfl,ru⟩:=rv.one;obtain⟨t,rfl⟩:=ru;obtain⟨z,i8,n,r,hl,e⟩:=I.lstM hH;obtain⟨w,hw,rw'⟩:=r.get hy;refine Ag F.slot_list_pop ⟨_,e,rfl⟩ F.entry_list_pop (F.args_list_pop_2 _ _)
  (MeetsSeq.list_pop_at l i8.toArray n i t k w (fitsIndex_both h1 h2) (by rw[fj,←hl];exact hk) (by rw[←Array.getElem?_toList];exact hw) (by rw[fj];omega)) ⟨e,?_⟩
 refine⟨y,_,I.lset (its':=i8.eraseIdx k) hH e ?_ (r.eraseIdx k) ?_,rw',q⟩
 ·show i8.toArray.eraseIdxIfInBounds k=(i8.eraseIdx k).toArray;rw[List.eraseIdxIfInBounds_toArray]
 ·have:=zP xs k;omega
noncomputable def A35:R2:=λx y H Q=> ∃l b xs zs,x= .ref l/\y= .ref b/\H l=some (.lst xs)/\H b=some (.lst zs)/\xs.length+zs.length<=gz/\∀p,H p=none->Q (.ref p) (upd H p (.lst (xs++zs)))
theorem rJ:OpR X (ot .Add) A35:=by
 intro ir s σ H x y v u Q I rx ry h;obtain⟨l,b,xs,zs,rfl,rfl,hH,hB,hz,q⟩:=h;cases rx;cases ry;obtain⟨z,i8,n,r,hl,e⟩:=I.lstM hH;obtain⟨z2,its2,n2,r2,AF,e2⟩:=I.lstM hB;refine PySem.P.add_list e e2 ?_ (by rw[fj,fj];omega);have ea:i8.toArray++its2.toArray=(i8++its2).toArray:=by simp
 rw[ea];exact⟨.ref _,_,I.lnew (t':=s.toks) (r.append r2) (by rw[bz];omega),rfl,q _ I.fresh⟩
end
end L2
namespace Att
open PySem PySem.W PySem.Calls PyProof.Rows
theorem A3c:∀(ns:List Int)(vs:List gw),WellAll P h vs (ns.map WData.int)->m4 vs ns:=by
 intro ns
 induction ns with
 |nil=>
  intro vs w;rw[map_nil]at w;cases w;exact .nil
 |cons n ns ih=>
  intro vs w;rw[cz]at w;cases w with
  |cons a b=>
   cases a;exact .cons _ _ (ih _ b)
theorem A45 {l:OpenLaw}{n:Nat}(hn:l.most=some n){P:Params}{h:iw}{args:List WData}{vals:List gw}
  (hpre:l.row.toRowW.claim.pre args=true)(hwl:WellAll P h vals args):
  ∃a vs ns,vals=[h8 a]/\args=[WData.list (ns.map WData.int)]/\h.get? a=some {cls:=.type "list",data:=.seq vs.toArray}/\m4 vs ns/\ns.length<=n:=by
 have hsh:WShape.hasAll [] args [.list .int]=true:=(pre_splitW hpre).1;have hc:l.pre.holds [] {args:=args}=true:=(pre_splitW hpre).2;obtain⟨d,r,rfl,h1,h2⟩:=hasAllW_cons hsh;obtain rfl:=hasAllW_nil h2;obtain⟨xs,rfl,h3⟩:=hasW_list h1;obtain⟨ns,rfl⟩:=items_int h3;have rg:ns.length<=n:=by
  unfold OpenLaw.pre at hc;have h4:(WTm.not (.lt (.lit (.int (n:Int))) (.len (.arg 0)))).holds [] {args:=[.list (ns.map .int)]}=true:=by
   have h4:=(holds_andW hc).1;rw[hn]at h4;exact h4
  have h5:=condW_of h4 (w_not (w_lt w_lit (w_len_list (w_arg rfl))));rw[b8]at h5;refine Nat.le_of_not_lt λq=> ?_;have q':(n:Int)<((ns.length:Nat):Int):=by omega
  first
   | (rw[AS q']at h5;exact absurd h5 (by decide))
   | (simp at h5;omega)
 cases hwl with
 |cons w1 w2=>
  cases w2;cases w1 with
  |list ho hall=>exact⟨_,_,ns,rfl,rfl,ho,A3c ns _ hall,rg⟩
theorem A3y (l:OpenLaw)(args:List WData):l.row.toRowW.claim.post args (.bool true) args=true:=
 postW_of (r:=l.row.toRowW) (X:=(true==true))
  (show WShape.has [] (.bool true) .bool=true by first|rfl|decide|simp[WShape.has,WShape.arms,WShape.armsAll])
  (show(WTm.eq .res (.lit (.bool true))).value [] {args:=args,res:=some (.bool true),after:=args}=some (.bool (true==true))from w_eq_bool (w_res rfl) w_lit) rfl
theorem attach_call {l:OpenLaw}{n:Nat}{q:il}{loose:List Str}{XP:(Str->Option gw)->iw->Prop}{YP:i6->iw->Prop}{d:DefRec}
  (hn:l.most=some n)(hdf:d.params.defaults=[])
  (call:∀(w:i6)(s₀ s₁:h7)(mg mb:Str->Option gw)(fa:gy)(o:Obj)(pm cd doc:gw)(a:gy)(vs:List gw)(ns:List Int),
   Ground q loose [] XP w s₀ mg mb s₁.heap->YP w s₁.heap->
   s₁.heap.get? fa=some o->o.data= .func (docDef d.name d.params d.body d.scope pm cd doc)->s₁.heap.CodeRec cd d.name->mg d.name=some (.ref fa)->
   s₁.heap.get? a=some {cls:=.type "list",data:=.seq vs.toArray}->m4 vs ns->ns.length<=n->s₁.gens= #[]->
   qc (iu l.prog w) zi (.call (.ref fa) ⟨[.ref a],[]⟩) (λr s'=>r= .ok (.ret (.bool true))/\OldK s₁.heap s'.heap/\s'.os=s₁.os/\vw s'.gens) s₁):
  WalkO q loose XP YP l.row.toRowW d [] (λf vs=>PySem.call f vs):=by
 intro w s₀ s₁ mg mb G Y fa o pm cd doc dV kV ho hd hcd hD hmg hg args vals as hpre hlay hrd hwl hlo;obtain rfl:dV= .none:=Dflts.none hD hdf;obtain rfl:kV= .none:=Dflts.noKw hD;obtain⟨a,vs,ns,rfl,rfl,hobj,hints,rg⟩:=A45 hn hpre hwl;refine enter_call (ng (call w s₀ s₁ mg mb fa o pm cd doc a vs ns G Y ho (fd_plain hd) hcd hmg hobj hints rg hg) λr s' hq=> ?_);obtain⟨rfl,h2,h3,h4⟩:=hq;exact⟨.inl ⟨.bool true,.bool true,[],rfl,λ_=>rfl,.bool true,A3y l _,λ_=> ⟨ny.nil,λ_ hm=>(nomatch hm)⟩⟩,h2,h3,h4⟩
noncomputable def ledger (h:iw)(L d:gy):List (gy×Obj):=(iq h.objs.size).filterMap λa=>if a=L\/a=d then none else(h.get? a).map λo=>(a,o)
end Att
namespace L2
open PySem PySem.Spec PyProof.Rows
theorem A1f:∀{vs:List gw}{ns:List Int},m4 vs ns->Vals (ns.map V.int) vs
 |_,_,.nil=> .nil
 |_,_,.cons n t h=> .cons ⟨t,rfl⟩ (A1f h)
noncomputable def qL (H:Hp):Prop:=∀b,H b=none\/ ∃o xs,H b=some (.frz o (.lst xs))
theorem B3v {P:il}{w:i6}{K:W.Frag}{mg mb:Str->Option gw}{CX:CXT}{k:Nat}{fa a:gy}{fd:ou}{x:Str}{sp:Sp}{s₁:h7}{vs:List gw}{ns:List Int}
  (KX:K.In s₁.heap)(hns:s₁.heap.Ns ip mg)(hb:s₁.heap.Ns builtinsNs mb)(hbb:∀x:Str,x≠ "__name__"->mb x=mq x)(hlim:s₁.heap.NoLimit)(hg:s₁.gens= #[])
  (ha:s₁.heap.get? a=some {cls:=.type "list",data:=.seq vs.toArray})(hi:m4 vs ns)(hl:ns.length<=gz)(hr:Room k zi)
  (F:∀base:iw,K.In base->base.Ns ip mg->gN P w K mg base CX k fa fd [x] sp)(hbind:∀(s:h7)(u:gw),zh s fd ⟨[u],[]⟩ [(x,u)])
  (hsp:∀H:Hp,qL H->A2 K H a (ns.map V.int)->sp [.ref a] H (λv _=>v= .bl true) λ_ _ _=>False)
  (hCX:∀H e s',CX [] H s₁ (λ_ _ _=>False) e s'->False):
  qc (iu P w) zi (.call (.ref fa) ⟨[.ref a],[]⟩) (λr s'=>r= .ok (.ret (.bool true))/\OldK s₁.heap s'.heap/\s'.os=s₁.os/\vw s'.gens) s₁:=by
 have rv:=A1f hi;have lenV:=hi.length;have core:∀H:Hp,qL H->A2 K H a (ns.map V.int)->AZ P w H s₁.heap->(∀b,H b≠none->b=a)->(H a≠none->K.lookup a=none)->
   qc (iu P w) zi (.call (.ref fa) ⟨[.ref a],[]⟩) (λr s'=>r= .ok (.ret (.bool true))/\OldK s₁.heap s'.heap/\s'.os=s₁.os/\vw s'.gens) s₁:=by
  intro H hO hS hok hA hK;have base_of:∀{b:gy}{o:Obj},s₁.heap.get? b=some o->H b=none->(iB s₁.heap H).get? b=some o:=λe n=>A7r e n;have noA:∀{b:gy}{o:Obj}{es:Array Aw}{ep:Nat},s₁.heap.get? b=some o->o.data= .dict es ep->H b=none:=fun{b o es ep} e d=>by
   cases q:H b with
   |none=>rfl
   |some u=>
    have e':b=a:=hA b (by rw[q];simp);subst e';rw[ha]at e;cases e;have d':Data.seq vs.toArray _=Data.dict es ep:=d;cases d'
  have nsK:∀{b:gy}{m:Str->Option gw},s₁.heap.Ns b m->(iB s₁.heap H).Ns b m:=fun{b m} ⟨o,es,ep,e,d,r⟩=> ⟨o,es,ep,base_of e (noA e d),d,r⟩;have hKb:K.In (iB s₁.heap H):=λb o e=>base_of (KX b o e) (by
   cases q:H b with
   |none=>rfl
   |some u=>
    have e':b=a:=hA b (by rw[q];simp);subst e';rw[hK (by rw[q];simp)]at e;cases e)
  have hM:Mod K mg (iB s₁.heap H):=⟨hKb,nsK hns,⟨mb,nsK hb,hbb⟩,let ⟨mc,h1,h2⟩:=hlim;⟨mc,nsK h1,h2⟩⟩;have e0:nX P w K mg (iB s₁.heap H) zi [] s₁ H:=⟨rfl,hM,λb o e=>A5c e,le_of_eq (A34 _ _),trivial,λb hb=>absurd (show b∈([]:List gy)from hb) (by simp),hok,.of_eq hg⟩;refine ng ((F _ hKb (nsK hns)).run zi [] s₁ H ⟨[.ref a],[]⟩ [.ref a] [.ref a] _ _ hr e0 (hbind s₁ (.ref a)) (.cons rfl .nil) (hsp H hO hS)) λr s' h=> ?_;cases r with
  |error e=>exact(hCX H e s' h).elim
  |ok fl=>
   cases fl with
   |next=>exact m9 h
   |brk=>exact m9 h
   |cont=>exact m9 h
   |ret u=>
    obtain⟨v,H',os,bare,un,hok',r',q⟩:=h;have q':v= .bl true:=q;subst q';obtain rfl:u=m7 true:=r';refine⟨rfl,OldK.of_keep λb o e=> ?_,os,bare⟩;cases q:H b with
    |none=>exact un.keep b o e q (by intro z;exact absurd (show b∈([]:List gy)from z) (by simp)) (by simp)
    |some u=>
     rcases hO b with z| ⟨ob,xs,z⟩
     ·rw[q]at z;cases z
     ·have z2:=un.frzs b ob _ z;obtain⟨e1,_⟩:=hok b _ z;obtain⟨e2,_⟩:=hok' b _ z2;rw[e]at e1;cases e1;exact e2
 cases hk:K.lookup a with
 |some o=>
  have e:=KX a o hk;rw[ha]at e;cases e;refine core (λ_=>none) (λ_=> .inl rfl) (.inr ⟨_,vs.toArray,_,hk,rfl,rfl,rfl,by rw[fj,lenV];exact hl,by simpa using rv⟩) (λb u z=>by have z':(none:Option HO)=some u:=z;cases z') (λb z=>absurd rfl z) λz=>absurd rfl z
 |none=>
  refine core (λb=>if b=a then some (.frz {cls:=.type "list",data:=.seq vs.toArray} (.lst (ns.map V.int)))else none) (λb=> ?_) (.inl (.inr ⟨{cls:=.type "list",data:=.seq vs.toArray},if_pos rfl⟩)) (λb u z=> ?_) (λb z=> ?_) λ_=>hk
  ·by_cases hb:b=a
   ·exact .inr ⟨_,_,if_pos hb⟩
   ·exact .inl (if_neg hb)
  ·by_cases hb:b=a
   ·have z':=(if_pos hb).symm.trans z;cases z';subst hb;exact⟨ha,by rw[b8];exact hl,vs,_,rv,ha⟩
   ·have z':=(if_neg hb).symm.trans z;cases z'
  ·by_cases hb:b=a
   ·exact hb
   ·exact absurd (if_neg hb) z
theorem walk_of {l:W.OpenLaw}{n k:Nat}{q:il}{loose:List Str}{XP:(Str->Option gw)->iw->Prop}{YP:i6->iw->Prop}{d:DefRec}{K:Params->W.Frag}{CX:i6->CXT}{sp:i6->Sp}{x:Str}
  (hn:l.most=some n)(hn2:n<=gz)(hdf:d.params.defaults=[])(hr:Room k zi)
  (hY:∀(w:i6)(h:iw),YP w h->(K w.params).In h)
  (F:∀(w:i6)(mg:Str->Option gw)(fa:gy)(h:iw),(K w.params).In h->h.Ns ip mg->mg d.name=some (.ref fa)->
   ∃fd:ou,(∀(s:h7)(u:gw),zh s fd ⟨[u],[]⟩ [(x,u)])/\
    ∀base:iw,(K w.params).In base->base.Ns ip mg->gN l.prog w (K w.params) mg base (CX w) k fa fd [x] (sp w))
  (hsp:∀(w:i6)(H:Hp)(a:gy)(ns:List Int),ns.length<=n->qL H->A2 (K w.params) H a (ns.map V.int)->sp w [.ref a] H (λv _=>v= .bl true) λ_ _ _=>False)
  (hCX:∀(w:i6)(H:Hp)(s:h7)(e:gw)(s':h7),CX w [] H s (λ_ _ _=>False) e s'->False):
  W.WalkO q loose XP YP l.row.toRowW d [] (λf vs=>PySem.call f vs):=by
 refine Att.attach_call hn hdf λw s₀ s₁ mg mb fa o pm cd doc a vs ns G Y ho hd hcd hmg hobj hints rg hg=> ?_;have KX:=hY w _ Y;obtain⟨fd,hb,hF⟩:=F w mg fa _ KX G.T.g hmg;exact B3v KX G.T.g G.T.b G.T.builtins G.T.nolimit hg hobj hints (gc rg hn2) hr hF hb (λH hO hS=>hsp w H a ns rg hO hS) λH e s'=>hCX w H s₁ e s'
noncomputable def jI (s:je):Arguments:=match s with
 | .FunctionDef _ a _ _ _ _ _ _ _ _=>a
 |_=> {posonlyargs:=[],args:=[],vararg:=none,kwonlyargs:=[],kw_defaults:=[],kwarg:=none,defaults:=[]}
noncomputable def dN (s:je):List je:=match s with
 | .FunctionDef _ _ b _ _ _ _ _ _ _=>b
 |_=> []
noncomputable def bH (s:je):rl:=match s with
 | .FunctionDef _ _ _ _ _ _ sc _ _ _=>sc
 |_=> {kind:=.function,names:=[],isGenerator:=false,isCoroutine:=false}
noncomputable abbrev CX0:CXT:=λ_ _ _ _ _ _=>False
noncomputable abbrev E0:XK:=λ_ _ _=>False
theorem B42:qE CX0 X E0:=λ_ _ _ _ _ _ _ h=>h.elim
structure Fun (K:W.Frag)(x qual:Str)(st:je)(f:gy)(fd:ou):Prop where
 ex:∃(oc:gw)(od:Option gy)(kV doc pm:gw)(an:Option gy)(cdv ct:gw)(osl:Array (Option gw)),
  fd=W.fnOf x qual (jI st) (dN st) (bH st) .none kV doc pm an cdv ct/\K.lookup f=some ⟨oc,od,.func fd,osl⟩/\W.codeIn K cdv qual=true
 kp:W.keepIn K (.ref f)=true
section
variable {P:il}{w:i6}{K:W.Frag}{mg:Str->Option gw}{base:iw}
theorem Fun.ok {x qual:Str}{st:je}{f:gy}{fd:ou}{N ps:List Str}{k:Nat}{sp:Sp}(F:Fun K x qual st f fd)(S:iJ N ps (bH st))(len:∀vs H Q E,sp vs H Q E->vs.length=ps.length)
  (hbody:∀(cdv:gw)(A:kb)(outer:List Env)(s:h7)(H:Hp)(vs:List V)(Q:VK)(E:XK),Room k (A.deeper (sk qual (bH st) s.heap.objs.size f cdv))->sp vs H Q E->
   ∃t,A0 (fC CX0 P w K mg base N qual (bH st) f cdv A outer s H E).nox (dN st) t/\t {nx:=λ_ H'=>Q .non H',rt:=Q} (start N vs) H):gN P w K mg base CX0 (k+1) f fd ps sp:=by
 obtain⟨oc,od,kV,doc,pm,an,cdv,ct,osl,rfl,lk,hcd⟩:=F.ex;refine B0d lk hcd S len λA outer s H vs Q E hr hsp=> ?_;obtain⟨t,h,q⟩:=hbody cdv A outer s H vs Q E hr hsp;exact⟨t,h.nox,q⟩
theorem Fun.binds {x qual:Str}{st:je}{f:gy}{fd:ou}{ps:List Str}(F:Fun K x qual st f fd)
  (h:∀(kV doc pm:gw)(an:Option gy)(cdv ct:gw)(us:List gw),us.length=ps.length->bindArgs (W.fnOf x qual (jI st) (dN st) (bH st) .none kV doc pm an cdv ct) ⟨us,[]⟩=pure (ps.zip us)):Binds K fd ps []:=by
 obtain⟨oc,od,kV,doc,pm,an,cdv,ct,osl,rfl,lk,hcd⟩:=F.ex;exact .all (h kV doc pm an cdv ct)
theorem A5f {x qual:Str}{st:je}{f:gy}{oc:gw}{od an:Option gy}{osl:Array (Option gw)}{kV doc pm cdv ct:gw}(l:K.lookup f=some ⟨oc,od,.func (W.fnOf x qual (jI st) (dN st) (bH st) .none kV doc pm an cdv ct),osl⟩)
  (c:W.codeIn K cdv qual=true)(k:W.keepIn K (.ref f)=true):Fun K x qual st f (W.fnOf x qual (jI st) (dN st) (bH st) .none kV doc pm an cdv ct):=⟨⟨oc,od,kV,doc,pm,an,cdv,ct,osl,rfl,l,c⟩,k⟩
end
theorem kA (hr:Room k A):A.units+1<jt:=gh (tu (by decide:1<=64) _) hr.units
theorem cG (h:n<=1000):n<gz:=gh h (by decide)
section
variable {X:Cx}
theorem pv (i:Nat)(hN:X.N[i]?=some x:=by rfl)(hv:Vis X.env.scope x:=by first|exact jr rfl|exact nz (jr rfl)|exact nz (nz rfl))(hd:(x==("__debug__":Str))=false:=by decide)
  (hcd:(x==("__classdict__":Str))=false:=by decide):PE X (.Name x pos) (dY i):=A5z hN hv hd hcd
end
theorem bR {A B:Prop}(h:B):if false=true then A else B:=by rw[if_neg ib];exact h
theorem dW {A B:Prop}(h:A):if true=true then A else B:=by rw[if_pos rfl];exact h
noncomputable def Same (H H':Hp):Prop:=∀b o,H b=some o->H' b=some o
theorem Same.refl (H:Hp):Same H H:=λ_ _ h=>h
theorem Same.trans (a:Same H H1)(b:Same H1 H2):Same H H2:=λc o h=>b c o (a c o h)
theorem Same.free (e:Same H H')(h:H' l=yz):H l=yz:=by
 cases q:H l with
 |none=>rfl
 |some o=>
  rw[e l o q]at h;cases h
theorem Same.seq {K:W.Frag}{H H':Hp}{a:gy}{xs:List V}(e:Same H H')(h:A2 K H a xs):A2 K H' a xs:=by
 rcases h with(h| ⟨o,h⟩)|h
 ·exact .inl (.inl (e _ _ h))
 ·exact .inl (.inr ⟨o,e _ _ h⟩)
 ·exact .inr h
section
variable {κ:Type} [DecidableEq κ]
noncomputable def cE (kvs:List (κ×V))(k:κ):Option V:=(kvs.find? λkv=>decide (kv.1=k)).map (·.2)
noncomputable def cF (kvs:List (κ×V))(k:κ)(v:V):List (κ×V):=
 if (kvs.any λkv=>decide (kv.1=k))=true then kvs.map (λkv=>if kv.1=k then(kv.1,v)else kv)else kvs++[(k,v)]
theorem lE {p:κ×V}{r:List (κ×V)}{k:κ}(e:p.1=k):cE (p::r) k=some p.2:=by simp[cE,a9,e]
theorem mB {p:κ×V}{r:List (κ×V)}{k:κ}(e:¬p.1=k):cE (p::r) k=cE r k:=by simp[cE,a9,e]
theorem oS (k:κ):∀kvs:List (κ×V),(kvs.any λkv=>decide (kv.1=k))=(cE kvs k).isSome
 | []=>rfl
 |p::r=>by
  rw[ag];by_cases e:p.1=k
  ·simp only[lE e,AS e,Bool.true_or,Option.isSome_some]
  ·rw[mB e,AU e,Bool.false_or];exact oS k r
theorem mP (kvs:List (κ×V))(k:κ)(v:V):(cF kvs k v).length<=kvs.length+1:=by
 unfold cF
 split
 ·rw[b8];omega
 ·rw[bz,b4,b9];omega
theorem yW {kvs:List (κ×V)}{k:κ}(v:V)(h:cE kvs k=none):cF kvs k v=kvs++[(k,v)]:=by unfold cF;rw[oS,h];exact if_neg (by decide)
theorem RelO.isSome_eq (r:RelO o u):o.isSome=u.isSome:=by
 cases o with
 |none=>cases u with
  |none=>rfl
  |some _=>exact(show False from r).elim
 |some _=>cases u with
  |none=>exact(show False from r).elim
  |some _=>rfl
theorem RelO.getD (r:RelO o u)(rd:RelV d d'):RelV (o.getD d) (u.getD d'):=by
 cases o with
 |none=>cases u with
  |none=>exact rd
  |some _=>exact(show False from r).elim
 |some _=>cases u with
  |none=>exact(show False from r).elim
  |some _=>exact r
theorem KV.val {kvs:List (κ×V)}{vs:List (κ×gw)}(r:KV kvs vs)(k:κ):RelO (cE kvs k) (zj vs k):=by
 unfold KV at r
 induction r with
 |nil=>exact kf
 | @cons p q ps qs h t ih=>
  obtain⟨h1,h2⟩:=h;by_cases e:p.1=k
  ·have e':q.1=k:=h1.symm.trans e;have b:zj (q::qs) k=some q.2:=by simp[zj,a9,e']
   rw[lE e,b];exact h2
  ·have e':¬q.1=k:=λz=>e (h1.trans z);have b:zj (q::qs) k=zj qs k:=by simp[zj,a9,e']
   rw[mB e,b];exact ih
theorem KV.any (r:KV kvs vs)(k:κ):(kvs.any λkv=>decide (kv.1=k))=vs.any λkv=>decide (kv.1=k):=by
 unfold KV at r
 induction r with
 |nil=>rfl
 |cons h t ih=>rw[ag,ag,ih,h.1]
theorem KV.repl (r:KV kvs vs)(k:κ)(ry:RelV y u):
  KV (kvs.map λkv=>if kv.1=k then(kv.1,y)else kv) (vs.map λkv=>if kv.1=k then(kv.1,u)else kv):=by
 unfold KV at r⊢
 induction r with
 |nil=>exact .nil
 | @cons p q ps qs h t ih=>
  rw[cz,cz];refine .cons ?_ ih;obtain⟨h1,h2⟩:=h;by_cases e:p.1=k
  ·rw[if_pos e,if_pos (h1.symm.trans e)];exact⟨h1,ry⟩
  ·rw[if_neg e,if_neg (λz=>e (h1.trans z))];exact⟨h1,h2⟩
theorem KV.put (r:KV kvs vs)(k:κ)(ry:RelV y u):KV (cF kvs k y) (stored vs k u):=by
 unfold cF stored;rw[r.any k];by_cases e:(vs.any λkv=>decide (kv.1=k))=true
 ·rw[if_pos e,if_pos e];exact r.repl k ry
 ·rw[if_neg e,if_neg e];exact Paired.snoc r ⟨rfl,ry⟩
theorem KV.length (r:KV kvs vs):kvs.length=vs.length:=Paired.length r
end
theorem jK (r:RelV (kV k) u):(cW P w).is k u=true:=by
 cases k with
 |inl i=>obtain⟨t,e⟩:=(show∃t,u=Ar i t from r);subst e;exact A20 P w i t
 |inr x=>obtain⟨t,e⟩:=(show∃t,u=As x t from r);subst e;exact A5w P w x t
theorem yE:∀{ks:List Key}{us:List gw},Vals (ks.map kV) us->ItemsAre (cW P w) ks us
 | [],_,r=>by rw[map_nil]at r;cases r;exact .nil
 |k::ks,_,r=>by
  rw[cz]at r;cases r with
  |cons h t=>exact .cons (jK h) (yE t)
noncomputable abbrev KT (H:Hp):List (List Key×V)->List (List Key×gy×gw)->Prop:=Paired λp q=>p.1=q.1/\H q.2.1=some (.tup (p.1.map kV))/\RelV p.2 q.2.2
theorem KT.val {H:Hp}{kvs:List (List Key×V)}{xs:List (List Key×gy×gw)}(r:KT H kvs xs)(k:List Key):RelO (cE kvs k) ((zw xs k).map (·.2)):=by
 induction r with
 |nil=>exact kf
 | @cons p q ps qs h t ih=>
  obtain⟨h1,_,h2⟩:=h;by_cases e:p.1=k
  ·have e':q.1=k:=h1.symm.trans e;have b:zw (q::qs) k=some q.2:=by simp[zw,a9,e']
   rw[lE e,b];exact h2
  ·have e':¬q.1=k:=λz=>e (h1.trans z);have b:zw (q::qs) k=zw qs k:=by simp[zw,a9,e']
   rw[mB e,b];exact ih
theorem KT.repl (r:KT H kvs xs)(k:List Key)(ry:RelV y u):
  KT H (kvs.map λkv=>if kv.1=k then(kv.1,y)else kv) (xs.map (putAt k u)):=by
 induction r with
 |nil=>exact .nil
 | @cons p q ps qs h t ih=>
  rw[cz,cz];refine .cons ?_ ih;obtain⟨h1,h2,h3⟩:=h;unfold putAt;by_cases e:p.1=k
  ·rw[if_pos e,if_pos (h1.symm.trans e)];exact⟨h1,h2,ry⟩
  ·rw[if_neg e,if_neg (λz=>e (h1.trans z))];exact⟨h1,h2,h3⟩
theorem KT.put (r:KT H kvs xs)(k:List Key)(hb:H b=some (.tup (k.map kV)))(ry:RelV y u):
  KT H (cF kvs k y) (storedH xs k b u):=by
 have e:(kvs.any λkv=>decide (kv.1=k))=(zw xs k).isSome:=by
  rw[oS,(r.val k).isSome_eq,wd]
 unfold cF storedH;rw[e];by_cases q:(zw xs k).isSome=true
 ·rw[if_pos q,if_pos q];exact r.repl k ry
 ·rw[if_neg q,if_neg q];exact Paired.snoc r ⟨rfl,hb,ry⟩
theorem KT.keeps (r:KT H kvs xs)(ht:∀b ys,H b=some (.tup ys)->H' b=some (.tup ys)):KT H' kvs xs:=
 Paired.mapP r λ_ _ z=> ⟨z.1,ht _ _ z.2.1,z.2.2⟩
theorem zY (ok:AZ P w H h)(e:Rd H a u):ObjOk P w H h a u:=e.ok ok
theorem kC (ok:AZ P w H h)(e:Rd H a (.dK kvs)):kvs.length<=gz/\(a==kj)=false/\∃vs,KV kvs vs/\h.DictOf (cW P w) a vs:=
 show ObjOk P w H h a (.dK kvs)from zY ok e
theorem rY (ok:AZ P w H h)(e:H a=some (.dK kvs)):kvs.length<=gz/\(a==kj)=false/\∃vs,KV kvs vs/\h.DictOf (cW P w) a vs:=kC ok (.inl e)
theorem kF (ok:AZ P w H h)(e:H a=some (.tup (ks.map kV))):(qv (cW P w)).is h ks a:=by obtain⟨_,i8,r,o,h1,h2,n,h3⟩:=(show ObjOk P w H h a (.tup (ks.map kV))from ok a _ e);exact⟨o,i8.toArray,n,h1,h2,h3,by simpa using yE r⟩
theorem kQ (ok:AZ P w H h)(e:Rd H a (.dT kvs)):kvs.length<=gz/\(a==kj)=false/\
  ∃xs,KT H kvs xs/\h.DictOfH (qv (cW P w)) a xs:=by
 obtain⟨z,y,xs,r,o,es,ep,h1,h2,h3,h4,h5⟩:=(show ObjOk P w H h a (.dT kvs)from zY ok e);refine⟨z,y,xs,r,o,es,ep,h1,h2,h3,h4,λx hx=> ?_,h5⟩;have all:∀{l:List (List Key×V)}{m:List (List Key×gy×gw)},KT H l m->∀x∈m,(qv (cW P w)).is h x.1 x.2.1:=by
  intro l m q
  induction q with
  |nil=>intro x hx;exact nomatch hx
  | @cons p q ps qs hq t ih=>
   intro x hx;rcases di.mp hx with e|hx
   ·subst e;exact kF ok (by rw[←hq.1];exact hq.2.1)
   ·exact ih x hx
 exact all r x hx
theorem B04 (ok:AZ P w H h)(e:H a=some (.dT kvs)):kvs.length<=gz/\(a==kj)=false/\
  ∃xs,KT H kvs xs/\h.DictOfH (qv (cW P w)) a xs:=kQ ok (.inl e)
noncomputable def DGet (H:Hp)(a:gy)(y:V)(r:Option V):Prop:=
 (∃kvs k,Rd H a (.dK kvs)/\y=kV k/\r=cE kvs k)\/ ∃kvs k b,Rd H a (.dT kvs)/\y= .ref b/\H b=some (.tup (k.map kV))/\r=cE kvs k
noncomputable def DPut (H:Hp)(a:gy)(y v:V)(H':Hp):Prop:=
 (∃kvs k,H a=some (.dK kvs)/\y=kV k/\kvs.length<gz/\H'=upd H a (.dK (cF kvs k v)))\/
 ∃kvs k b,H a=some (.dT kvs)/\y= .ref b/\H b=some (.tup (k.map kV))/\kvs.length<gz/\H'=upd H a (.dT (cF kvs k v))
theorem DGet.k {H:Hp}{a:gy}{kvs:List (Key×V)}{k:Key}(e:H a=some (.dK kvs)):DGet H a (kV k) (cE kvs k):=.inl ⟨kvs,k,.inl e,rfl,rfl⟩
theorem DPut.k {H:Hp}{a:gy}{kvs:List (Key×V)}{k:Key}{v:V}(e:H a=some (.dK kvs))(hl:kvs.length<gz):DPut H a (kV k) v (upd H a (.dK (cF kvs k v))):=.inl ⟨kvs,k,e,rfl,hl,rfl⟩
theorem DPut.t {H:Hp}{a b:gy}{kvs:List (List Key×V)}{k:List Key}{v:V}(e:H a=some (.dT kvs))(eb:H b=some (.tup (k.map kV)))(hl:kvs.length<gz):
  DPut H a (.ref b) v (upd H a (.dT (cF kvs k v))):=.inr ⟨kvs,k,b,e,rfl,eb,hl,rfl⟩
theorem Inv.big (I:Inv X ir σ H s):kj<s.heap.objs.size:=by have h:ip<s.heap.objs.size:=(I.mod.glob.keeps I.bk).lt;exact lt_trans (by decide) h
theorem B17 (hu:A.units+1<jt)(I:Inv X ir σ H s)(g:DGet H a y (some v))(ry:RelV y u)(h:∀w' s',Inv X ir σ H s'->RelV v w'->Q w' s'):
  ia (iu X.prog X.w) A (qe (.ref a) u) Q E s:=by
 rcases g with⟨kvs,k,e,ey,l⟩| ⟨kvs,k,b,e,ey,eb,l⟩
 ·subst ey;obtain⟨z,hd,vs,rel,dd⟩:=kC I.hok e;obtain⟨w',hw,rw'⟩:=RelO.some_of (v:=v) (o:=zj vs k) (by rw[l];exact rel.val k);exact wpAny_getItem_of (jK ry) dd.mapOf hw (h w' _ (I.tok _) rw')
 ·subst ey;cases (show u=h8 b from ry);obtain⟨z,hd,xs,rel,dd⟩:=kQ I.hok e;obtain⟨w',hw,rw'⟩:=RelO.some_of (v:=v) (o:=(zw xs k).map (·.2)) (by rw[l];exact rel.val k);obtain⟨p,hp,hp2⟩:=x6.mp hw;refine wpAny_getItem_heap (pq hu) (kF I.hok eb) dd hp ?_;rw[hp2];exact h w' _ (I.tok _) rw'
theorem B4m (hu:A.units+1<jt)(I:Inv X ir σ H s)(g:DGet H a y o)(ry:RelV y u)(h:∀s',Inv X ir σ H s'->Q (.bool (!o.isSome)) s'):
  ia (iu X.prog X.w) A (jl .NotIn u (.ref a)) Q E s:=by
 rcases g with⟨kvs,k,e,ey,l⟩| ⟨kvs,k,b,e,ey,eb,l⟩
 ·subst ey;obtain⟨z,hd,vs,rel,dd⟩:=kC I.hok e;refine wpAny_notIn_of (jK ry) hd dd.mapOf ?_;rw[←(rel.val k).isSome_eq,←l];exact h _ (I.tok _)
 ·subst ey;cases (show u=h8 b from ry);obtain⟨z,hd,xs,rel,dd⟩:=kQ I.hok e;refine wpAny_notIn_heap (pq hu) (kF I.hok eb) hd dd ?_;have q:=(rel.val k).isSome_eq;rw[wd]at q;rw[←q,←l];exact h _ (I.tok _)
theorem nF (I:Inv X ir σ H s)(mu:Mut (H a))(hs:ju a s.heap h')(he:∃q,h'.get? a=some q)(new:ObjOk X.prog X.w (upd H a ob) h' a ob):
  Inv X ir σ (upd H a ob) {s with heap:=h',toks:=t'}:=
 I.write (x:=a) (e:=a) mu (.inl rfl) (λb q hb z=>(hs.2 b hb).trans z) he new
theorem rW (z:kvs.length<=gz)(hd:(a==kj)=false)(rel:KV kvs vs)(dd:h'.DictOf (cW P w) a vs):
  ObjOk P w H' h' a (.dK kvs):=⟨z,hd,vs,rel,dd⟩
theorem A91 (hu:A.units+1<jt)(I:Inv X ir σ H s)(g:DPut H a y v H')(ry:RelV y u)(rv:RelV v r)(h:∀s',Inv X ir σ H' s'->Q () s'):
  ia (iu X.prog X.w) A (setItem (.ref a) u r) Q E s:=by
 rcases g with⟨kvs,k,e,ey,l,eH⟩| ⟨kvs,k,b,e,ey,eb,l,eH⟩
 ·subst ey eH;obtain⟨z,hd,vs,rel,dd⟩:=rY I.hok e;have hz:vs.length<=gz:=by rw[←rel.length];exact z
  have hl:(cF kvs k v).length<=gz:=by have:=mP kvs k v;omega
  refine wpAny_setItem_pairs (hsz:=hz) (jK ry) dd λh' dd' hs=>h _ ?_;have he:∃q,h'.get? a=some q:=let ⟨q,_,_,hq,_⟩:=dd';⟨q,hq⟩;exact nF I (by rw[e];exact kf) hs he (rW hl hd (rel.put k rv) dd')
 ·subst ey eH;cases (show u=h8 b from ry);obtain⟨z,hd,xs,rel,dd⟩:=B04 I.hok e;have hz:xs.length<=gz:=by rw[←Paired.length rel];exact z
  have hl:(cF kvs k v).length<=gz:=by have:=mP kvs k v;omega
  refine wpAny_setItem_heap (hsz:=hz) (pq hu) (kF I.hok eb) dd λh' dd' hs=>h _ ?_;obtain⟨q,es,ep,hq,h2,h3,h4,_,h5⟩:=dd';refine nF I (by rw[e];exact kf) hs ⟨q,hq⟩ ⟨hl,hd,_,(rel.put k eb rv).keeps λc ys ec=> ?_,q,es,ep,hq,h2,h3,h4,h5⟩;rw[bA (qQ ec e (λz=>nomatch z))];exact ec
noncomputable def zA (i:j7):Prop:=∀ov iv,yw i false ov iv=operate [ov,iv] (qe ov iv)
theorem A9k {prog:il}{w:i6}{A:kb}{E:gw->h7->Prop}{s:h7}{env:Env}{value slice:j7}{pos:Pos}{T id:String}{Q:gw->h7->Prop}
  (hl:typeLookup (.type T) "__getitem__" =pure (some (.builtin id)))(hs:zA slice)
  (h:ia (iu prog w) A (mv value env) (λo s₁=>ia (iu prog w) A (mv slice env) (λi s₂=>s₂.TypeIs o T/\ia (iu prog w) A (qe o i) Q E s₂) E s₁) E s):
  ia (iu prog w) A (mv (.Subscript value slice pos) env) Q E s:=by
 refine xx (m8 h (λo s₁ h₁=>m8 h₁ (λi s₂ h₂=> ?_) λ_ _ x=>x) λ_ _ x=>x);obtain⟨hT,h₂⟩:=h₂;unfold rj;refine AN ?_;rw[getitemInPython_of_ne hT.not_modules];refine AN (ph hT hl ?_);have fin:ia (iu prog w) A (yw slice false o i) (λr s₃=>ia (iu prog w) A (letTemporaryGo value o r>>=λ_=>pure r) Q E s₃) E s₂:=by
  rw[hs o i];exact wpAny_operating (m8 h₂ (λr s₃ h₃=>AN (wpAny_letTemporaryGo (AO h₃))) λ_ _ x=>x)
 first
  |exact AO (AN fin)
  |exact AN (AO (AN fin))
  |exact AN fin
theorem A3n (I:Inv X ir σ H s)(g:DGet H a y o):s.TypeIs (.ref a) "dict":=by
 rcases g with⟨kvs,k,e,_,_⟩| ⟨kvs,k,b,e,_,_,_⟩
 ·obtain⟨_,_,vs,_,dd⟩:=kC I.hok e;exact dd.typeIs
 ·obtain⟨_,_,xs,_,dd⟩:=kQ I.hok e;exact dd.typeIs
noncomputable def B01 (td ty:TE):TE:=λσ H Q=>td σ H λx H1=>ty σ H1 λy H2=> ∃a v,x= .ref a/\DGet H2 a y (some v)/\Q v H2
noncomputable def A6e (ty td:TE):TE:=λσ H Q=>ty σ H λy H1=>td σ H1 λx H2=> ∃a o,x= .ref a/\DGet H2 a y o/\Q (.bl (!o.isSome)) H2
noncomputable def B1h (td ty tv:TE):TS:=λD σ H=>tv σ H λv H1=>td σ H1 λx H2=>ty σ H2 λy H3=> ∃a H4,x= .ref a/\DPut H3 a y v H4/\D.nx σ H4
theorem lR (hu:X.A.units+1<jt)(ho:PE X o td)(hi:PE X i ty)(hs:zA i):PE X (.Subscript o i pos) (B01 td ty):=by intro ir s σ H Q I h;refine A9k PySem.F.slot_dict_getitem.lookup hs (thn (ho ir s σ H _ I h) λu s1 ⟨x,H1,I1,rx,q1⟩=>thn (hi ir s1 σ H1 _ I1 q1) λiv s2 ⟨y,H2,I2,ry,a,v,ex,g,q2⟩=> ?_);subst ex;obtain rfl:u=h8 a:=rx;exact⟨A3n I2 g,B17 hu I2 g ry λw' s3 I3 rw'=> ⟨v,H2,I3,rw',q2⟩⟩
theorem A4x (hu:X.A.units+1<jt)(hi:PE X i ty)(ho:PE X o td):PC X .NotIn i o (A6e ty td):=by intro ir s σ H Q I h;refine thn (hi ir s σ H _ I h) λiv s1 ⟨y,H1,I1,ry,q1⟩=>thn (ho ir s1 σ H1 _ I1 q1) λu s2 ⟨x,H2,I2,rx,a,ov,ex,g,q2⟩=> ?_;subst ex;obtain rfl:u=h8 a:=rx;exact B4m hu I2 g ry λs3 I3=> ⟨.bl (!ov.isSome),H2,I3,rfl,q2⟩
theorem A1w (hu:X.A.units+1<jt)(ho:PE X o td)(hi:PE X i ty)(hv:PE X value tv)(hs:Au value (some (.Subscript o i pos')) pos.line X.env=pure false):
  PS X (.Assign [.Subscript o i pos'] value pos) (B1h td ty tv):=by
 intro ir s σ H D I h;refine wpAny_Assign_Subscript (thn (hv ir s σ H _ I h) λr s1 ⟨v,H1,I1,rv,q1⟩=>thn (ho ir s1 σ H1 _ I1 q1) λu s2 ⟨x,H2,I2,rx,q2⟩=>thn (hi ir s2 σ H2 _ I2 q2) λiv s3 ⟨y,H3,I3,ry,a,H4,ex,g,q3⟩=> ?_) hs;subst ex;obtain rfl:u=h8 a:=rx;exact A91 hu I3 g ry rv λs4 I4=> ⟨σ,H4,I4,q3⟩
theorem xB (h:iw)(hb:kj<h.objs.size):ObjOk P w H (h.push {cls:=.type "dict",data:=.dict #[]}) h.objs.size (.dK []):=
 ⟨gv _,beq_eq_false_iff_ne.mpr (k6 (gu hb)),[],.nil,iw.DictOf.new h⟩
theorem A76 (h:iw)(hb:kj<h.objs.size):ObjOk P w H (h.push {cls:=.type "dict",data:=.dict #[]}) h.objs.size (.dT []):=
 ⟨gv _,beq_eq_false_iff_ne.mpr (k6 (gu hb)),[],.nil,_,#[],0,fu _ rfl,⟨rfl,rfl,rfl⟩,rfl,rfl,fb⟩
noncomputable def B13:TE:=λ_ H Q=> ∀p,H p=none->Q (.ref p) (upd H p (.dK []))
noncomputable def B00:TE:=λ_ H Q=> ∀p,H p=none->Q (.ref p) (upd H p (.dT []))
theorem A6q:PE X (.Dict [] [] pos) B13:=λir s σ H Q I h=>
 xi ⟨.ref s.heap.objs.size,_,I.laid (a:=s.heap.objs.size) (o:=.dK []) (t':=s.toks) (λ_ _ q=>AQ _ q) (AY _) (xB s.heap I.big),rfl,h _ (I.hok.fresh (AY _))⟩
theorem A7x:PE X (.Dict [] [] pos) B00:=λir s σ H Q I h=>
 xi ⟨.ref s.heap.objs.size,_,I.laid (a:=s.heap.objs.size) (o:=.dT []) (t':=s.toks) (λ_ _ q=>AQ _ q) (AY _) (A76 s.heap I.big),rfl,h _ (I.hok.fresh (AY _))⟩
noncomputable def qC:List (TE×TE)->St->Hp->(List (V×V)->Hp->Prop)->Prop
 | [],_,H,Q=>Q [] H
 | (tk,tv)::r,σ,H,Q=>tk σ H λx H1=>tv σ H1 λy H2=>qC r σ H2 λps H3=>Q ((x,y)::ps) H3
noncomputable abbrev VV:List (V×V)->List (gw×gw)->Prop:=Paired λp q=>RelV p.1 q.1/\RelV p.2 q.2
noncomputable def PPs (X:Cx)(pos:Pos)(keys:List (Option j7))(values:List j7)(trs:List (TE×TE)):Prop:=
 ∀(ir:List (gy×Obj))(s:h7)(σ:St)(H:Hp)(Q:List (V×V)->Hp->Prop),Inv X ir σ H s->qC trs σ H Q->
  ia (iu X.prog X.w) X.A (evalPairs (pairTrees keys values X.env pos)) (λvs s'=> ∃ps H',Inv X ir σ H' s'/\VV ps vs/\Q ps H') X.xe s
theorem A33:PPs X pos [] [] []:=λir s σ H Q I h=>pairTrees_nil_walk ⟨[],H,I,.nil,h⟩
theorem B3n (hk:PE X k tk)(hv:PE X v tv)(hr:PPs X pos ks vs trs):
  PPs X pos (some k::ks) (v::vs) ((tk,tv)::trs):=λir s σ H Q I h=>
 pairTrees_cons_walk (thn (hk ir s σ H _ I h) λu s1 ⟨x,H1,I1,rx,q1⟩=>thn (hv ir s1 σ H1 _ I1 q1) λw2 s2 ⟨y,H2,I2,ry,q2⟩=>
  thn (hr ir s2 σ H2 _ I2 q2) λws s3 ⟨ps,H3,I3,rel,q3⟩=> ⟨(x,y)::ps,H3,I3,.cons ⟨rx,ry⟩ rel,q3⟩)
noncomputable def kP (kvs more:List (Key×V)):List (Key×V):=more.foldl (λacc kv=>cF acc kv.1 kv.2) kvs
theorem KV.merge:∀{more:List (Key×V)}{rs:List (Key×gw)}{kvs:List (Key×V)}{vs:List (Key×gw)},KV more rs->KV kvs vs->KV (kP kvs more) (merged vs rs):=by
 intro more rs kvs vs r;unfold KV at r
 induction r generalizing kvs vs with
 |nil=>intro q;exact q
 | @cons p q ps qs h t ih=>
  intro r0;have e:KV (cF kvs p.1 p.2) (stored vs q.1 q.2):=by
   have:=r0.put p.1 h.2;rw[←h.1];exact this
  exact ih e
theorem zJ:∀(more kvs:List (Key×V)),(kP kvs more).length<=kvs.length+more.length
 | [],kvs=>by show kvs.length<=kvs.length+0;omega
 |p::r,kvs=>by
  have h1:=zJ r (cF kvs p.1 p.2);have h2:=mP kvs p.1 p.2;show(kP (cF kvs p.1 p.2) r).length<=_;rw[b4];omega
theorem A0v:∀{kvs:List (Key×V)}{ws:List (gw×gw)},VV (kvs.map λkv=>(kV kv.1,kv.2)) ws->∃rs,Carries (cW P w) ws rs/\KV kvs rs
 | [],_,r=>by rw[map_nil]at r;cases r;exact⟨[],kf,.nil⟩
 |p::kvs,_,r=>by
  rw[cz]at r;cases r with
  | @cons a b as bs h t=>
   obtain⟨rs,c,q⟩:=A0v (P:=P) (w:=w) t;obtain⟨b1,b2⟩:=b;exact⟨(p.1,b2)::rs,⟨jK h.1,rfl,c⟩,.cons ⟨rfl,h.2⟩ q⟩
noncomputable def jU (trs:List (TE×TE)):TE:=λσ H Q=> ∀p,H p=none->qC trs σ (upd H p (.dK [])) λps H2=>H2 p=some (.dK [])/\∃kvs:List (Key×V),ps=kvs.map (λkv=>(kV kv.1,kv.2))/\kvs.length<=15/\Q (.ref p) (upd H2 p (.dK (kP [] kvs)))
theorem A9c (h:PPs X pos keys values trs)(hall:keys.all (·.isSome)=true)(hl:keys.length=values.length)(h0:keys≠[])
  (h15:keys.length<=15):PE X (.Dict keys values pos) (jU trs):=by
 intro ir s σ H Q I q;have hn:=I.hok.fresh (AY s.heap.objs.size);have I1:=I.laid (a:=s.heap.objs.size) (o:=.dK []) (h':=s.heap.push {cls:=.type "dict",data:=.dict #[]}) (t':=s.toks) (λ_ _ q=>AQ _ q) (AY _) (xB s.heap I.big);refine wpAny_Dict_walk (knd:=cW X.prog X.w) hall hl h0 h15 (thn (h ir _ σ _ _ I1 (q _ hn)) λws s2 ⟨ps,H2,I2,rel,e,kvs,ep,lk,q2⟩=> ?_);subst ep;obtain⟨rs,c,rk⟩:=A0v (P:=X.prog) (w:=X.w) rel;obtain⟨z,hd,vs0,r0,dd⟩:=rY I2.hok e;cases r0;refine⟨rs,c,dd,λh' dd' hs=> ⟨.ref s.heap.objs.size,_,?_,rfl,q2⟩⟩;have hz:(kP [] kvs).length<=gz:=by
  have h1:=zJ kvs [];rw[b9]at h1;rw[jh];omega
 have he:∃q,h'.get? s.heap.objs.size=some q:=let ⟨q,_,_,hq,_⟩:=dd';⟨q,hq⟩;exact nF I2 (by rw[e];exact kf) hs he (rW hz hd (rk.merge .nil) dd')
end L2
set_option maxHeartbeats 4000000
namespace L2
open PySem PySem.Spec PyProof.Rows
structure cQ where
 cl:List (Str×gy)
 C:gy
 s:h7
 H:Hp
 fp:List gy
 pn:List (gy×Obj)
noncomputable def A80 (X:Cx)(N:List Str)(scope:rl)(Z:cQ):Cx where
 prog:=X.prog
 w:=X.w
 K:=X.K
 mg:=X.mg
 base:=X.base
 A:=X.A
 N:=N
 s₀:=Z.s
 H₀:=Z.H
 env:=compEnvC scope Z.cl Z.C X.env
 outer:=X.stack
 stack:=X.stack
 ex:=Z.fp
 fn:=λ_=>false
 calm:=X.calm
 pn:=Z.pn
 xe:=λ_ _=>False
noncomputable def zE (ns:List (Str×i7))(N:List Str)(scope:rl)(frees:List (Str×Nat)):Prop:=
 (∀x∈scope.names,x.2≠ .cell/\(x.2= .local->scope.names.lookup x.1=some .local)/\(x.2= .free->ns.lookup x.1=some .cell\/ns.lookup x.1=some .free))/\
 ∀p∈frees,N[p.2]?=some p.1/\scope.names.lookup p.1=some .free/\(ns.lookup p.1=some .cell\/ns.lookup p.1=some .free)
instance (ns:List (Str×i7)) (N:List Str) (scope:rl) (frees:List (Str×Nat)):Decidable (zE ns N scope frees):=by unfold zE;infer_instance
noncomputable def σC (n:Nat)(frees:List (Str×Nat))(σ:St):St:=List.replicate n none++frees.map λp=>(σ[p.2]?).join
theorem A7w (hf:∀x∈scope.names,x.2= .free->∃c,env.cells.lookup x.1=some c):
  ∃cl,closureFor scope env=pure cl/\(∀x c,cl.lookup x=some c->env.cells.lookup x=some c)/\∀x,(x,jj)∈scope.names->∃c,cl.lookup x=some c:=by
 have go:∀(names:List (Str×i7))(cs:List (Str×gy)),(∀x∈names,x.2= .free->∃c,env.cells.lookup x.1=some c)->(∀x c,cs.lookup x=some c->env.cells.lookup x=some c)->
   ∃cl,(forIn names cs (λ(x:Str×i7) (r:List (Str×gy))=>(if (x.2==jj)=true then(do let a←cellOf env x.1;pure (sr ((x.1,a)::r)))else pure (sr r):Sem (ForInStep (List (Str×gy))))))=pure cl/\
    (∀x c,cl.lookup x=some c->env.cells.lookup x=some c)/\(∀x c,cs.lookup x=some c->∃c',cl.lookup x=some c')/\∀x,(x,jj)∈names->∃c,cl.lookup x=some c:=by
  intro names
  induction names with
  |nil=>intro cs _ h;exact⟨cs,rfl,h,λx c e=> ⟨c,e⟩,λx hx=>nomatch hx⟩
  |cons y r ih=>
   intro cs hf h;obtain⟨n,k⟩:=y;have hr:∀x∈r,x.2= .free->∃c,env.cells.lookup x.1=some c:=λx hx=>hf x (AW _ hx);by_cases hk:k= .free
   ·subst hk;obtain⟨c,hc⟩:=hf (n,.free) AX rfl;have h2:∀x c',((n,c)::cs).lookup x=some c'->env.cells.lookup x=some c':=λx c' e=>by
     rw[cv]at e;cases hx:x==n with
     |true=>
      rw[hx]at e;have:x=n:=eq_of_beq hx;cases e;rw[this];exact hc
     |false=>rw[hx]at e;exact h x c' e
    obtain⟨cl,e1,e2,e3,e4⟩:=ih ((n,c)::cs) hr h2;refine⟨cl,?_,e2,λx c' e=> ?_,λx hx=> ?_⟩
    ·rw[forIn_cons];have:cellOf env n=pure c:=by unfold cellOf;rw[hc]
     simp only[beq_self_eq_true,if_true,this,pure_bind];exact e1
    ·cases hx:x==n with
     |true=>exact e3 x c (by rw[cv,hx])
     |false=>exact e3 x c' (by rw[cv,hx];exact e)
    ·rcases di.mp hx with z|z
     ·cases z;exact e3 n c (by rw[cv,beq_self_eq_true])
     ·exact e4 x z
   ·obtain⟨cl,e1,e2,e3,e4⟩:=ih cs hr h;refine⟨cl,?_,e2,e3,λx hx=> ?_⟩
    ·rw[forIn_cons];have hb:(k==jj)=false:=by simpa using hk
     simp only[hb,jb,if_false,pure_bind];exact e1
    ·rcases di.mp hx with z|z
     ·cases z;exact absurd rfl hk
     ·exact e4 x z
 obtain⟨cl,e1,e2,_,e4⟩:=go scope.names [] hf (λx c e=>by simp at e);refine⟨cl,?_,e2,e4⟩;unfold closureFor
 first
  | (rw[e1];rfl)
  | (simp only[e1];rfl)
  |simp[e1]
theorem vF {env:Env}:∀{names:List (Str×i7)}{x:Str},names.lookup x=some .free->
  (names.map λ(n,k)=>if (k==jj&&env.scope.kind== .function&&env.kindOf n==some .cell)then(n,j4)else(n,k)).lookup x=some .cell\/
  (names.map λ(n,k)=>if (k==jj&&env.scope.kind== .function&&env.kindOf n==some .cell)then(n,j4)else(n,k)).lookup x=some .free
 | [],_,h=>by simp at h
 | (n,k)::r,x,h=>by
  have ih:=@vF env r x;show lookup x ((if (k==jj&&env.scope.kind== .function&&env.kindOf n==some .cell)=true then(n,j4)else(n,k))::_)=_\/lookup x ((if (k==jj&&env.scope.kind== .function&&env.kindOf n==some .cell)=true then(n,j4)else(n,k))::_)=_;cases hx:x==n with
  |true=>
   simp only[cv,hx]at h;cases h;by_cases hc:(jj==jj&&env.scope.kind== .function&&env.kindOf n==some .cell)=true
   ·rw[if_pos hc];left;rw[cv,hx]
   ·rw[if_neg hc];right;rw[cv,hx]
  |false=>
   simp only[cv,hx]at h;by_cases hc:(k==jj&&env.scope.kind== .function&&env.kindOf n==some .cell)=true
   ·rw[if_pos hc];simp only[cv,hx];exact ih h
   ·rw[if_neg hc];simp only[cv,hx];exact ih h
theorem relabel_back {env:Env}:∀{names:List (Str×i7)}{x:Str},
    ((names.map λ(n,k)=>if (k==jj&&env.scope.kind== .function&&env.kindOf n==some .cell)then(n,j4)else(n,k)).lookup x=some .cell\/
     (names.map λ(n,k)=>if (k==jj&&env.scope.kind== .function&&env.kindOf n==some .cell)then(n,j4)else(n,k)).lookup x=some .free)->
    (x,jj)∈names\/(x,j4)∈names
  | [],_,h=>by simp at h
  | (n,k)::r,x,h=>by
    have ih:=@relabel_back env r x;replace h:lookup x ((if (k==jj&&env.scope.kind== .function&&env.kindOf n==some .cell)=true then(n,j4)else(n,k))::_)=_\/lookup x ((if (k==jj&&env.scope.kind== .function&&env.kindOf n==some .cell)=true then(n,j4)else(n,k))::_)=_:=h;cases hx:x==n with
    |true=>
      have e:x=n:=eq_of_beq hx;subst e;by_cases hc:(k==jj&&env.scope.kind== .function&&env.kindOf x==some .cell)=true
      · have:k= .free:=by
          simp only[i4]at hc;exact eq_of_beq hc.1.1
        subst this;exact .inl AX
      · rw[if_neg hc]at h
        simp only[cv,hx,kr]at h;rcases h with h|h
        · subst h;exact .inr AX
        · subst h;exact .inl AX
    |false=>
      have h':_:=h;by_cases hc:(k==jj&&env.scope.kind== .function&&env.kindOf n==some .cell)=true
      · rw[if_pos hc]at h;simp only[cv,hx]at h
        rcases ih h with z|z
        · exact .inl (AW _ z)
        · exact .inr (AW _ z)
      · rw[if_neg hc]at h;simp only[cv,hx]at h
        rcases ih h with z|z
        · exact .inl (AW _ z)
        · exact .inr (AW _ z)
noncomputable abbrev TC:=St->Hp->(St->Hp->Prop)->Prop
noncomputable def dF (J:It)(g:TG)(tb:TS)(D:eA)(σ:St)(H:Hp):Prop:=∃W:Nat->Nat->St->Hp->Prop,(∃m,W 0 m σ H)/\∀i m σ H,W i m σ H->
 (J.stop i H/\D.nx σ H)\/(J.go i H/\∃N:St->Hp->Prop,(∀σ' H',N σ' H'->∃m',m'<m/\W (i+1) m' σ' H')/\∀x H',J.yld i H x H'->g x σ H' λσ2 H2=>tb {D with nx:=N,ct:=N,bk:=D.nx} σ2 H2)
noncomputable def eC (Q:St->Hp->Prop):eA:={nx:=Q,rt:=λ_ _=>False}
noncomputable def cS (tt:TT)(tb:TC):TS:=λD σ H=>tt σ H λb H1=>if b=true then tb σ H1 D.nx else D.nx σ H1
noncomputable def fG (l:gy)(te:TE):TC:=λσ H Q=>te σ H λv H1=> ∃xs,H1 l=some (.lst xs)/\xs.length<gz/\Q σ (upd H1 l (.lst (xs++[v])))
noncomputable def nV (wi:TI)(g:TG)(tt:TT)(tb:TC):TC:=λσ H Q=>wi σ H λJ H1=>dF J g (cS tt tb) (eC Q) σ H1
noncomputable def A5x (wi:TI)(g:cQ->TG)(tt:cQ->TT)(te:cQ->TE)(n:Nat)(frees:List (Str×Nat)):TE:=λσ H Q=>wi σ H λJ H1=> ∀(Z:cQ)(l:gy),H1 l=none->
 dF J (g Z) (cS (tt Z) (fG l (te Z))) (eC λ_ H'=>Q (.ref l) H') (σC n frees σ) (upd H1 l (.lst []))
noncomputable def B31 (wi:TI)(g:cQ->TG)(tt:cQ->TT)(wi2:cQ->TI)(g2:cQ->TG)(tt2:cQ->TT)(te:cQ->TE)(n:Nat)(frees:List (Str×Nat)):TE:=λσ H Q=>wi σ H λJ H1=> ∀(Z:cQ)(l:gy),H1 l=none->
 dF J (g Z) (cS (tt Z) (nV (wi2 Z) (g2 Z) (tt2 Z) (fG l (te Z)))) (eC λ_ H'=>Q (.ref l) H') (σC n frees σ) (upd H1 l (.lst []))
noncomputable def testsOf (AJ:List j7)(env:Env):Sem Bool:=forIn AJ true λc r=>if r=true then do let ok←isTrue c env (mv c env);pure (sr ok)else pure (sr r)
noncomputable def PTs (Y:Cx)(AJ:List j7)(t:TT):Prop:=∀(ir:List (gy×Obj))(s:h7)(σ:St)(H:Hp)(Q:Bool->Hp->Prop),Inv Y ir σ H s->t σ H Q->
 ia (iu Y.prog Y.w) Y.A (testsOf AJ Y.env) (TP Y ir σ Q) Y.xe s
noncomputable def iE:TT:=λ_ H Q=>Q true H
theorem cB:PTs Y [] iE:=λir s σ H Q I h=>wpAny_tests_nil ⟨H,I,h⟩
theorem fP (hc:PT Y c t):PTs Y [c] t:=λir s σ H Q I h=>wpAny_tests_one (hc ir s σ H Q I h)
noncomputable def PB (Y:Cx)(tail:(Unit->Sem Fin)->Sem Fin)(r:TC):Prop:=∀(ir:List (gy×Obj))(s:h7)(σ:St)(H:Hp)(Q:St->Hp->Prop)(Q':Fin->h7->Prop)(k:Unit->Sem Fin),Inv Y ir σ H s->r σ H Q->
 (∀σ' H' s',Inv Y ir σ' H' s'->Q σ' H'->ia (iu Y.prog Y.w) Y.A (k ()) Q' (λ_ _=>False) s')->ia (iu Y.prog Y.w) Y.A (tail k) Q' (λ_ _=>False) s
theorem hJ (h:ia M A t Q E s)(hx:E=λ_ _=>False):ia M A t Q E' s:=by subst hx;exact m8 h (λ_ _ q=>q) λ_ _ z=>z.elim
noncomputable def sS (AI:j7)(acc:gw)(env:Env)(k:Unit->Sem Fin):Sem Fin:=(mv AI env>>=λx=>call (.builtin "list.append") [acc,x]>>=λ_=>pure ())>>=k
theorem vK (hx:Y.xe=λ_ _=>False)(he:PE Y AI te):PB Y (sS AI (.ref l) Y.env) (fG l te):=by intro ir s σ H Q Q' k I h hk;refine AN (AN (thn (hJ (he ir s σ H _ I h) hx) λv s1 ⟨x,H1,I1,r1,q1⟩=> ?_));obtain⟨xs,e,hz,q⟩:=q1;refine AN (thn (hJ (lH ir s1 σ H1 (.ref l) [x] (.ref l) [v] (λ_ H2=>Q σ H2) I1 rfl (.cons r1 .nil) ⟨l,xs,x,rfl,rfl,e,hz,q⟩) hx) λu s2 ⟨y,H2,I2,r2,q2⟩=> ?_);exact AO (hk σ H2 s2 I2 q2)
noncomputable def kI (e:j7)(d:Nat)(it acc:gw)(env:Env)(tg iter:j7)(AJ:List j7)(tail:(Unit->Sem Fin)->Sem Fin):Sem Fin:=
 zg iter.pos>>=λ_=>uv it>>=λr=>match r with
  |none=>pure (.done .next)
  |some v=>sj tg it v>>=λ_=>assign tg env v>>=λ_=>testsOf AJ env>>=λok=>
   if ok=true then tail (λ_=>again (.compLoop e d it acc env))else again (.compLoop e d it acc env)
theorem B2x (AI tg iter:j7)(AJ:List j7)(scope:rl)(pos:Pos)(it acc:gw)(env:Env):
  y6 (.ListComp AI [⟨tg,iter,AJ,0⟩] scope pos) 0 it acc env=kI (.ListComp AI [⟨tg,iter,AJ,0⟩] scope pos) 0 it acc env tg iter AJ (sS AI acc env):=by rfl
theorem B2y (AI tg iter:j7)(AJ:List j7)(g:zx)(scope:rl)(pos:Pos)(it acc:gw)(env:Env):
  y6 (.ListComp AI [g,⟨tg,iter,AJ,0⟩] scope pos) 1 it acc env=kI (.ListComp AI [g,⟨tg,iter,AJ,0⟩] scope pos) 1 it acc env tg iter AJ (sS AI acc env):=by rfl
noncomputable def qR (e:j7)(iter:j7)(acc:gw)(env:Env)(k:Unit->Sem Fin):Sem Fin:=
 mv iter env>>=λx=>zg iter.pos>>=λ_=>kg iter env x>>=λx=>xv [x] (Af x)>>=λi=>runOwn (.compStart e 1 i acc env) env>>=λ_=>k ()
theorem B3e (AI tg iter tg2 iter2:j7)(AJ ifs2:List j7)(scope:rl)(pos:Pos)(it acc:gw)(env:Env):
  y6 (.ListComp AI [⟨tg,iter,AJ,0⟩,⟨tg2,iter2,ifs2,0⟩] scope pos) 0 it acc env=kI (.ListComp AI [⟨tg,iter,AJ,0⟩,⟨tg2,iter2,ifs2,0⟩] scope pos) 0 it acc env tg iter AJ
   (qR (.ListComp AI [⟨tg,iter,AJ,0⟩,⟨tg2,iter2,ifs2,0⟩] scope pos) iter2 acc env):=by rfl
theorem kD {α β:Type}{F:α->β->Prop}{l:List α}{m:List β}{i:Nat}{a:α}(h:Paired F l m)(e:l[i]?=some a):∃b,m[i]?=some b/\F a b:=by
 induction h generalizing i with
 |nil=>simp at e
 |cons r t ih=>cases i with|zero=>cases e;exact⟨_,rfl,r⟩|succ i=>exact ih (by simpa using e)
theorem B4g {α β:Type}{F:α->β->Prop}{l:List α}{m:List β}{i:Nat}{b:β}(h:Paired F l m)(e:m[i]?=some b):∃a,l[i]?=some a/\F a b:=by
 induction h generalizing i with
 |nil=>simp at e
 |cons r t ih=>cases i with|zero=>cases e;exact⟨_,rfl,r⟩|succ i=>exact ih (by simpa using e)
theorem tF (h:l.length=2):∃a b,l=[a,b]:=by
 cases l with
 |nil=>cases h
 |cons a l=>obtain⟨b,rfl⟩:=List.length_eq_one_iff.mp (x8 h);exact⟨a,b,rfl⟩
theorem wA (h:l.length=3):∃a b c,l=[a,b,c]:=by
 cases l with
 |nil=>cases h
 |cons a l=>obtain⟨b,c,rfl⟩:=tF (x8 h);exact⟨a,b,c,rfl⟩
theorem A5o (h:l.length=4):∃a b c d,l=[a,b,c,d]:=by
 cases l with
 |nil=>cases h
 |cons a l=>obtain⟨b,c,d,rfl⟩:=wA (x8 h);exact⟨a,b,c,d,rfl⟩
theorem oI
  (hx:Y.xe=λ_ _=>False)(hc:Y.calm=true)(heq:y6 ce d (.ref it) (.ref l) Y.env=kI ce d (.ref it) (.ref l) Y.env tg iter AJ tail)(hg:PG Y tg g)(ht:PTs Y AJ tt)(hb:PB Y tail tb)
  (I:Inv Y ir σ H s)(T:gA Y.prog Y.w Y.K tg J fp it tn)(st:tn 0 s.heap)(f2:∀b∈fp,fI Y ir H b)(h:dF J g (cS tt tb) (eC Q) σ H)
  (hs:∀Q E s,ia (iu Y.prog Y.w) Y.A ((y6 ce d (.ref it) (.ref l) Y.env).onRaise λx=>do noteFrame x Y.env;theTreesLotGoes x) Q E s->ia (iu Y.prog Y.w) (Y.A.under (.compLoop ce d (.ref it) (.ref l) Y.env)) ((iu Y.prog Y.w).den (.compLoop ce d (.ref it) (.ref l) Y.env)) Q E s:=by exact λ_ _ _ h=>h):
  qc (iu Y.prog Y.w) Y.A (.compLoop ce d (.ref it) (.ref l) Y.env) (λr s'=>r= .ok .next/\∃σ' H',Inv Y ir σ' H' s'/\Q σ' H') s:=by
 obtain⟨W,⟨m0,w0⟩,turn⟩:=h;have stat:∀{H':Hp},(∀b∈fp,H' b=none)->∀b∈fp,fI Y ir H' b:=λhn b hb=> ⟨hn b hb,(f2 b hb).2⟩;refine codeAny_loop rfl (λn s'=> ∃i σ' H',Inv Y ir σ' H' s'/\tn i s'.heap/\(∀b∈fp,H' b=none)/\W i n σ' H') (λn s3 hI=> ?_) m0 ⟨0,σ,H,I,st,λb hb=>(f2 b hb).1,w0⟩;obtain⟨i,σ3,H3,I3,st3,fr3,w3⟩:=hI;refine hs _ _ _ ?_;refine wpAny_noted ?_;rw[heq];unfold kI;refine AN (nv (AN ?_));rcases turn i n σ3 H3 w3 with⟨stop,qn⟩| ⟨go,N,hN,step⟩
 ·refine thn (T.done Y rfl rfl rfl hc i ir s3 σ3 H3 _ I3 (stat fr3) st3 stop) λr s4 ⟨hr,I4⟩=> ?_;subst hr;exact AO ⟨rfl,σ3,H3,I4,qn⟩
 ·refine thn (T.item Y rfl rfl rfl hc i ir s3 σ3 H3 _ I3 (stat fr3) st3 go) λr s4 ⟨u,hr,h4⟩=> ?_;subst hr;refine AN (thn h4 λ_ s5 ⟨x,H5,I5,r5,y5,st5,fr5⟩=> ?_);have I5':=I5.pinned (stat fr5) (T.obj _ _ st5);refine AN (thn (hJ (hg _ s5 σ3 H5 x u _ I5' r5 (step x H5 y5)) hx) λ_ s6 ⟨σ6,H6,I6,q6⟩=> ?_);refine AN (thn (hJ (ht _ s6 σ6 H6 _ I6 q6) hx) λok s7 ⟨H7,I7,q7⟩=> ?_);have again:∀{σ7:St}{H7:Hp}{s7:h7},Inv Y (ir++lZ fp s5.heap) σ7 H7 s7->N σ7 H7->∃m,m<n/\∃i σ' H',Inv Y ir σ' H' s7/\tn i s7.heap/\(∀b∈fp,H' b=none)/\W i m σ' H':=fun{σ7 H7 s7} I7 n7=>by
   obtain⟨m',hm,w7⟩:=hN σ7 H7 n7;refine⟨m',hm,i+1,σ7,H7,I7.unpinned,T.keep _ _ _ st5 λb hb o e=>(I7.pin (b,o) (dh _ (dh _ (mW hb e)))).1,λb hb=> ?_,w7⟩;obtain⟨o,e,d⟩:=T.obj _ _ st5 b hb;exact(I7.pin (b,o) (dh _ (dh _ (mW hb e)))).2.1
  cases ok with
  |false=>
   rw[if_neg ib]at q7⊢;exact AO ⟨rfl,again I7 q7⟩
  |true=>
   rw[if_pos rfl]at q7⊢;exact hJ (hb _ s7 σ6 H7 _ _ _ I7 q7 λσ8 H8 s8 I8 q8=>AO ⟨rfl,again I8 q8⟩) rfl
theorem B41
  (h0:qc (iu prog w) A (.compLoop (.ListComp AI [g,⟨target,iter,AJ,0⟩] scope pos) 1 it acc env) R s)
  (h:ia (iu prog w) A (Af it) (λit' s'=>qc (iu prog w) A (.compLoop (.ListComp AI [g,⟨target,iter,AJ,0⟩] scope pos) 1 it' acc env) R s')
   (notedBy (iu prog w) A env λx s'=>R (.error x) s') s):
  qc (iu prog w) A (.compStart (.ListComp AI [g,⟨target,iter,AJ,0⟩] scope pos) 1 it acc env) R s:=by
 refine codeAny_of_tree ?_
 show ia _ _ ((compStart (.ListComp AI [g,⟨target,iter,AJ,0⟩] scope pos) 1 it acc env).onRaise (λx=>do noteFrame x env;zg theWindowsPlace)) _ _ s;refine wpAny_notedAt ?_;unfold compStart;show ia _ _ (ask>>=_) _ _ s;refine AN (wpAny_askSetting (wpAny_ite ?_))
 split
 ·first
   |exact AN (AO (AO (Az rfl h0)))
   |exact AO (Az rfl h0)
 ·first
   |exact AN (qw (AN (nv (AN (m8 h (λit' s' h'=>AO (Az rfl h')) λ_ _ x=>x)))))
   | (refine AN (qw ?_);show ia _ _ (zg iter.pos>>=_) _ _ s;exact AN (nv (AN (m8 h (λit' s' h'=>AO (Az rfl h')) λ_ _ x=>x))))
theorem A4c (hx:Y.xe=λ_ _=>False)(hc:Y.calm=true)(hi:PI Y tg iter wi)(hg:PG Y tg g)(ht:PTs Y AJ tt)(he:PE Y AI te)
  (hs:∀x,kg iter Y.env x=pure x:=by intro _;rfl):
  PB Y (qR (.ListComp AI [g1,⟨tg,iter,AJ,0⟩] scope pos) iter (.ref l) Y.env) (nV wi g tt (fG l te)):=by
 intro ir s σ H Q Q' k I h hk;unfold qR;refine AN (thn (hJ (hi ir s σ H _ I h) hx) λv s1 h1=> ?_);refine AN (nv (AN (y7 (hs v) (AN (jw (thn (hJ h1 hx) λitv s2 h2=> ?_))))));obtain⟨it,fp,tn,J,H2,e,I2,T,st2,f2,q2⟩:=h2;subst e;have L:qc (iu Y.prog Y.w) Y.A (.compLoop (.ListComp AI [g1,⟨tg,iter,AJ,0⟩] scope pos) 1 (.ref it) (.ref l) Y.env) (λr s'=>r= .ok .next/\∃σ' H',Inv Y ir σ' H' s'/\Q σ' H') s2:=
  oI hx hc (B2y ..) hg ht (vK hx he) I2 T st2 f2 q2
 refine AN (wpAny_runOwn (ng (B41 L (T.self _ _ _ _ _ st2 L)) λr s3 h3=> ?_));obtain⟨rfl,σ3,H3,I3,q3⟩:=h3;exact hk σ3 H3 s3 I3 q3
end L2
namespace PySem
open Sem (wp)
open AutoSeq1 (wpAny_loadPart')
theorem A3p (hit:s.heap.IsTupleIter it l i)
  (hl:s.heap.IsTuple l items)(hx:items[i]?=some x)
  (hQ:∀h',h'.IsTupleIter it l (i+1)->ju it s.heap h'->Q x {s with heap:=h'}):
  ia (iu prog w) A (ke (.ref it)) Q E s:=by
 obtain⟨o,ho,hc,hd⟩:=id hit;obtain⟨ol,hol,_,nl,hdl⟩:=hl;unfold ke;refine AN (jv (name:=k8 "__next__") hit.typeIs l7
  (ji l7 hit.typeIs ui ?_ (su _)))
 show ia _ _ (field (.ref it) 0>>=_) _ _ s;refine AN (jq ho hd (x:=.ref l) rfl ?_);show ia _ _ (if (h8 l==jf)=true then _ else _) _ _ s;rw[if_neg (show¬((h8 l==jf)=true)from ib)];show ia _ _ (field (.ref it) 1>>=_) _ _ s;refine AN (jq ho hd (x:=.int i 0) rfl ?_);show ia _ _ (zk (.ref l)>>=_) _ _ s;refine AN (ki hol hdl ?_);simp only[jd,hx];refine AN (y8 ho hd (by simp) (AO ⟨x,rfl,AO (hQ _ ?_ (tw ..))⟩));exact⟨_,fz _ ho (Obj.isFreed_of_fields (Obj.data_mapFields hd _)),(Obj.cls_mapFields ..).trans hc,by
  rw[Obj.data_mapFields hd];simp[qb]⟩
theorem B11 (hh:A.handled=none)
  (hit:s.heap.IsTupleIter it l i)(hl:s.heap.IsTuple l items)(hx:items[i]?=none)
  (hE:∀h' e,iw.ExtBut it s.heap h'->(∃o,h'.get? e=some o/\o.cls= .type "StopIteration")->E (.ref e) {s with heap:=h'}):
  ia (iu prog w) A (ke (.ref it)) Q E s:=by
 obtain⟨o,ho,hc,hd⟩:=id hit;obtain⟨ol,hol,_,nl,hdl⟩:=hl;unfold ke;refine AN (jv (name:=k8 "__next__") hit.typeIs l7
  (ji l7 hit.typeIs ui ?_ (su _)))
 show ia _ _ (field (.ref it) 0>>=_) _ _ s;refine AN (jq ho hd (x:=.ref l) rfl ?_);show ia _ _ (if (h8 l==jf)=true then _ else _) _ _ s;rw[if_neg (show¬((h8 l==jf)=true)from ib)];show ia _ _ (field (.ref it) 1>>=_) _ _ s;refine AN (jq ho hd (x:=.int i 0) rfl ?_);show ia _ _ (zk (.ref l)>>=_) _ _ s;refine AN (ki hol hdl ?_);simp only[jd,hx];refine AN (qw (AN (y8 ho hd (by simp) ?_)));show ia _ _ (newExc (.type "StopIteration") []>>=_) _ _ _;refine AN ?_;simp only[newExc,newTuple];refine AN (i9 ?_ (by size_fits));refine AN (m:=va _ _) (y7 (a:=jf) (by first|rfl| (simp only[va];rfl)) ?_);refine i9 ?_ (by size_fits);simp only[raiseNew];refine AN (wpAny_handled ?_)
 first|rw[show A.in1.handled=none from hh]|rw[hh]
 refine AN (AO (wpAny_throw ?_));exact hE _ _ (((tw ..).extBut.push _).push _) ⟨_,fu _ rfl,rfl⟩
theorem Draws.tuple (hh:A.handled=none)(it l:gy)(hne:l≠it)(items:Array gw):
  Draws prog w A it [it,l] items.size (λi v=>items[i]?=some v) (λi h=>h.IsTupleIter it l i/\h.IsTuple l items)where
 live:=λ_ _ st=>let ⟨o,ho,_⟩:=st.1;⟨o,ho⟩
 frame:=λ_ _ _ st hk=> ⟨st.1.at λo e=>hk it (by simp) o e,let ⟨o,ho,r⟩:=st.2;⟨o,hk l (by simp) o ho,r⟩⟩
 item:=λi s Q E hi st hQ=>by
  refine A3p st.1 st.2 (x:=items[i]) (by simp[hi]) λh' hit' AB=> ?_;exact hQ _ h' s.toks (by simp[hi]) ⟨hit',let ⟨o,ho,r⟩:=st.2;⟨o,(AB.2 l hne).trans ho,r⟩⟩ AB
 done:=λs Q E st hE=>B11 hh st.1 st.2 (by simp) hE
theorem A9w (l:gy)(items:Array gw)(n:Nat)(dct:Option gy)(sl:Array (Option gw)):
  Meets (ic.«enumerate.__new__» ⟨[.type "enumerate",.ref l],[]⟩) (λ_ R s=>s.heap.get? l=some {cls:=.type "tuple",dict:=dct,data:=.seq items n,slots:=sl}/\
   R (.ok (.ret (.ref (s.heap.push {cls:=.type "tuple_iterator",data:=.fields #[.ref l,.int 0 0]}).objs.size)))
    {s with heap:=(s.heap.push {cls:=.type "tuple_iterator",data:=.fields #[.ref l,.int 0 0]}).push {cls:=.type "enumerate",data:=.fields #[.none,.bool false,.ref s.heap.objs.size,qb 0,.none,.none]}}):=
 .of_wp λprog w A R s h=>by
  obtain⟨hp,g,d,tk,os⟩:=s;obtain⟨hl,h⟩:=h;have hsub:=sub_enumerate;have hL:uj (we ⟨hp,g,d,tk,os⟩) l items:=⟨_,hl,rfl,n,rfl⟩
  wp_walk using jn hl
  refine wpAny_stack_any λst=>AO ?_
  split
  ·rename_i c _ _ _ _ _;cases (c==gw.type "enumerate")
   ·wp_walk using jn hl,kl hL
    exact⟨_,rfl,h⟩
   ·wp_walk using jn hl,kl hL
    exact⟨_,rfl,h⟩
  ·wp_walk using jn hl,kl hL
   exact⟨_,rfl,h⟩
theorem B0r (hL:s.heap.IsTuple l items)
  (h:∀h',IsEnum h' (s.heap.objs.size+1) s.heap.objs.size 0 .none->h'.IsTupleIter s.heap.objs.size l 0->h'.objs.size=s.heap.objs.size+2->
   (∀b o,s.heap.get? b=some o->h'.get? b=some o)->Q (.ref (s.heap.objs.size+1)) {s with heap:=h'}):
  ia (iu prog w) A (call (.type "enumerate") [.ref l]) Q E s:=by
 obtain⟨⟨c,dct,dt,sl⟩,hl,hc,n,hd⟩:=hL;replace hc:c= .type "tuple":=hc;replace hd:dt= .seq items n:=hd;subst hc hd;refine An F.called_enumerate (by decide) (F.typeCall_enumerate_1 _) (F.newCall_enumerate_1 _) (λobj=>F.args_object_init_2 obj _) F.entry_enumerate_new
  (A9w l items n dct sl) ⟨hl,?_⟩
 have hz:(s.heap.push {cls:=.type "tuple_iterator",data:=.fields #[.ref l,.int 0 0]}).objs.size=s.heap.objs.size+1:=f6 ..;show _/\_;rw[hz];have he:IsEnum ((s.heap.push {cls:=.type "tuple_iterator",data:=.fields #[.ref l,.int 0 0]}).push
   {cls:=.type "enumerate",data:=.fields #[.none,.bool false,.ref s.heap.objs.size,qb 0,.none,.none]}) (s.heap.objs.size+1) s.heap.objs.size 0 .none:=by
  have:=fu (s.heap.push {cls:=.type "tuple_iterator",data:=.fields #[.ref l,.int 0 0]})
   (o:={cls:=.type "enumerate",data:=.fields #[.none,.bool false,.ref s.heap.objs.size,qb 0,.none,.none]}) rfl
  rw[hz]at this;exact this
 refine⟨⟨_,he,rfl⟩,h _ he ⟨_,AQ _ (fu _ rfl),rfl,rfl⟩ (by rw[f6,hz]) λb o x=>AQ _ (AQ _ x)⟩
end PySem
namespace L2
open PySem PySem.Spec PyProof.Rows
theorem mG:eO X (.builtin "isinstance") (λxs H Q=> ∃x T t b,xs=[x,.ty T]/\TyOf X.K H x t/\W.kitOne X.K t (.type T)=some b/\Q (.bl b) H):=by intro ir s σ H xs us Q I r h;obtain⟨x,T,t,b,rfl,ty,e,q⟩:=h;obtain⟨u,w',rfl,rx,rT⟩:=jX r;cases (show w'=gw.type T from rT);exact A8p I rx ty e λtk=> ⟨.bl b,H,I.tok _,rfl,q⟩
theorem uE:∀{bs:List Bool}{us:List gw},Vals (bs.map V.bl) us->LSm.BoolsAre us bs
 | [],_,.nil=> .nil
 |b::bs,_,.cons r t=>by
  cases (show _=m7 b from r);exact .cons b (uE t)
theorem fE (hc:X.calm=true):eO X (.builtin "all") (λxs H Q=> ∃(p:gy)(bs:List Bool),xs=[.ref p]/\A2 X.K H p (bs.map V.bl)/\Q (.bl (bs.all id)) H):=by
 intro ir s σ H xs us Q I r h;obtain⟨p,bs,rfl,hq,q⟩:=h;obtain⟨u,rfl,rx⟩:=fX r;cases rx;obtain⟨i8,rv,pl,hz⟩:=I.list hq;have hb:=uE rv;have AG:p<s.heap.objs.size:=by obtain⟨_,e,_⟩:=pl.isList;exact AV e
 refine call_all_walk (n5 pl.isList ?_);refine⟨s.heap.objs.size,[s.heap.objs.size,p],[s.heap.objs.size],i8.toArray.size,_,_,λi=>(bs[i]?).getD true,rfl,Walks.list (A:=X.A.in1) (by simp[I.ok.hd hc]) _ p (gu AG) i8.toArray,⟨⟨_,fu _ rfl,rfl,rfl⟩,pl.isList.push _⟩,λi v s' Q' E' hP hQ=> ?_,λh' tk hk=> ?_⟩
 ·obtain⟨b,e,rfl⟩:=hb.get i v (by simpa using hP);dsimp only at hQ;rw[e]at hQ;exact j8 hQ
 ·have e:((iq i8.toArray.size).all λi=>(bs[i]?).getD true)=bs.all id:=by rw[fj,hb.length,LSm.range_all]
  rw[e];exact⟨.bl _,H,I.kept (h':=h') (t':=tk) (zy hk),rfl,q⟩
theorem lC (hc:X.calm=true):eO X (.builtin "any") (λxs H Q=> ∃(p:gy)(bs:List Bool),xs=[.ref p]/\A2 X.K H p (bs.map V.bl)/\Q (.bl (bs.any id)) H):=by
 intro ir s σ H xs us Q I r h;obtain⟨p,bs,rfl,hq,q⟩:=h;obtain⟨u,rfl,rx⟩:=fX r;cases rx;obtain⟨i8,rv,pl,hz⟩:=I.list hq;have hb:=uE rv;have AG:p<s.heap.objs.size:=by obtain⟨_,e,_⟩:=pl.isList;exact AV e
 refine call_any_walk (n5 pl.isList ?_);refine⟨s.heap.objs.size,[s.heap.objs.size,p],[s.heap.objs.size],i8.toArray.size,_,_,λi=>(bs[i]?).getD false,rfl,Walks.list (A:=X.A.in1) (by simp[I.ok.hd hc]) _ p (gu AG) i8.toArray,⟨⟨_,fu _ rfl,rfl,rfl⟩,pl.isList.push _⟩,λi v s' Q' E' hP hQ=> ?_,λh' tk hk=> ?_⟩
 ·obtain⟨b,e,rfl⟩:=hb.get i v (by simpa using hP);dsimp only at hQ;rw[e]at hQ;exact j8 hQ
 ·have e:((iq i8.toArray.size).any λi=>(bs[i]?).getD false)=bs.any id:=by rw[fj,hb.length,LSm.range_any]
  rw[e];exact⟨.bl _,H,I.kept (h':=h') (t':=tk) (zy hk),rfl,q⟩
theorem Inv.turnedL {fp:List gy}{h':iw}{t':Nat}(I:Inv X ir σ H s)(k:∀b o,b∉fp->s.heap.get? b=some o->h'.get? b=some o)(hf:∀b∈fp,fI X ir H b):Inv X ir σ H {s with heap:=h',toks:=t'}:=by
 have nfp:∀b u,H b=some u->b∉fp:=λb u e z=>by rw[(hf b z).1]at e;cases e
 refine I.step (g':=s.gens) (d':=s.drawn) (ch:=fp) (λb hb=> ⟨(hf b hb).2.2.2.1,(hf b hb).2.1,(hf b hb).2.2.2.2.1,(hf b hb).2.2.2.2.2⟩) (λb o _ _ hc e _=>k b o hc e) (λb o _ _ hc e _=> ⟨o.slots,k b o hc e⟩) (λ_ _ _ _ n=>n) (λb o hc e=> ⟨o,k b o hc e⟩)
  (λ_ _ e=>e) (λ_ _ _ e=>e) (λb ps e=> ⟨#[],by rw[e];simp⟩) (λm hm=> ?_) (λb u e=> ?_) I.bare
 ·obtain⟨o,es,ep,ho,r⟩:=hm;exact⟨o,es,ep,k _ o (λz=>(hf _ z).2.1 rfl) ho,r⟩
 ·refine(I.hok b u e).stay (λc v hc q=>k c v ?_ q) (λ_ q=>q) λ_ _ q=>q;rcases hc with z|z
  ·rw[z];exact nfp b u e
  ·exact nfp c _ z
theorem Inv.turnLaid {fp:List gy}{h':iw}{t':Nat}{p:gy}{o:HO}(I:Inv X ir σ H s)(k:∀b u,b∉fp->s.heap.get? b=some u->h'.get? b=some u)(hf:∀b∈fp,fI X ir H b)(hp:s.heap.objs.size<=p)
  (new:ObjOk X.prog X.w (upd H p o) h' p o):Inv X ir σ (upd H p o) {s with heap:=h',toks:=t'}:=by
 have nfp:∀b u,H b=some u->b∉fp:=λb u e z=>by rw[(hf b z).1]at e;cases e
 have hn:=I.hok.fresh hp;have old:∀{b:gy}{u:Obj},s.heap.get? b=some u->b≠p:=λe=>gu (gi (AV e) hp);refine I.step (g':=s.gens) (d':=s.drawn) (ch:=fp) (λb hb=> ⟨(hf b hb).2.2.2.1,(hf b hb).2.1,(hf b hb).2.2.2.2.1,(hf b hb).2.2.2.2.2⟩) (λb o _ _ hc e _=>k b o hc e) (λb o _ _ hc e _=> ⟨o.slots,k b o hc e⟩) (λb o _ e n=>by rw[bA (old e)];exact n) (λb o hc e=> ⟨o,k b o hc e⟩)
  (λb xs e=>by rw[bA (bK e hn)];exact e) (λb u xs e=>by rw[bA (bK e hn)];exact e) (λb ps e=> ⟨#[],by rw[bA (bK e hn),e];simp⟩) (λm hm=> ?_) (λb u e=> ?_) I.bare
 ·obtain⟨o,es,ep,ho,r⟩:=hm;exact⟨o,es,ep,k _ o (λz=>(hf _ z).2.1 rfl) ho,r⟩
 ·by_cases hb:b=p
  ·subst hb;rw[aJ]at e;cases e;exact new
  ·rw[bA hb]at e;refine(I.hok b u e).stay (λc v hc q=>k c v ?_ q) (λc q=>by rw[bA (bK q hn)];exact q) λc xs q=>by rw[bA (bK q hn)];exact q
   rcases hc with z|z
   ·rw[z];exact nfp b u e
   ·exact nfp c _ z
noncomputable def Ite (S:Hp->List V->Prop):It:=
 ⟨λi H=> ∃xs x,S H xs/\xs[i]?=some x,λi H x H'=> ∃p y,x= .ref p/\H p=none/\H'=upd H p (.tup [.int i,y])/\∀xs,S H xs->xs[i]?=some y,λi H=> ∃xs,S H xs/\xs.length=i⟩
theorem B0o {P:il}{w:i6}{K:W.Frag}{es:List j7}{x1}{pos:Pos}(e it a:gy)(hei:e≠it):
  gA P w K (.Tuple es x1 pos) (Ite λH xs=>A3 K H a xs) [e,it] e (λi h=>(∃old,IsEnum h e it i old)/\h.IsTupleIter it a i/\a≠it/\a≠e)where
 mem:=by simp
 obj:=λi h st b hb=>by
  obtain⟨⟨old,he⟩,⟨o,e1,c,d⟩,_⟩:=st;rcases di.mp hb with z|z
  ·subst z;exact⟨_,he,λv z=>by cases z⟩
  ·have z':=d6.mp z;subst z';exact⟨o,e1,λv z=>by rw[d]at z;cases z⟩
 keep:=λi h h' st k=> ⟨let ⟨old,he⟩:=st.1;⟨old,k e (by simp) _ he⟩,st.2.1.at λo q=>k it (by simp) o q,st.2.2⟩
 item:=by
  intro X hP hw hK hc i ir s σ H E I hf st hg;subst hP hw hK;obtain⟨⟨old,he⟩,hit,hai,hae⟩:=st;obtain⟨xs,x,hq,hx⟩:=hg;obtain⟨i8,rv,p,hz⟩:=I.tuple hq;obtain⟨u,hu,ru⟩:=rv.get hx;have AG:i<i8.toArray.size:=by
   rw[fj];exact(AR.mp hu).1
  refine wpAny_pyNext_enum_itemD (Draws.tuple (A:=X.A.in1) (by simp[I.ok.hd hc]) it a hai i8.toArray) he ⟨hit,p⟩ AG hei (by simp[hei,k6 hae]) λv h' tk hv ho hst' hT hsz hk=> ?_;have hv':v=u:=by
   have e1:i8[i]?=some v:=by simpa using hv
   rw[hu]at e1;exact(ig e1).symm
  subst hv';refine⟨_,rfl,wpAny_letOwnedTupleGo_enum (s:={s with heap:=h',toks:=tk+1}) ho λh2 he2 hs2=> ?_⟩;have helt:e<s.heap.objs.size:=AV he;have hilt:it<s.heap.objs.size:=by obtain⟨_,q,_⟩:=hit;exact AV q
  have hTe:s.heap.objs.size≠e:=gr helt;have hn:H s.heap.objs.size=none:=I.hok.fresh (AY _);have kp:∀b o,b∉[e,it]->s.heap.get? b=some o->h2.get? b=some o:=λb o hb q=>by
   have hbe:b≠e:=λz=>hb (by simp[z]);have hbi:b≠it:=λz=>hb (by simp[z]);exact(hs2.2 b hbe).trans (hk b o hbe hbi q)
  have hT2:h2.get? s.heap.objs.size=some {cls:=.type "tuple",data:=.seq #[.int i tk,v]}:=(hs2.2 _ hTe).trans hT;have I2:Inv X ir σ (upd H s.heap.objs.size (.tup [.int i,x])) {s with heap:=h2,toks:=tk+1}:=I.turnLaid (fp:=[e,it]) kp hf (AY _) ⟨by show 2<=gz;rw[jh];decide,[.int i tk,v],.cons ⟨_,rfl⟩ (.cons ru .nil),⟨_,hT2,rfl,_,rfl⟩⟩;refine⟨.ref s.heap.objs.size,_,I2,rfl,⟨s.heap.objs.size,x,rfl,hn,rfl,λys hy=>by rw[I.tuple_inj hy hq];exact hx⟩,⟨⟨_,by simpa using he2⟩,hst'.1.at λo q=>(hs2.2 it hei.symm).trans q,hai,hae⟩,λb hb=> ?_⟩;have hbz:b≠s.heap.objs.size:=by
   rcases di.mp hb with z|z
   ·rw[z];exact gu helt
   ·rw[d6.mp z];exact gu hilt
  rw[bA hbz];exact(hf b hb).1
 done:=by
  intro X hP hw hK hc i ir s σ H E I hf st hg;subst hP hw hK;obtain⟨⟨old,he⟩,hit,hai,hae⟩:=st;obtain⟨xs,hq,hx⟩:=hg;obtain⟨i8,rv,p,hz⟩:=I.tuple hq;have hl:=rv.length;have hi:i8.toArray.size=i:=by rw[fj,←hl,hx]
  refine wpAny_pyNext_enum_endD (Draws.tuple (A:=X.A.in1) (by simp[I.ok.hd hc]) it a hai i8.toArray) he (by rw[hi];exact⟨hit,p⟩) λh' AB=> ⟨rfl,?_⟩;exact I.turned (it:=it) (t':=s.toks) (λb o hb q=>AB b o hb q) (hf it (by simp)).1 (hf it (by simp)).2.1 (hf it (by simp)).2.2.2.1 (hf it (by simp)).2.2.2.2.1 (hf it (by simp)).2.2.2.2.2
 self:=λ_ _ _ _ _ st h=>let ⟨old,he⟩:=st.1;wpAny_pyIter_enum he h
noncomputable def yU (K:W.Frag)(ta:TA):TI:=λσ H R=>ta σ H λvs H1=> ∃a xs,vs=[.ref a]/\A3 K H1 a xs/\R (Ite λH xs=>A3 K H a xs) H1
theorem mV {a:j7}{ta:TA}{p pos:Pos}{es:List j7}{x1}{tpos:Pos}(hc:X.calm=true)(hg:Gl X "enumerate")(hm:X.mg "enumerate" =none)(ha:PA X [a] ta)(hs:jo [a] X.env=[(false,mv a X.env)]:=by rfl):
  PI X (.Tuple es x1 tpos) (.Call (.Name "enumerate" p) [a] [] pos) (yU X.K ta):=by
 intro ir s σ H R I h;refine Call_ (iP I hg hm boot_enumerate (j9 (thn (ha pos ir s σ H _ I h) λus s1 ⟨vs,H1,I1,r1,q1⟩=> ?_) hs rfl));obtain⟨b,xs,e,hq,q⟩:=q1;subst e;obtain⟨u,rfl,rx⟩:=fX r1;cases rx;obtain⟨i8,rv,pt,hz⟩:=I1.tuple hq;have hblt:b<s1.heap.objs.size:=by obtain⟨o,ho,_⟩:=id pt;exact AV ho
 refine B0r pt λh' he hit hsz hk=> ?_;refine wpAny_pyIter_enum (s:={s1 with heap:=h'}) he ?_;have I2:Inv X ir σ H1 {s1 with heap:=h'}:=I1.kept (t':=s1.toks) hk;refine⟨s1.heap.objs.size+1,[s1.heap.objs.size+1,s1.heap.objs.size],_,_,H1,rfl,I2,B0o _ _ b (xj _),⟨⟨_,he⟩,hit,gu hblt,gu (gp hblt)⟩,λc hc'=> ?_,q⟩;have hge:s1.heap.objs.size<=c:=by
  rcases di.mp hc' with z|z
  ·rw[z];exact gb _
  ·rw[d6.mp z];exact AY _
 exact I1.fpOk hge (I1.hok.fresh hge)
theorem yH (Pv:Nat->St->Hp->Prop)(h0:Pv 0 σ H)(hl:∀i σ H,i<=xs.length->Pv i σ H->S H xs)
  (hs:∀i x p σ H,xs[i]?=some x->Pv i σ H->H p=none->g (.ref p) σ (upd H p (.tup [.int i,x])) λσ2 H2=>tb {D with nx:=Pv (i+1),ct:=Pv (i+1),bk:=D.nx} σ2 H2)(hd:∀σ H,Pv xs.length σ H->D.nx σ H):
  dF (Ite S) g tb D σ H:=by
 refine⟨λi m σ H=>m=xs.length - i/\i<=xs.length/\Pv i σ H,⟨xs.length,by simp,gv _,h0⟩,?_⟩;rintro i m σ H ⟨rfl,hi,p⟩;have q:=hl i σ H hi p;by_cases AG:i<xs.length
 ·refine .inr ⟨⟨xs,xs[i],q,by simp[AG]⟩,Pv (i+1),λσ' H' p'=> ⟨xs.length -(i+1),by omega,rfl,AG,p'⟩,λx H' y=> ?_⟩;obtain⟨pp,yy,e1,e2,e3,e4⟩:=y;subst e1 e3;exact hs i yy pp σ H (e4 xs q) p e2
 ·have e:i=xs.length:=by omega
  subst e;exact .inl ⟨⟨xs,q,rfl⟩,hd σ H p⟩
noncomputable def NewTup (H:Hp)(ys:List V)(Q:VK):Prop:=∀p H',Same H H'->H' p=some (.tup ys)->Q (.ref p) H'
theorem aY (h:H p=none):Same H (upd H p o):=λb u e=>by rw[bA (bK e h)];exact e
theorem NewTup.new (h:NewTup H ys Q)(hp:H p=none):Q (.ref p) (upd H p (.tup ys)):=h p _ (aY hp) aJ
theorem NewTup.old (h:NewTup H ys Q)(hp:H p=some (.tup ys)):Q (.ref p) H:=h p H (Same.refl H) hp
theorem Inv.newTup (I:Inv X ir σ H s)(r:Vals ys i8)(hz:ys.length<=gz)(h:NewTup H ys Q):EP X ir σ Q (.ref s.heap.objs.size) {s with heap:=s.heap.push {cls:=.type "tuple",data:=.seq i8.toArray}}:=
 ⟨.ref s.heap.objs.size,_,I.laid (t':=s.toks) (o:=.tup ys) (λb ob q=>AQ _ q) (AY _) ⟨hz,_,r,Av _ _⟩,rfl,h.new (I.hok.fresh (AY _))⟩
noncomputable def B3h:R2:=λx y H Q=> ∃a b xs ys,x= .ref a/\y= .ref b/\H a=some (.tup xs)/\H b=some (.tup ys)/\xs.length+ys.length<=gz/\NewTup H (xs++ys) Q
theorem jL:OpR X (ot .Add) B3h:=by
 intro ir s σ H x y v u Q I rx ry h;obtain⟨a,b,xs,ys,rfl,rfl,ha,hb,hz,q⟩:=h;cases rx;cases ry;obtain⟨i8,r1,p1,_⟩:=I.tuple (A3.of ha);obtain⟨its2,r2,p2,_⟩:=I.tuple (A3.of hb);by_cases hx:xs=[]
 ·subst hx;cases r1;obtain⟨⟨c1,d1,t1,l1⟩,ho,hc,n,hd⟩:=id p1;obtain⟨⟨c2,d2,t2,l2⟩,ho2,hc2,n2,hd2⟩:=id p2;simp only at hc hd hc2 hd2;subst hc hd hc2 hd2;exact Aj ⟨_,ho,rfl⟩ ⟨_,ho2,rfl⟩ xg zo qd p6 (ow _ _) (tuple_addW0 a b _ _ n n2 d1 d2 l1 l2 (by simp)) ⟨ho,ho2,.ref b,H,I,rfl,q.old hb⟩
 ·refine HT.cat_tup p1 p2 (λz=>hx (r1.nil_iff.mp z)) (λz=> ⟨.ref a,H,I,rfl,?_⟩) (λz=>I.newTup (r1.append r2) (by rw[bz];exact hz) q) (by rw[←r1.length,←r2.length];exact hz);have:ys=[]:=r2.nil_iff.mp z;subst this;rw[ak]at q;exact q.old ha
theorem A28 {t sl:gy}{items:Array gw}{vl vu:gw}{lo hi:Option Int}{Q:gw->h7->Prop}{prog:il}{w:i6}{A:kb}{E:gw->h7->Prop}(ht:xc s.heap t items)(hs:s.heap.IsSliceOf sl vl vu .none)(pl:wx vl lo)(pu:wx vu hi)
  (hw:HT.sIx items.size 0 lo=0/\HT.sIx items.size items.size hi=items.size)(h:Q (.ref t) s):ia (iu prog w) A (qe (.ref t) (.ref sl)) Q E s:=by
 obtain⟨os,hos,hcs,hds⟩:=id hs;have hTs:s.TypeIs (.ref sl) "slice":=⟨os,hos,hcs⟩;unfold qe
 try with_reducible refine jw ?_
 first|refine AN (AO ?_)|skip
 refine AN (wa ht.typeIs (by decide) (AN (jv (name:=k8 "__getitem__") ht.typeIs jc (ji jc ht.typeIs tq ?_ (u7 _ _)))));show ia _ _ (lu (.ref t)>>=_) _ _ s;refine AN (zq ht (AN (Al hTs ?_)));rw[if_pos (by decide)];refine AN (HT.sliceApplied_gen hs pl pu ?_);have hyes:(((HT.sIx items.size 0 lo:Nat):Int)==0&&(1:Int)==1&&(HT.sIx items.size items.size hi - HT.sIx items.size 0 lo)==items.size)=true:=by rw[hw.1,hw.2];simp
 show ia _ _ (if (((HT.sIx items.size 0 lo:Nat):Int)==0&&(1:Int)==1&&(HT.sIx items.size items.size hi - HT.sIx items.size 0 lo)==items.size)=true then _ else _) _ _ s;rw[if_pos hyes];obtain⟨⟨c1,d1,t1,l1⟩,ho,hc,n,hd⟩:=id ht;simp only at hc hd;subst hc hd;obtain⟨hp,g,d,tk,osx⟩:=s
 wp_walk using AutoSeq1.wpAny_loadPart' ho
 all_goals first|exact⟨_,rfl,h⟩|exact⟨_,rfl,AO h⟩
noncomputable def A37:V->Option Int->Option Int->Hp->VK->Prop:=λx lo hi H Q=> ∃a xs,x= .ref a/\H a=some (.tup xs)/\NewTup H (cJ xs lo hi) Q
theorem jM:SlR X A37:=by
 intro ir s σ H x v vl vu lo hi sl Q I rx hs pl pu h;obtain⟨a,xs,rfl,hx,q⟩:=h;cases rx;obtain⟨i8,r,ht,hz⟩:=I.tuple (A3.of hx);have rg:i8.toArray.size=xs.length:=by rw[fj];exact r.length.symm
 refine⟨"tuple",_,jc.lookup,ht.typeIs,?_⟩;by_cases hw:HT.sIx xs.length 0 lo=0/\HT.sIx xs.length xs.length hi=xs.length
 ·refine A28 ht hs pl pu (by rw[rg];exact hw) ⟨.ref a,H,I,rfl,?_⟩;have:cJ xs lo hi=xs:=by unfold cJ;rw[hw.1,hw.2];simp
  rw[this]at q;exact q.old hx
 ·refine HT.getItem_tuple_cut ht hs pl pu (by rw[rg];exact hw) ?_ (by rw[rg];exact hz);rw[rg];exact I.newTup ((r.drop (HT.sIx xs.length 0 lo)).take (HT.sIx xs.length xs.length hi - HT.sIx xs.length 0 lo)) (gc (tU xs lo hi) hz) q
noncomputable def Kn (H:Hp):Nat->V->Prop
 |0,_=>True
 |n+1,v=>match v with
  | .non=>True
  | .bl _=>True
  | .int _=>True
  | .str _=>True
  | .ref a=>(∃xs,H a=some (.lst xs))\/(∃kvs,H a=some (.dK kvs))\/ ∃xs,H a=some (.tup xs)/\xs.length<=1000/\∀x∈xs,Kn H n x
  |_=>False
noncomputable def KnA (H:Hp)(v:V):Prop:=∀n,Kn H n v
structure Ext (H H':Hp):Prop where
 tup:∀a xs,H a=some (.tup xs)->H' a=some (.tup xs)
 lst:∀a xs,H a=some (.lst xs)->∃ys,H' a=some (.lst ys)
 dct:∀a kvs,H a=some (.dK kvs)->H' a=some (.dK kvs)
theorem Ext.trans (a:Ext H H1)(b:Ext H1 H2):Ext H H2:=⟨λ_ _ h=>b.tup _ _ (a.tup _ _ h),λ_ _ h=>let ⟨_,e⟩:=a.lst _ _ h;b.lst _ _ e,λ_ _ h=>b.dct _ _ (a.dct _ _ h)⟩
theorem Same.ext (s:Same H H'):Ext H H':=⟨λ_ _ h=>s _ _ h,λ_ xs h=> ⟨xs,s _ _ h⟩,λ_ _ h=>s _ _ h⟩
theorem Kn.ext (e:Ext H H'):∀{n:Nat}{v:V},Kn H n v->Kn H' n v
 |0,_,_=>kf
 |n+1,v,h=>by
  cases v with
  |ref a=>
   rcases h with⟨xs,h⟩| ⟨kvs,h⟩| ⟨xs,h,hl,hx⟩
   ·exact .inl (e.lst _ _ h)
   ·exact .inr (.inl ⟨kvs,e.dct _ _ h⟩)
   ·exact .inr (.inr ⟨xs,e.tup _ _ h,hl,λx hm=>Kn.ext e (hx x hm)⟩)
  |_=>exact h
theorem Kn.le:∀{n m:Nat}{v:V},n<=m->Kn H m v->Kn H n v
 |0,_,_,_,_=>kf
 |n+1,0,_,h,_=>absurd h (by omega)
 |n+1,m+1,v,h,k=>by
  cases v with
  |ref a=>
   rcases k with⟨xs,k⟩| ⟨kvs,k⟩| ⟨xs,k,hl,hx⟩
   ·exact .inl ⟨xs,k⟩
   ·exact .inr (.inl ⟨kvs,k⟩)
   ·exact .inr (.inr ⟨xs,k,hl,λx hm=>Kn.le (by omega) (hx x hm)⟩)
  |_=>exact k
theorem KnA.int (i:Int):KnA H (.int i):=λn=>by cases n<;>exact kf
theorem KnA.tup (h:H a=some (.tup xs))(hl:xs.length<=1000)(hx:∀x∈xs,KnA H x):KnA H (.ref a):=λn=>by
 cases n with
 |zero=>exact kf
 |succ n=>exact .inr (.inr ⟨xs,h,hl,λx hm=>hx x hm n⟩)
theorem Kn.items (k:Kn H (n+1) (.ref a))(h:H a=some (.tup xs)):xs.length<=1000/\∀x∈xs,Kn H n x:=by
 rcases k with⟨ys,k⟩| ⟨kvs,k⟩| ⟨ys,k,hl,hx⟩
 ·rw[h]at k;cases k
 ·rw[h]at k;cases k
 ·rw[h]at k;cases k;exact⟨hl,hx⟩
noncomputable def isInt:V->Bool| .int _=>true|_=>false
noncomputable def uD:V->Bool| .bl _=>true|_=>false
noncomputable def tupOf (H:Hp):V->Option (List V)
 | .ref a=>match H a with|some (.tup xs)=>some xs|_=>none
 |_=>none
theorem gK (h:H a=some (.tup xs)):tupOf H (.ref a)=some xs:=by simp[tupOf,h]
theorem gU (h:tupOf H v=some xs):∃a,v= .ref a/\H a=some (.tup xs):=by
 cases v with
 |ref a=>
  unfold tupOf at h;cases e:H a with
  |none=>simp[e]at h
  |some o=>cases o<;>simp[e]at h;subst h;exact⟨a,rfl,e⟩
 |_=>simp[tupOf]at h
section
variable {K:W.Frag}
theorem oN {H:Hp}{v:V}(k:Kn H 1 v):∃t,TyOf K H v t/\W.kitOne K t (.type "int")=some (isInt v||uD v)/\W.kitOne K t (.type "bool")=some (uD v)/\W.kitOne K t (.type "tuple")=some (tupOf H v).isSome:=by
 cases v with
 |non=>exact⟨_,.non,by kernel_rfl,by kernel_rfl,by kernel_rfl⟩
 |bl b=>exact⟨_,.bl b,by kernel_rfl,by kernel_rfl,by kernel_rfl⟩
 |int i=>exact⟨_,.int i,by kernel_rfl,by kernel_rfl,by kernel_rfl⟩
 |str x=>exact⟨_,.str x,by kernel_rfl,by kernel_rfl,by kernel_rfl⟩
 |ref a=>
  rcases k with⟨xs,k⟩| ⟨kvs,k⟩| ⟨xs,k,hl,hx⟩
  ·refine⟨_,.lst k,by kernel_rfl,by kernel_rfl,?_⟩;have:(tupOf H (.ref a)).isSome=false:=by simp[tupOf,k]
   rw[this];kernel_rfl
  ·refine⟨_,.dK k,by kernel_rfl,by kernel_rfl,?_⟩;have:(tupOf H (.ref a)).isSome=false:=by simp[tupOf,k]
   rw[this];kernel_rfl
  ·refine⟨_,.tup k,by kernel_rfl,by kernel_rfl,?_⟩;have:(tupOf H (.ref a)).isSome=true:=by simp[tupOf,k]
   rw[this];kernel_rfl
 |_=>exact(show False from k).elim
end
noncomputable def fA (lo hi:Int):V->Bool| .int i=>decide (lo<=i)&&decide (i<=hi)|_=>false
theorem Same.tupOf (s:Same H H')(k:Kn H 1 v):L2.tupOf H' v=L2.tupOf H v:=by
 cases v with
 |ref a=>
  rcases k with⟨xs,k⟩| ⟨kvs,k⟩| ⟨xs,k,_⟩
  ·simp[L2.tupOf,k,s _ _ k]
  ·simp[L2.tupOf,k,s _ _ k]
  ·simp[L2.tupOf,k,s _ _ k]
 |_=>rfl
noncomputable def PenAt (H:Hp)(p:gy):Prop:=∃x f:Int,H p=some (.lst [.int x,.int f])
structure A5 (p:gy)(H H':Hp):Prop where
 pen:PenAt H' p
 keep:∀b o,b≠p->H b=some o->H' b=some o
theorem A5.refl (h:PenAt H p):A5 p H H:=⟨h,λ_ _ _ e=>e⟩
theorem A5.trans (a:A5 p H H1)(b:A5 p H1 H2):A5 p H H2:=⟨b.pen,λc o h e=>b.keep c o h (a.keep c o h e)⟩
theorem A5.same (a:A5 p H H1)(s:Same H1 H2):A5 p H H2:=⟨let ⟨x,f,e⟩:=a.pen;⟨x,f,s _ _ e⟩,λb o h e=>s _ _ (a.keep b o h e)⟩
theorem PenAt.ne (h:PenAt H p)(e:H b=some o)(n:∀xs,o≠ .lst xs):b≠p:=λz=>by
 obtain⟨x,f,e2⟩:=h;rw[z,e2]at e;cases e;exact n _ rfl
theorem A5.ext (h:PenAt H p)(s:A5 p H H'):Ext H H' where
 tup:=λa xs e=>s.keep a _ (h.ne e (by intro z;simp)) e
 lst:=λa xs e=>by
  by_cases ha:a=p
  ·obtain⟨x,f,e2⟩:=s.pen;exact⟨_,by rw[ha];exact e2⟩
  ·exact⟨xs,s.keep a _ ha e⟩
 dct:=λa kvs e=>s.keep a _ (h.ne e (by intro z;simp)) e
theorem iG {K:W.Frag}{a l:gy}{xs:List V}{te:TE}{H0:Hp}{rest:St}{Q:St->Hp->Prop}(f:V->V)(ha:H0 a=some (.tup xs))(hl:H0 l=none)(hz:xs.length<=1000)
  (turn:∀x H' Q',x∈xs->Same H0 H'->(∀H2,Same H' H2->Q' (f x) H2)->te (some x::rest) H' Q')(hQ:∀σ H',Same H0 H'->H' l=some (.lst (xs.map f))->Q σ H'):
  dF (Itt K a) (dL 0) (cS iE (fG l te)) (eC Q) (none::rest) (upd H0 l (.lst [])):=by
 have s0:Same H0 (upd H0 l (.lst [])):=aY hl;refine iK (K:=K) (a:=a) (xs:=xs) (λi σ H'=>(∃o,σ=o::rest)/\Same H0 H'/\H' l=some (.lst ((xs.take i).map f))) ⟨⟨_,rfl⟩,s0,by rw[aJ];rfl⟩ (λi σ H' _ h=>A3.of (h.2.1 _ _ ha)) ?_ ?_
 ·rintro i x σ H' hx ⟨⟨o,rfl⟩,hs,zl⟩;show fG l te (some x::rest) H' _;refine turn x H' _ (d3 hx) hs λH2 h2=> ?_;refine⟨_,h2 _ _ zl,?_,⟨_,rfl⟩,λb u e=> ?_,?_⟩
  ·rw[b8,cm];exact cG (by omega)
  ·rw[bA (bK e hl)];exact h2 _ _ (hs _ _ e)
  ·rw[aJ,fq,hx,cx];rfl
 ·rintro σ H' ⟨_,hs,zl⟩;rw[fo (AY _)]at zl;exact hQ σ H' hs zl
theorem gV (h:tb σ H D.nx):cS iE tb D σ H:=by show(if true=true then tb σ H D.nx else D.nx σ H);exact dW h
theorem iT (h:tb (σ.set i (some v)) H D.nx):dL i v σ H (λσ2 H2=>cS iE tb D σ2 H2):=gV h
theorem cU {b:Bool}{A B:Prop}(h1:b=true->A)(h2:b=false->B):if b=true then A else B:=by
 cases b with
 |true=>exact dW (h1 rfl)
 |false=>exact bR (h2 rfl)
theorem eZ {c:Prop} [Decidable c]{A B:Prop}(h1:c->A)(h2:¬c->B):if decide c=true then A else B:=by
 by_cases h:c
 ·rw[AS h];exact dW (h1 h)
 ·rw[AU h];exact bR (h2 h)
end L2
namespace L2
open PySem PyProof.Rows
section
variable {P:il}{w:i6}{K:W.Frag}{mg:Str->Option gw}{base:iw}{x:Str}{st:je}{ps:List Str}{sp:Sp}
noncomputable def D1 (K:W.Frag)(mg:Str->Option gw)(x:Str)(st:je)(ps:List Str):Prop:=∃f fd,Fun K x x st f fd/\mg x=some (.ref f)/\Binds K fd ps []
noncomputable def A1 (P:il)(w:i6)(K:W.Frag)(mg:Str->Option gw)(base:iw)(k:Nat)(x:Str)(sp:Sp):Prop:=∃f fd ps,mg x=some (.ref f)/\W.keepIn K (.ref f)=true/\Binds K fd ps []/\gN P w K mg base CX0 k f fd ps sp
theorem D1.k {k:Nat}(F:D1 K mg x st ps)(N:List Str)
  (hbody:N.Nodup->∀(f:gy)(cdv:gw)(A:kb)(outer:List Env)(s:h7)(H:Hp)(vs:List V)(Q:VK)(E:XK),Room k (A.deeper (sk x (bH st) s.heap.objs.size f cdv))->sp vs H Q E->
   ∃t,A0 (fC CX0 P w K mg base N x (bH st) f cdv A outer s H E).nox (dN st) t/\t {nx:=λ_ H'=>Q .non H',rt:=Q} (start N vs) H)
  (S:iJ N ps (bH st):=by ac_rfl)
  (len:∀vs H Q E,sp vs H Q E->vs.length=ps.length:=by intro _ _ _ _ h;repeat (first|exact congrArg kq h.1|obtain⟨_,h⟩:=h)):A1 P w K mg base (k+1) x sp:=
 let ⟨f,fd,F,m,b⟩:=F
 ⟨f,fd,ps,m,F.kp,b,F.ok S len (hbody S.nd f)⟩
theorem A1.c (a:A1 X.prog X.w X.K X.mg X.base k x sp)(hr:Room m X.A)(ha:PA X (e::es) t)(h:k<=m:=by decide)(hg:Gl X x:=by rfl)(hdb:(x==("__debug__":Str))=false:=by decide)(he:jo (e::es) X.env=(false,mv e X.env)::jo es X.env:=by rfl)(hpl:(wt pos (jo es X.env)).any (·.1)=false:=by rfl):
  PE X (.Call (.Name x p) (e::es) [] pos) (mQ sp [] E0 t):=let ⟨_,_,_,m,k,b,g⟩:=a;A31 g (hr.mono h) hg m k b .nil B42 ha hdb he hpl
noncomputable def Fk (K:W.Frag)(x:Str)(st:je):Prop:=∃f fd,W.nsIn K ip x=some (some (.ref f))/\Fun K x x st f fd
theorem B4k {f:gy}{oc:gw}{od an:Option gy}{osl:Array (Option gw)}{kV doc pm cdv ct:gw}(a:W.nsIn K ip x=some (some (.ref f)))(l:K.lookup f=some ⟨oc,od,.func (W.fnOf x x (jI st) (dN st) (bH st) .none kV doc pm an cdv ct),osl⟩)(c:W.codeIn K cdv x=true)(k:W.keepIn K (.ref f)=true):Fk K x st:=⟨_,_,a,A5f l c k⟩
theorem A4y {α:Type}{p:List α->Prop}(h:∀a,p [a])(us:List α)(e:us.length=1):p us:=match us,e with| [_],_=>h ..
theorem A78 {α:Type}{p:List α->Prop}(h:∀a b,p [a,b])(us:List α)(e:us.length=2):p us:=match us,e with| [_,_],_=>h ..
theorem A7g {α:Type}{p:List α->Prop}(h:∀a b c,p [a,b,c])(us:List α)(e:us.length=3):p us:=match us,e with| [_,_,_],_=>h ..
theorem B45 {α:Type}{p:List α->Prop}(h:∀a b c d,p [a,b,c,d])(us:List α)(e:us.length=4):p us:=match us,e with| [_,_,_,_],_=>h ..
theorem B46 {α:Type}{p:List α->Prop}(h:∀a b c d f,p [a,b,c,d,f])(us:List α)(e:us.length=5):p us:=match us,e with| [_,_,_,_,_],_=>h ..
theorem Fk.d {h:iw}(q:Fk K x st)(X:K.In h)(G:h.Ns ip mg)(hb:∀(kV doc pm:gw)(an:Option gy)(cdv ct:gw)(us:List gw),us.length=ps.length->bindArgs (W.fnOf x x (jI st) (dN st) (bH st) .none kV doc pm an cdv ct) ⟨us,[]⟩=pure (ps.zip us):=by first|exact λ_ _ _ _ _ _=>A4y λ_=>rfl|exact λ_ _ _ _ _ _=>A78 λ_ _=>rfl|exact λ_ _ _ _ _ _=>A7g λ_ _ _=>rfl):D1 K mg x st ps:=let ⟨f,fd,a,F⟩:=q;⟨f,fd,F,W.mg_of X G a,F.binds hb⟩
theorem Fk.law {h:iw}{y:Str}{fa:gy}(q:Fk K x st)(X:K.In h)(G:h.Ns ip mg)(hfa:mg x=some (.ref fa))(hb:∀(kV doc pm:gw)(an:Option gy)(cdv ct:gw)(u:gw),bindArgs (W.fnOf x x (jI st) (dN st) (bH st) .none kV doc pm an cdv ct) ⟨[u],[]⟩=pure [(y,u)]):∃fd,Fun K x x st fa fd/\∀(s:h7)(v:gw),zh s fd ⟨[v],[]⟩ [(y,v)]:=by obtain⟨f,fd,a,F⟩:=q;have e2:=hfa.symm.trans (W.mg_of X G a);cases e2;obtain⟨oc,od,kV,doc,pm,an,cdv,ct,osl,rfl,lk,hcd⟩:=F.ex;exact⟨_,F,λs v=> .of_eq (hb _ _ _ _ _ _ _)⟩
end
open PySem.Spec
noncomputable def qZ (l:gy)(tk tv:TE):TC:=λσ H Q=>tk σ H λy H1=>tv σ H1 λv H2=> ∃kvs k,y=kV k/\H2 l=some (.dK kvs)/\kvs.length<gz/\Q σ (upd H2 l (.dK (cF kvs k v)))
noncomputable def A0p (kx vx:j7)(acc:gw)(env:Env)(k:Unit->Sem Fin):Sem Fin:=(mv kx env>>=λkv=>xv [kv] (mv vx env)>>=λvv=>match acc with
    | .ref d=>do
     zg {kx.pos with endLine:=vx.pos.endLine,endCol:=vx.pos.endCol}
     xv [kv,vv] (dictSet d kv vv)
    |_=>unsupported "internal:dictcomp")>>=k
theorem A8u (kx vx tg iter:j7)(AJ:List j7)(scope:rl)(pos:Pos)(it acc:gw)(env:Env):
  y6 (.DictComp kx vx [⟨tg,iter,AJ,0⟩] scope pos) 0 it acc env=kI (.DictComp kx vx [⟨tg,iter,AJ,0⟩] scope pos) 0 it acc env tg iter AJ (A0p kx vx acc env):=by rfl
theorem A82 (hx:Y.xe=λ_ _=>False)(hu:Y.A.units<jt)(he:PE Y kx tk)(hv:PE Y vx tv):PB Y (A0p kx vx (.ref l) Y.env) (qZ l tk tv):=by
 intro ir s σ H Q Q' k I h hk;refine AN (AN (thn (hJ (he ir s σ H _ I h) hx) λkv s1 ⟨x,H1,I1,r1,q1⟩=> ?_));refine AN (jw (thn (hJ (hv ir s1 σ H1 _ I1 q1) hx) λvv s2 ⟨y,H2,I2,r2,q2⟩=> ?_));obtain⟨kvs,ks,rfl,e,hl,q⟩:=q2;obtain⟨z,hd,vs,rel,dd⟩:=rY I2.hok e;have hz:vs.length<=gz:=by rw[←rel.length];exact z
 have zl:(cF kvs ks y).length<=gz:=by have:=mP kvs ks y;omega
 refine AN (nv (jw ?_));refine wpAny_dictSet_pairs (hsz:=hz) (jK r1) dd λh' dd' hs=>hk _ _ _ ?_ q;have he:∃q,h'.get? l=some q:=let ⟨q,_,_,hq,_⟩:=dd';⟨q,hq⟩;exact nF I2 (by rw[e];exact kf) hs he (rW zl hd (rel.put ks r2) dd')
noncomputable def A99 (wi:TI)(g:cQ->TG)(tt:cQ->TT)(tk tv:cQ->TE)(n:Nat)(frees:List (Str×Nat)):TE:=λσ H Q=>wi σ H λJ H1=> ∀(Z:cQ)(l:gy),H1 l=none->dF J (g Z) (cS (tt Z) (qZ l (tk Z) (tv Z))) (eC λ_ H'=>Q (.ref l) H') (σC n frees σ) (upd H1 l (.dK []))
noncomputable def jD (ns:List (Str×i7))(N:List Str)(scope:rl)(frees:List (Str×Nat)):Prop:=
 (∀x∈scope.names,(x.2= .cell->scope.names.lookup x.1=some .cell)/\(x.2= .local->scope.names.lookup x.1=some .local)/\(x.2= .free->ns.lookup x.1=some .cell\/ns.lookup x.1=some .free))/\
 ∀p∈frees,N[p.2]?=some p.1/\scope.names.lookup p.1=some .free/\(ns.lookup p.1=some .cell\/ns.lookup p.1=some .free)
instance (ns:List (Str×i7)) (N:List Str) (scope:rl) (frees:List (Str×Nat)):Decidable (jD ns N scope frees):=by unfold jD;infer_instance
noncomputable def dD (X:Cx)(N:List Str)(scope:rl)(Z:cQ):Cx:={A80 X N scope Z with fn:=λx=>scope.names.lookup x==some .cell}
theorem tL:∀(names:List (Str×i7))(n:Nat)(a b:List (Str×gy)),ko n names (a++b)=ko n names a++b
 | [],_,_,_=>rfl
 | (x,k)::r,n,a,b=>by
  unfold ko
  split
  ·exact tL r (n+1) ((x,n)::a) b
  ·exact tL r n a b
theorem cells_names:∀(names:List (Str×i7))(n:Nat)(acc:List (Str×gy)){x:Str}{c:gy},(x,c)∈ko n names acc->(x,j4)∈names\/(x,c)∈acc
 | [],_,_,_,_,h=> .inr h
 | (y,k)::r,n,acc,x,c,h=>by
  unfold ko at h
  split at h
  ·rename_i hk;have hk':k= .cell:=eq_of_beq hk;subst hk';rcases cells_names r (n+1) _ h with z|z
   ·exact .inl (AW _ z)
   ·rcases di.mp z with z|z
    ·cases z;exact .inl AX
    ·exact .inr z
  ·rcases cells_names r n _ h with z|z
   ·exact .inl (AW _ z)
   ·exact .inr z
structure A0r (names:List (Str×i7))(h:iw)(lo:Nat)(cl cl':List (Str×gy)):Prop where
 of:∀x c,cl'.lookup x=some c->cl.lookup x=some c\/(lo<=c/\h.IsCell c none)
 inj:∀x y c,lo<=c->(∀z d,cl.lookup z=some d->d<lo)->cl'.lookup x=some c->cl'.lookup y=some c->x=y
 old:∀x c,cl.lookup x=some c->(x,j4)∉names->cl'.lookup x=some c
 own:∀x,names.lookup x=some .cell->∃c,cl'.lookup x=some c
 new:∀x c,names.lookup x=some .cell->cl'.lookup x=some c->lo<=c
theorem B24 (names:List (Str×i7))(h:iw)(cl:List (Str×gy)):A0r names (xk h names) h.objs.size cl (ko h.objs.size names cl):=by
 have e:ko h.objs.size names cl=ko h.objs.size names []++cl:=tL names _ [] cl;have ok:=cellsFrom_ok names h h.objs.size [] ⟨λ_ _ hm=>(nomatch hm),ny.nil⟩ (AY _);have nm:∀{x c},(x,c)∈ko h.objs.size names []->(x,j4)∈names:=λhm=>(cells_names names _ [] hm).elim id λz=>nomatch z;have sp:∀x c,(ko h.objs.size names cl).lookup x=some c->(x,c)∈ko h.objs.size names []\/cl.lookup x=some c:=λx c hx=>by
  rw[e,cq]at hx;cases h1:(ko h.objs.size names []).lookup x with
  |none=>rw[h1]at hx;exact .inr hx
  |some d=>rw[h1]at hx;cases hx;exact .inl (j6 h1)
 refine⟨λx c hx=> ?_,λx y c hlo hcl hx hy=> ?_,λx c hx hn=> ?_,λx hx=> ?_,λx c hx hc=> ?_⟩
 ·rcases sp x c hx with z|z
  ·exact .inr ⟨(ok.empty x c z).2,(ok.empty x c z).1⟩
  ·exact .inl z
 ·rcases sp x c hx with z|z
  ·rcases sp y c hy with z'|z'
   ·exact name_of_addr ok.apart z z'
   ·exact absurd (hcl _ _ z') (not_lt.mpr hlo)
  ·exact absurd (hcl _ _ z) (not_lt.mpr hlo)
 ·rw[e,cq];cases h1:(ko h.objs.size names []).lookup x with
  |none=>exact hx
  |some d=>exact absurd (nm (j6 h1)) hn
 ·exact j3.mp (W.cellsFrom_some names _ cl (.inl hx))
 ·obtain⟨d,hd⟩:=j3.mp (W.cellsFrom_some names h.objs.size [] (.inl hx));rw[e,cq,hd]at hc;cases hc;exact(ok.empty x _ (j6 hd)).2
theorem A7f
  (hQ:Q {scope,locals:=s.heap.objs.size,globals,cells:=ko (s.heap.objs.size+1) scope.names closure,qual,func:=none,code:=outer.code,frame:=outer.frame,builtins:=outer.builtins} {s with heap:=xk (s.heap.push {cls:=.type "dict",data:=.dict #[]}) scope.names}):
  ia M A (newFunctionEnv scope globals closure [] qual none .none (some outer)) Q E s:=by
 simp only[newFunctionEnv,Option.isSome_some,if_true];refine AN (wpAny_alloc ?_);refine AN (wpAny_layCells _ (λname kind cells=>by cases hkc:kind==j4<;>simp[hkc]) _ _ _ _ ?_);rw[show({s with heap:=s.heap.push {cls:=.type "dict",data:=.dict #[]}}:h7).heap.objs.size=s.heap.objs.size+1 from f6 ..];exact AN (AO (AO hQ))
theorem A7q (I2:Inv X ir σ H2 s2)(hns:X.env.scope.names=ns)(hN:X.N=N)(hk:scope.kind= .function)(ok:jD ns N scope frees)(f2:∀b∈fp,fI X ir H2 b)(hlive:∀b∈fp,∃o,s2.heap.get? b=some o)
  (hc1:∀x c,cl.lookup x=some c->X.env.cells.lookup x=some c)(hc2:∀x,(x,jj)∈scope.names->∃c,cl.lookup x=some c)
  (O:A0r scope.names h4 (C+1) cl cl')(hC:C=s2.heap.objs.size+1)(hnsC:∃m,h4.Ns C m)(hacc:ObjOk X.prog X.w (upd H2 s2.heap.objs.size u) h4 s2.heap.objs.size u)
  (hkeep:∀b o,s2.heap.get? b=some o->h4.get? b=some o):
  Inv (dD X (loc++frees.map (·.1)) scope ⟨cl',C,s2,H2,fp,X.pn++ir⟩) [] (σC loc.length frees σ) (upd H2 s2.heap.objs.size u) {s2 with heap:=h4,toks:=tk}:=by
 have below:∀{b:gy}{o:Obj},s2.heap.get? b=some o->b≠C:=fun{b o} e z=>by
  have:=AV e;rw[z,hC]at this;exact gg _ (gj this)
 have hl:H2 s2.heap.objs.size=none:=I2.hok.fresh (AY _);have hCn:H2 C=none:=I2.hok.fresh (by rw[hC];exact gb _);have cne:∀x c,X.env.cells.lookup x=some c->∃o v,s2.heap.get? c=some o/\o.data= .cell v:=λx c e=>by
  obtain⟨v,o,ho,hd⟩:=I2.cell x c e;exact⟨o,v,ho,hd⟩
 obtain⟨mC,hmC⟩:=hnsC;have lt:∀x c,X.env.cells.lookup x=some c->c<s2.heap.objs.size:=λx c e=>by
  obtain⟨o,v,ho,_⟩:=cne x c e;exact AV ho
 have oc:∀x c,cl'.lookup x=some c->X.env.cells.lookup x=some c\/(s2.heap.objs.size+1<c/\h4.IsCell c none):=λx c e=>by
  rcases O.of x c e with z| ⟨z,y⟩
  ·exact .inl (hc1 x c z)
  ·exact .inr ⟨by rw[hC]at z;exact z,y⟩
 have hCl:C≠s2.heap.objs.size:=by rw[hC];exact xj _
 refine⟨⟨I2.ok.mod,hk,I2.ok.glob,I2.ok.blt,?_,λx y c h1 h2=> ?_,λx hx=> ?_,λx c h hx=>f9 (gi (by show s2.heap.objs.size<C+1;rw[hC];exact gp (gq _)) (O.new x c (eq_of_beq h) hx)),I2.ok.hd,I2.ok.frames,.inl rfl,λb hb=> ⟨?_,λx c e z=> ?_⟩,I2.bs,gc I2.ok.bsz I2.sz,λb o e hb=> ?_,λb hb hfs=> ?_,I2.stack,I2.stkFree⟩,
  rfl,I2.bare,?_,⟨mC,hmC,λi x v h1 h2 h3=> ?_⟩,λx c e=> ?_,?_,λx c e=> ?_,λp hp=> ?_,?_,?_⟩
 ·show s2.heap.objs.size<=C;rw[hC];exact gb _
 ·
  rcases oc x c h1 with z|z
  ·rcases oc y c h2 with z'|z'
   ·exact I2.ok.inj x y c z z'
   ·exact absurd (lt_trans (gp (lt x c z)) z'.1) (gg _)
  ·exact O.inj x y c (by rw[hC];exact z.1) (λz d e=>lt_trans (lt z d (hc1 z d e)) (by rw[hC];exact gp (gq _))) h1 h2
 ·
  have hx':(relabel scope X.env).names.lookup x=some .cell\/(relabel scope X.env).names.lookup x=some .free:=hx;rcases relabel_back hx' with z|z
  ·by_cases hm:(x,j4)∈scope.names
   ·exact O.own x ((ok.1 _ hm).1 rfl)
   ·obtain⟨c,hc⟩:=hc2 x z;exact⟨c,O.old x c hc hm⟩
  ·exact O.own x ((ok.1 _ z).1 rfl)
 ·obtain⟨o,ho⟩:=hlive b hb;exact below ho
 ·rcases oc x c e with y|y
  ·exact(f2 b hb).2.2.2.2.1 x c y z
  ·obtain⟨o,ho⟩:=hlive b hb;have:=AV ho;have y1:=y.1;rw[z]at y1;exact Nat.lt_asymm this (gj y1)
 ·rcases(f2 b hb).2.2.2.1 with z|z
  ·exact I2.ok.noex b o e z
  ·exact absurd (gi (AV (I2.ok.bs b o e).1) z) (gg _)
 ·rcases di.mp (I2.stkSub b hfs)with z|z
  ·exact(f2 b hb).2.1 z
  ·exact(f2 b hb).2.2.1 z
 ·exact Un.laid hkeep (AY _) hl
 ·
  have hi:¬i<loc.length:=λAG=>by
   unfold σC at h2;rw[md (by simpa using AG),xf]at h2;simp[AG]at h2
  have h2':(frees[i - loc.length]?).map (λp=>(σ[p.2]?).join)=some (some v):=by
   unfold σC at h2;rw[n6 (by simpa using hi),yo,br]at h2;exact h2
  have h1':(frees[i - loc.length]?).map (·.1)=some x:=by
   have h1:(loc++frees.map (·.1))[i]?=some x:=h1;rw[n6 (by omega),br]at h1;exact h1
  cases ep:frees[i - loc.length]? with
  |none=>rw[ep]at h1';simp at h1'
  |some p=>
   rw[ep]at h1' h2';simp only[Option.map_some,kr]at h1' h2';obtain⟨q1,q2,q3⟩:=ok.2 p (d3 ep);have hσ:σ[p.2]?=some (some v):=by
    cases e:σ[p.2]? with
    |none=>rw[e]at h2';simp at h2'
    |some o=>rw[e]at h2';simp at h2';rw[h2']
   have vis:Vis X.env.scope p.1:=by
    show _\/_;rw[hns];rcases q3 with z|z
    ·exact .inr (.inl z)
    ·exact .inr (.inr z)
   obtain⟨m,hn,hlk⟩:=I2.loc;obtain⟨u,ru,lk⟩:=hlk p.2 p.1 v (by rw[hN];exact q1) hσ vis;refine⟨u,ru,.inr ?_⟩;rw[←h1'];rcases lk with⟨z,_⟩| ⟨_,c,ec,hcell⟩
   ·have z':X.env.scope.names.lookup p.1=some .local:=z;rw[hns]at z';rcases q3 with y|y<;>rw[z']at y<;>cases y
   ·obtain⟨c',hc'⟩:=hc2 p.1 (j6 q2);have:c'=c:=by have:=hc1 _ _ hc';rw[ec]at this;exact(ig this).symm
    subst this;refine⟨vF q2,c',O.old _ _ hc' (λhm=>by have:=(ok.1 _ hm).1 rfl;rw[q2]at this;cases this),?_⟩;obtain⟨o,ho,hd⟩:=hcell;exact⟨o,hkeep _ _ ho,hd⟩
 ·rcases oc x c e with y|y
  ·obtain⟨o,v,ho,hd⟩:=cne x c y;exact⟨v,o,hkeep _ _ ho,hd⟩
  ·exact⟨none,y.2⟩
 ·show upd H2 _ _ C=none;rw[bA hCl];exact hCn
 ·rcases oc x c e with y|y
  ·have:c≠s2.heap.objs.size:=gu (lt x c y);rw[bA this];exact I2.freeC x c y
  ·have h1:=y.1;rw[bA (λe=>by rw[e]at h1;exact gg _ (gj h1))];exact I2.hok.fresh (f9 (gj h1))
 ·have hp':p∈X.pn++ir:=by
   rcases da.mp hp with z|z
   ·exact z
   ·exact absurd z (by simp)
  obtain⟨e,n,ne,nf,d⟩:=I2.pin p hp';refine⟨hkeep _ _ e,?_,below e,λz=> ?_,d⟩
  ·rw[bA (gu (AV e))];exact n
  ·rcases di.mp (I2.stkSub p.1 z)with y|y
   ·exact ne y
   ·exact nf y
 ·exact I2.hok.laid hkeep (AY _) hacc
 ·show(σC loc.length frees σ).length=(loc++frees.map (·.1)).length;unfold σC;simp
theorem xA {σ':St}(I2:Inv X ir σ H2 s2)(f2:∀b∈fp,fI X ir H2 b)(hC:C=s2.heap.objs.size+1)
  (J:Inv (dD X N scope ⟨cl,C,s2,H2,fp,pl⟩) [] σ' H' s')(hs:ju C s'.heap h'):Inv X ir σ H' {s' with heap:=h'}:=by
 have I3:Inv X ir σ H' s':=I2.call' (ch:=fp) J.os J.base J.hok J.bare λb hb=> ⟨(f2 b hb).2.2.2.1,(f2 b hb).2.1,(f2 b hb).2.2.2.2.1,(f2 b hb).2.2.2.2.2⟩;refine I3.turned (it:=C) (t':=s'.toks) (λb o hb e=>(hs.2 b hb).trans e) J.free ?_ (.inr ?_) (λx c e z=> ?_) λp hp z=> ?_
 ·intro z;have:=I2.lt;rw[←z,hC]at this;exact gg _ (gj this)
 ·rw[hC];exact gc I2.sz (gb _)
 ·obtain⟨v,q⟩:=I2.cell x c e;have:=q.lt;rw[z,hC]at this;exact gg _ (gj this)
 ·have:=AV (I2.pin p hp).1;rw[z,hC]at this;exact gg _ (gj this)
theorem rG {e:j7}{gs:List zx}{g0:zx}{wi:TI}{tg iter:j7}{R:cQ->gy->It->St->Hp->(Hp->Prop)->Prop}{use:Option (gw->Sem Unit)}{Q:gw->h7->Prop}{newPos:Pos}{nac:Sem gw}{oa:Obj}{u:HO}
  (hna:∀(E:gw->h7->Prop)(s:h7)(Q:gw->h7->Prop),Q (.ref s.heap.objs.size) {s with heap:=s.heap.push oa}->ia (iu X.prog X.w) X.A nac Q E s)(hoa:oa.isFreed=false)(hou:∀(H:Hp)(h:iw)(a:gy),kj<a->h.get? a=some oa->ObjOk X.prog X.w H h a u)
  (hcl:clausesOf e=g0::gs)(hg0:g0.iter=iter)(hi:PI X tg iter wi)(hns:X.env.scope.names=ns)(hN:X.N=N)(hk:scope.kind= .function)(ok:jD ns N scope frees)
  (hs:∀x,kg iter X.env x=pure x){ir:List (gy×Obj)}{s:h7}{σ:St}{H:Hp}{QH:gy->Hp->Prop}(I:Inv X ir σ H s)
  (h:wi σ H λJ H1=> ∀(Z:cQ)(l:gy),H1 l=none->R Z l J (σC loc.length frees σ) (upd H1 l u) (QH l))
  (block:∀(Z:cQ)(l it:gy)(fp:List gy)(tn:Nat->iw->Prop)(J:It)(H4:Hp)(s4:h7)(σ4:St),Z.fp=fp->Inv (dD X (loc++frees.map (·.1)) scope Z) [] σ4 H4 s4->gA X.prog X.w X.K tg J fp it tn->tn 0 s4.heap->
   (∀b∈fp,fI (dD X (loc++frees.map (·.1)) scope Z) [] H4 b)->R Z l J σ4 H4 (QH l)->
   qc (iu X.prog X.w) X.A (.compStart e 0 (.ref it) (.ref l) (compEnvC scope Z.cl Z.C X.env)) (λr s'=>r= .ok .next/\∃σ' H',Inv (dD X (loc++frees.map (·.1)) scope Z) [] σ' H' s'/\QH l H') s4)
  (fin:∀(l C:gy)(H':Hp)(s':h7),(∃m,s'.heap.Ns C m)->Inv X ir σ H' s'->H' C=none->X.s₀.heap.objs.size<=C->C≠X.env.locals->(∀x c,X.env.cells.lookup x=some c->c≠C)->(∀h',ju C s'.heap h'->Inv X ir σ H' {s' with heap:=h'})->(∀p∈X.pn++ir,p.1≠C)->QH l H'->
   compPost (iu X.prog X.w) X.A X.xe use Q (.ref l) C (.ok .next) s'):
  ia (iu X.prog X.w) X.A (comprehension e scope X.env newPos nac false (mv iter X.env) use) Q X.xe s:=by
 obtain⟨cl,hclos,hc1,hc2⟩:=A7w (env:=X.env) (scope:=scope) λx hx hf=>by
  refine I.ok.has x.1 ?_;have:=(ok.1 x hx).2.2 hf;rw[←hns]at this;exact this
 have AB:∀x,kg g0.iter X.env x=pure x:=by rw[hg0];exact hs
 refine wpAny_comprehension_free hcl AB hclos hk (λx hx hl=>(ok.1 x hx).2.1 hl) (thn (hi ir s σ H _ I h) λv s1 h1=>thn h1 λitv s2 h2=> ?_);obtain⟨it,fp,tn,J,H2,e2,I2,T,st2,f2,q2⟩:=h2;subst e2;refine hna _ _ _ (A7f ?_);have hsz:(s2.heap.push oa).objs.size=s2.heap.objs.size+1:=f6 ..;have keep:∀b o,s2.heap.get? b=some o->(xk ((s2.heap.push oa).push {cls:=.type "dict",data:=.dict #[]}) scope.names).get? b=some o:=λb o e=>yi _ _ _ _ (AQ _ (AQ _ e));have hacc:(xk ((s2.heap.push oa).push {cls:=.type "dict",data:=.dict #[]}) scope.names).get? s2.heap.objs.size=some oa:=yi _ _ _ _ (AQ _ (fu _ hoa));have hns₁:∃m,(xk ((s2.heap.push oa).push {cls:=.type "dict",data:=.dict #[]}) scope.names).Ns (s2.heap.push oa).objs.size m:=⟨_,(iw.Ns.new (s2.heap.push oa) (.type "dict")).keeps (yi _ _)⟩;have O:=B24 scope.names ((s2.heap.push oa).push {cls:=.type "dict",data:=.dict #[]}) cl;rw[f6]at O;dsimp only
 generalize hcl':ko ((s2.heap.push oa).objs.size+1) scope.names cl=cl' at O⊢;generalize hh₁:xk ((s2.heap.push oa).push {cls:=.type "dict",data:=.dict #[]}) scope.names=h₁ at keep hacc hns₁ O⊢;generalize hCeq:(s2.heap.push oa).objs.size=C at hns₁ hsz O⊢;have live:∀b∈fp,∃o,s2.heap.get? b=some o:=λb hb=>let ⟨o,ho,_⟩:=T.obj _ _ st2 b hb;⟨o,ho⟩;have J0:=A7q (scope:=scope) (loc:=loc) (frees:=frees) (tk:=s2.toks) I2 hns hN hk ok f2 live hc1 hc2 O hsz hns₁ (hou _ _ _ I2.big hacc) keep;have hln:H2 s2.heap.objs.size=none:=I2.hok.fresh (AY _);have B:=block ⟨cl',C,s2,H2,fp,X.pn++ir⟩ s2.heap.objs.size it fp tn J _ _ _ rfl J0 T (T.keep _ _ _ st2 λb _ o e=>keep b o e) (λb hb=>by
  obtain⟨o,ho⟩:=live b hb;obtain⟨z0,z1,z2,z3,z4,z5⟩:=f2 b hb;refine⟨?_,?_,λz=> ?_,.inl hb,λx c e=> ?_,λp hp=>z5 p ?_⟩
  ·rw[bA (gu (AV ho))];exact z0
  ·show b≠C;rw[hsz];exact gu (gp (AV ho))
  ·rcases di.mp (I2.stkSub b z)with y|y
   ·exact z1 y
   ·exact z2 y
  ·rcases O.of x c e with y| ⟨y,_⟩
   ·exact z4 x c (hc1 x c y)
   ·have:=AV ho;intro z;have z':c=b:=z;rw[z',hsz]at y;exact Nat.lt_asymm this (gj y)
  ·rcases da.mp hp with y|y
   ·exact y
   ·exact absurd y (by simp)) (q2 _ _ hln)
 refine ng B λr s' hr=> ?_;obtain⟨rfl,σ',H',J',q'⟩:=hr;obtain⟨m',hm',_⟩:=J'.loc;have hCl:C≠X.env.locals:=λz=>by
  have:=I2.lt;rw[←z,hsz]at this;exact gg _ (gj this)
 have hCc:∀x c,X.env.cells.lookup x=some c->c≠C:=λx c e z=>by
  obtain⟨v,q⟩:=I2.cell x c e;have:=q.lt;rw[z,hsz]at this;exact gg _ (gj this)
 have hCp:∀p∈X.pn++ir,p.1≠C:=λp hp z=>by
  have:=AV (I2.pin p hp).1;rw[z,hsz]at this;exact gg _ (gj this)
 exact fin s2.heap.objs.size C H' s' ⟨m',hm'⟩ (by have:=xA I2 f2 hsz J' (ju.refl C s'.heap);exact this) J'.free (by rw[hsz];exact gc I2.sz (gb _)) hCl hCc (λh' hs=>xA I2 f2 hsz J' hs) hCp q'
theorem bU {AI tg iter:j7}{AJ:List j7}{wi:TI}{g:cQ->TG}{tt:cQ->TT}{te:cQ->TE}(ns:List (Str×i7))(N:List Str)(loc:List Str)(frees:List (Str×Nat))(hc:X.calm=true)(hi:PI X tg iter wi)
  (hns:X.env.scope.names=ns)(hN:X.N=N)(hk:scope.kind= .function)(ok:jD ns N scope frees)
  (hg:∀Z,PG (dD X (loc++frees.map (·.1)) scope Z) tg (g Z))(ht:∀Z,PTs (dD X (loc++frees.map (·.1)) scope Z) AJ (tt Z))(he:∀Z,PE (dD X (loc++frees.map (·.1)) scope Z) AI (te Z))
  (hs:∀x,kg iter X.env x=pure x:=by intro _;rfl):PE X (.ListComp AI [⟨tg,iter,AJ,0⟩] scope pos) (A5x wi g tt te loc.length frees):=by
 intro ir s σ H Q I h;rw[eval_ListComp];refine rG (nac:=newList []) (oa:={cls:=.type "list",dict:=none,data:=.seq ([]:List gw).toArray}) (u:=.lst []) (λE s Q h=>i9 h) rfl (λH h a _ e=> ⟨by simp,[],_,.nil,e⟩) (e:=.ListComp AI [⟨tg,iter,AJ,0⟩] scope pos) (g0:=⟨tg,iter,AJ,0⟩) (gs:=[]) (tg:=tg) (iter:=iter) (loc:=loc) (R:=λZ l J σ H QH=>dF J (g Z) (cS (tt Z) (fG l (te Z))) (eC λ_ H'=>QH H') σ H) (use:=none) (QH:=λl H'=>Q (.ref l) H') rfl rfl hi hns hN hk ok hs I h ?_ ?_
 ·intro Z l it fp tn J H4 s4 σ4 hfp I4 T st4 f4 q4;have L:=oI (Y:=dD X (loc++frees.map (·.1)) scope Z) rfl hc (B2x AI tg iter AJ scope pos (.ref it) (.ref l) _) (hg Z) (ht Z) (vK rfl (he Z)) I4 T st4 f4 q4;refine ng (ya L (T.self _ _ _ _ _ st4 L)) λr s' hr=> ?_;exact hr
 ·intro l C H' s' hm J' hn h1 h2 h3 h4 _ q';obtain⟨m,hm⟩:=hm;exact⟨m,hm,λh' AB=> ⟨.ref l,H',h4 h' AB,rfl,q'⟩⟩
theorem A1h {kx vx tg iter:j7}{AJ:List j7}{wi:TI}{g:cQ->TG}{tt:cQ->TT}{tk tv:cQ->TE}(ns:List (Str×i7))(N:List Str)(loc:List Str)(frees:List (Str×Nat))(hc:X.calm=true)(hi:PI X tg iter wi)
  (hns:X.env.scope.names=ns)(hN:X.N=N)(hk:scope.kind= .function)(ok:jD ns N scope frees)
  (hg:∀Z,PG (dD X (loc++frees.map (·.1)) scope Z) tg (g Z))(ht:∀Z,PTs (dD X (loc++frees.map (·.1)) scope Z) AJ (tt Z))(hu:X.A.units<jt)(he:∀Z,PE (dD X (loc++frees.map (·.1)) scope Z) kx (tk Z))(hv:∀Z,PE (dD X (loc++frees.map (·.1)) scope Z) vx (tv Z))
  (hs:∀x,kg iter X.env x=pure x:=by intro _;rfl):PE X (.DictComp kx vx [⟨tg,iter,AJ,0⟩] scope pos) (A99 wi g tt tk tv loc.length frees):=by
 intro ir s σ H Q I h;rw[arm_eval_DictComp];refine rG (nac:=newDict) (oa:={cls:=.type "dict",data:=.dict #[]}) (u:=.dK []) (λE s Q h=>i9 h) rfl (λH h a hb e=> ⟨gv _,beq_eq_false_iff_ne.mpr (k6 (gu hb)),[],.nil,_,#[],0,e,⟨rfl,rfl,rfl⟩,rfl,(λe he=>by simp at he),.nil,fb⟩) (e:=.DictComp kx vx [⟨tg,iter,AJ,0⟩] scope pos) (g0:=⟨tg,iter,AJ,0⟩) (gs:=[]) (tg:=tg) (iter:=iter) (loc:=loc) (R:=λZ l J σ H QH=>dF J (g Z) (cS (tt Z) (qZ l (tk Z) (tv Z))) (eC λ_ H'=>QH H') σ H) (use:=none) (QH:=λl H'=>Q (.ref l) H') rfl rfl hi hns hN hk ok hs I h ?_ ?_
 ·intro Z l it fp tn J H4 s4 σ4 hfp I4 T st4 f4 q4;have L:=oI (Y:=dD X (loc++frees.map (·.1)) scope Z) rfl hc (A8u kx vx tg iter AJ scope pos (.ref it) (.ref l) _) (hg Z) (ht Z) (A82 rfl hu (he Z) (hv Z)) I4 T st4 f4 q4;refine ng (codeAny_compStart_dict L (T.self _ _ _ _ _ st4 L)) λr s' hr=> ?_;exact hr
 ·intro l C H' s' hm J' hn h1 h2 h3 h4 _ q';obtain⟨m,hm⟩:=hm;exact⟨m,hm,λh' AB=> ⟨.ref l,H',h4 h' AB,rfl,q'⟩⟩
theorem A2a (ns:List (Str×i7))(N:List Str)(loc:List Str)(frees:List (Str×Nat))(hc:X.calm=true)(hi:PI X tg iter wi)
  (hns:X.env.scope.names=ns)(hN:X.N=N)(hk:scope.kind= .function)(ok:jD ns N scope frees)
  (hg:∀Z,PG (dD X (loc++frees.map (·.1)) scope Z) tg (g Z))(ht:∀Z,PTs (dD X (loc++frees.map (·.1)) scope Z) AJ (tt Z))
  (hi2:∀Z,PI (dD X (loc++frees.map (·.1)) scope Z) tg2 iter2 (wi2 Z))(hg2:∀Z,PG (dD X (loc++frees.map (·.1)) scope Z) tg2 (g2 Z))(ht2:∀Z,PTs (dD X (loc++frees.map (·.1)) scope Z) ifs2 (tt2 Z))
  (he:∀Z,PE (dD X (loc++frees.map (·.1)) scope Z) AI (te Z))
  (hs:∀x,kg iter X.env x=pure x:=by intro _;rfl)(hs2:∀(Z:cQ) x,kg iter2 (dD X (loc++frees.map (·.1)) scope Z).env x=pure x:=by intro _ _;rfl):
  PE X (.ListComp AI [⟨tg,iter,AJ,0⟩,⟨tg2,iter2,ifs2,0⟩] scope pos) (B31 wi g tt wi2 g2 tt2 te loc.length frees):=by
 intro ir s σ H Q I h;rw[eval_ListComp];refine rG (nac:=newList []) (oa:={cls:=.type "list",dict:=none,data:=.seq ([]:List gw).toArray}) (u:=.lst []) (λE s Q h=>i9 h) rfl (λH h a _ e=> ⟨by simp,[],_,.nil,e⟩) (e:=.ListComp AI [⟨tg,iter,AJ,0⟩,⟨tg2,iter2,ifs2,0⟩] scope pos) (g0:=⟨tg,iter,AJ,0⟩) (gs:=[⟨tg2,iter2,ifs2,0⟩]) (tg:=tg) (iter:=iter) (loc:=loc) (R:=λZ l J σ H QH=>dF J (g Z) (cS (tt Z) (nV (wi2 Z) (g2 Z) (tt2 Z) (fG l (te Z)))) (eC λ_ H'=>QH H') σ H) (use:=none) (QH:=λl H'=>Q (.ref l) H') rfl rfl hi hns hN hk ok hs I h ?_ ?_
 ·intro Z l it fp tn J H4 s4 σ4 hfp I4 T st4 f4 q4;have L:=oI (Y:=dD X (loc++frees.map (·.1)) scope Z) rfl hc (B3e AI tg iter tg2 iter2 AJ ifs2 scope pos (.ref it) (.ref l) _) (hg Z) (ht Z) (A4c rfl hc (hi2 Z) (hg2 Z) (ht2 Z) (he Z) (hs2 Z)) I4 T st4 f4 q4;refine ng (ya L (T.self _ _ _ _ _ st4 L)) λr s' hr=> ?_;exact hr
 ·intro l C H' s' hm J' hn h1 h2 h3 h4 _ q';obtain⟨m,hm⟩:=hm;exact⟨m,hm,λh' AB=> ⟨.ref l,H',h4 h' AB,rfl,q'⟩⟩
theorem cO (he:PE X (.Constant c j pos) te)(hr:PA X es t):PA X (.Constant c j pos::es) (cD te t):=bG he hr rfl
theorem aG (he:PE X (.Name x pos) te)(hr:PA X es t):PA X (.Name x pos::es) (cD te t):=bG he hr rfl
theorem eM (he:PE X (.BinOp a o b pos) te)(hr:PA X es t):PA X (.BinOp a o b pos::es) (cD te t):=bG he hr rfl
theorem A8i (he:PE X (.UnaryOp o b pos) te)(hr:PA X es t):PA X (.UnaryOp o b pos::es) (cD te t):=bG he hr rfl
theorem bQ (he:PE X (.Call f a k pos) te)(hr:PA X es t):PA X (.Call f a k pos::es) (cD te t):=bG he hr rfl
theorem nG (he:PE X (.Tuple a k pos) te)(hr:PA X es t):PA X (.Tuple a k pos::es) (cD te t):=bG he hr rfl
theorem lM (he:PE X (.List a pos) te)(hr:PA X es t):PA X (.List a pos::es) (cD te t):=bG he hr rfl
theorem eF (he:PE X (.Subscript a b pos) te)(hr:PA X es t):PA X (.Subscript a b pos::es) (cD te t):=bG he hr rfl
theorem B3o (he:PE X (.Compare a b c pos) te)(hr:PA X es t):PA X (.Compare a b c pos::es) (cD te t):=bG he hr rfl
theorem A1l (he:PE X (.Dict a b pos) te)(hr:PA X es t):PA X (.Dict a b pos::es) (cD te t):=bG he hr rfl
theorem cM (he:PE X (.ListComp a b c pos) te)(hr:PA X es t):PA X (.ListComp a b c pos::es) (cD te t):=bG he hr rfl
@[irreducible] def PAq (X:Cx)(es:List j7)(t:TA):Prop:=PA X es t
theorem jA (h:PAq X es t):PA X es t:=by unfold PAq at h;exact h
theorem cT:PAq X [] iF:=by unfold PAq;exact aB
theorem bM (hr:PAq X es t):PAq X (.Constant (.int i) j pos::es) (cD (tC (.int i)) t):=by unfold PAq at*;exact cO aV hr
theorem jT (he:PE X (.BinOp a o b pos) te)(hr:PAq X es t):PAq X (.BinOp a o b pos::es) (cD te t):=by unfold PAq at*;exact eM he hr
theorem sP (he:PE X (.UnaryOp o b pos) te)(hr:PAq X es t):PAq X (.UnaryOp o b pos::es) (cD te t):=by unfold PAq at*;exact A8i he hr
theorem xV (he:PE X (.Call f a k pos) te)(hr:PAq X es t):PAq X (.Call f a k pos::es) (cD te t):=by unfold PAq at*;exact bQ he hr
@[irreducible] def oM (X:Cx)(st:List je)(t:TS):Prop:=A0 X st t
@[irreducible] def PEq (X:Cx)(e:j7)(t:TE):Prop:=PE X e t
@[irreducible] def PSq (X:Cx)(st:je)(t:TS):Prop:=PS X st t
theorem B3b {st:je}{rest:List je}{t u:TS}(h1:PSq X st t)(h2:A0 X rest u):A0 X (st::rest) (oZ t u):=by unfold PSq at h1;exact aU h1 h2
theorem tupq (h:PAq X es t):PEq X (.Tuple es k p1) (jZ t):=by unfold PEq;exact cL (jA h)
theorem lstq (h:PAq X es t):PEq X (.List es p1) (qT t):=by unfold PEq;exact eG (jA h)
theorem lO (he:PEq X (.Tuple a k pos) te)(hr:PAq X es t):PAq X (.Tuple a k pos::es) (cD te t):=by unfold PEq at he;unfold PAq at*;exact nG he hr
theorem fR (he:PEq X (.List a pos) te)(hr:PAq X es t):PAq X (.List a pos::es) (cD te t):=by unfold PEq at he;unfold PAq at*;exact lM he hr
theorem A8b (h:PEq X e te):oM X [.Return (some e) p3] (tG te):=by unfold PEq at h;unfold oM;exact bB (bF h)
theorem B1r {st:je}{rest:List je}{t u:TS}(h1:PS X st t)(h2:oM X rest u):A0 X (st::rest) (oZ t u):=by unfold oM at h2;exact aU h1 h2
theorem Ext.updL (h:H l=some (.lst xs)):Ext H (upd H l (.lst ys))where
 tup:=λa zs e=>by rw[bA (qQ e h (by simp))];exact e
 lst:=λa zs e=>by
  by_cases ha:a=l
  ·exact⟨ys,by rw[ha,aJ]⟩
  ·exact⟨zs,by rw[bA ha];exact e⟩
 dct:=λa zs e=>by rw[bA (qQ e h (by simp))];exact e
theorem A5.updL (s:A5 p H H1)(hl:H l=none)(hp:PenAt H p):A5 p H (upd H1 l (.lst ys)):=by obtain⟨x,f,e⟩:=hp;have hne:p≠l:=bK e hl;obtain⟨x',f',e'⟩:=s.pen;exact⟨⟨x',f',by rw[bA hne];exact e'⟩,λb o hb h=>by rw[bA (bK h hl)];exact s.keep b o hb h⟩
end L2
namespace Grd
noncomputable abbrev bE:=List (List Int)
noncomputable def pos (n:Int):Bool:=decide (0<=n)
noncomputable def road (n:Int):Bool:=decide (n= -1)
noncomputable def fF (f:Int->Bool)(r:Int)(xs:List Int):List (Int×Int):=xs.zipIdx.filterMap λq=>if f q.1 then some (r,(q.2:Int))else none
noncomputable def bD (f:Int->Bool)(g:bE):List (Int×Int):=(g.zipIdx.map λp=>fF f p.2 p.1).flatten
noncomputable def atG (g:bE)(c:Int×Int):Int:=(g.getD c.1.toNat []).getD c.2.toNat 0
noncomputable def gD (xs:List Int):Int:=(xs.map λn=>if n>0 then n else 0).sum
noncomputable def totG (g:bE):Int:=(g.map gD).sum
noncomputable def dP (xs:List Int):Nat:=(xs.filter pos).length
noncomputable def cY (g:bE):Nat:=(g.map dP).sum
structure cR (g:bE)(w:Nat):Prop where
 h1:1<=g.length
 h4:g.length<=4
 w1:1<=w
 w5:w<=5
 len:∀xs∈g,xs.length=w
 num:∀xs∈g,∀n∈xs,-2<=n/\n<=99
 c1:1<=cY g
 c10:cY g<=10
theorem A2i (xs:List α)(i:Nat)(x:α)(h:xs[i]?=some x):(xs.take (i+1)).zipIdx=(xs.take i).zipIdx++[(x,i)]:=by have AG:i<xs.length:=(AR.mp h).1;rw[fq,h,List.zipIdx_append];simp;omega
theorem rowF_succ (f:Int->Bool)(r:Int)(xs:List Int)(i:Nat)(x:Int)(h:xs[i]?=some x):fF f r (xs.take (i+1))=fF f r (xs.take i)++if f x then [(r,(i:Int))]else []:=by
 unfold fF;rw[A2i xs i x h,qm]
 congr 1
 cases hf:f x<;>simp[hf]
theorem gridF_succ (f:Int->Bool)(g:bE)(i:Nat)(xs:List Int)(h:g[i]?=some xs):bD f (g.take (i+1))=bD f (g.take i)++fF f i xs:=by unfold bD;rw[A2i g i xs h,cx,uc];simp
theorem B1u (xs:List Int)(x:Int):dP (xs++[x])=dP xs+if pos x then 1 else 0:=by unfold dP;rw[au,bz];cases hp:pos x<;>simp[hp]
theorem A9x (g:bE)(xs:List Int):cY (g++[xs])=cY g+dP xs:=by unfold cY;rw[cx,fk];simp
theorem mem_rowF:c∈fF f r xs↔c.1=r/\∃j x,c.2=(j:Nat)/\xs[j]?=some x/\f x=true:=by
 unfold fF;rw[dk];constructor
 ·rintro⟨⟨x,j⟩,hm,e⟩;have hx:=d7.mp hm;cases hf:f x with
  |true=>
   simp only[hf,if_true,kr]at e;subst e;exact⟨rfl,j,x,rfl,hx,hf⟩
  |false=>simp[hf]at e
 ·rintro⟨e1,j,x,e2,hx,hf⟩;refine⟨(x,j),d7.mpr hx,?_⟩;simp only[hf,if_true,kr];exact rm e1.symm e2.symm
theorem mem_gridF:c∈bD f g↔ ∃(i j:Nat)(xs:List Int)(x:Int),c=((i:Int),(j:Int))/\g[i]?=some xs/\xs[j]?=some x/\f x=true:=by
 unfold bD;rw[dq];constructor
 ·rintro⟨l,hl,hc⟩;obtain⟨⟨xs,i⟩,hm,rfl⟩:=dv.mp hl;obtain⟨e1,j,x,e2,hx,hf⟩:=mem_rowF.mp hc;exact⟨i,j,xs,x,rm e1 e2,d7.mp hm,hx,hf⟩
 ·rintro⟨i,j,xs,x,rfl,hg,hx,hf⟩;exact⟨fF f i xs,dv.mpr ⟨(xs,i),d7.mpr hg,rfl⟩,mem_rowF.mpr ⟨rfl,j,x,rfl,hx,hf⟩⟩
theorem iZ {g:bE}{i j:Nat}{xs:List Int}{x:Int}(h1:g[i]?=some xs)(h2:xs[j]?=some x):atG g ((i:Int),(j:Int))=x:=by unfold atG;simp[bo,h1,h2]
theorem A1t {r:Int}:∀(pre xs:List Int)(v:Int×Int->Int),(∀j x,xs[j]?=some x->v (r,((pre.length+j:Nat):Int))=x)->(((xs.zipIdx pre.length).filterMap λq=>if pos q.1 then some (r,(q.2:Int))else none).map v)=xs.filter pos
 |_,[],_,_=>by simp
 |pre,x::xs,v,h=>by
  have ih:=A1t (r:=r) (pre++[x]) xs v λj y hy=>by
   have:=h (j+1) y (by simpa using hy);rw[bz];have e:pre.length+[x].length+j=pre.length+(j+1):=by simp;omega
   rw[e];exact this
  have h0:=h 0 x rfl;rw[bz]at ih;rw[List.zipIdx_cons];have ih':(((xs.zipIdx (pre.length+1)).filterMap λq=>if pos q.1 then some (r,(q.2:Int))else none).map v)=xs.filter pos:=ih;cases hp:pos x with
  |true=>
   rw[List.filterMap_cons_some (b:=(r,(pre.length:Int))) (by simp[hp]),cz,ih',ax hp]
   congr 1
  |false=>
   rw[List.filterMap_cons_none (by simp[hp]),ih',aw (by simp[hp])]
theorem qU (g:bE):(bD pos g).map (atG g)=(g.map λxs=>xs.filter pos).flatten:=by
 unfold bD;rw[List.map_flatten,c9];have e:g.zipIdx.map (vc (atG g)∘λp=>fF pos p.2 p.1)=g.zipIdx.map λp=>p.1.filter pos:=by
  refine cy λp hp=> ?_;obtain⟨xs,i⟩:=p;have hx:=d7.mp hp;show(fF pos i xs).map (atG g)=xs.filter pos;exact A1t (r:=(i:Int)) [] xs (atG g) λj x hj=>by
   simp only[b9,Nat.zero_add];exact iZ hx hj
 rw[e]
 congr 1
 have:(λp:List Int×Nat=>p.1.filter pos)=(λxs=>xs.filter pos)∘vd:=rfl;rw[this,←c9,List.zipIdx_map_fst]
theorem A7l (xs:List Int):(xs.filter pos).sum=gD xs:=by
 unfold gD
 induction xs with
 |nil=>rfl
 |cons x xs ih=>
  rw[cz,fm,←ih];by_cases h:0<=x
  ·rw[ax (by simp[pos,h]),fm]
   congr 1
   split<;>omega
  ·rw[aw (by simp[pos,h])];rw[if_neg (by omega)];omega
theorem xR:∀g:bE,(g.map λxs=>xs.filter pos).flatten.sum=totG g
 | []=>rfl
 |xs::g=>by
  rw[cz,bh,fk,A7l,xR g];unfold totG;rw[cz,fm]
theorem A5a (g:bE):((bD pos g).map (atG g)).sum=totG g:=by rw[qU,xR]
theorem fL (g:bE):(bD pos g).length=cY g:=by have:=congrArg kq (qU g);rw[b8]at this;rw[this,List.length_flatten,c9];rfl
end Grd
namespace L2
open PySem Grd
noncomputable def iU (s:je):List je:=match s with| .For _ _ b _ _=>b|_=> []
noncomputable def RowsG (H:Hp)(bs:List gy)(g:bE):Prop:=Paired (λb xs=>H b=some (.tup ((xs:List Int).map V.int))) bs g
noncomputable def GridAt (H:Hp)(a:gy)(g:bE):Prop:=∃bs:List gy,H a=some (.tup (bs.map V.ref))/\RowsG H bs g
theorem RowsG.ext (h:RowsG H bs g)(e:Ext H H'):RowsG H' bs g:=Paired.mapP h λ_ _ z=>e.tup _ _ z
theorem GridAt.ext (h:GridAt H a g)(e:Ext H H'):GridAt H' a g:=let ⟨bs,h1,h2⟩:=h;⟨bs,e.tup _ _ h1,h2.ext e⟩
theorem RowsG.get:∀{bs:List gy}{g:bE}{i:Nat}{xs:List Int},RowsG H bs g->g[i]?=some xs->∃b,bs[i]?=some b/\H b=some (.tup (xs.map V.int)):=by intro _ _ _ _ h e;unfold RowsG at h;have z:=B4g h e;exact z
theorem RowsG.row:∀{bs:List gy}{g:bE}{i:Nat}{b:gy},RowsG H bs g->bs[i]?=some b->∃xs,g[i]?=some xs/\H b=some (.tup (xs.map V.int)):=λh e=>kD h e
end L2
namespace L2
open PySem PySem.Spec PyProof.Rows
noncomputable def PlAt (H:Hp)(ps:List gy)(cs:List (Int×Int)):Prop:=Paired (λp c=>H p=some (.tup [.int c.1,.int c.2])) ps cs
theorem PlAt.same (h:PlAt H ps cs)(s:Same H H'):PlAt H' ps cs:=Paired.mapP h λ_ _ e=>s _ _ e
theorem PlAt.snoc (h:PlAt H ps cs)(e:H p=some (.tup [.int c.1,.int c.2])):PlAt H (ps++[p]) (cs++[c]):=Paired.snoc h e
end L2
namespace PySem
open Sem (wp)
structure mU (z TI TO i1 i2:gy)(f1 f2:List gy):Prop where
 z1:z∉f1
 z2:z∉f2
 o1:TO∉f1
 o2:TO∉f2
 c1:i1∉f2
 c2:i2∉f1
 Iz:TI≠z
 Oz:TO≠z
 iz:i1≠z
 jz:i2≠z
 IO:TI≠TO
 I1:TI≠i1
 I2:TI≠i2
 O1:TO≠i1
 O2:TO≠i2
 ij:i1≠i2
theorem vW (n a b:Nat)(h1:a<n)(h2:b<n):mU (n+4) (n+2) (n+3) n (n+1) [n,a] [n+1,b]:=by
  constructor<;>intro h<;>first
    | (have h':@Eq Nat _ _:=h;omega)
    | (rcases di.mp h with y|y
       · have y':@Eq Nat _ _:=y;omega
       · have y':@Eq Nat _ _:=d6.mp y;omega)
theorem B2p {z TI TO i1 i2:gy}{f1 f2:List gy}{n1 n2 k:Nat}{P1 P2:Nat->gw->Prop}{S1 S2:Nat->iw->Prop}{a b:gw}{Q:gw->h7->Prop}(D1:Draws prog w A i1 f1 n1 P1 S1)(D2:Draws prog w A i2 f2 n2 P2 S2)(D:mU z TI TO i1 i2 f1 f2)
  (hz:wg s.heap z TI TO .none)(hTI:me s.heap TI (.ref i1) (.ref i2))(hTO:me s.heap TO a b)(t1:S1 k s.heap)(t2:S2 k s.heap)(hk1:k<=n1)(hk2:k<n1->k<=n2)
  (hQ:k<n1->k<n2->∀x y h' tk,P1 k x->P2 k y->wg h' z TI TO (qb s.heap.objs.size)->me h' TO x y->S1 (k+1) h'->S2 (k+1) h'->me h' s.heap.objs.size x y->
   (∀c o,c≠z->c≠TO->c≠i1->c≠i2->s.heap.get? c=some o->h'.get? c=some o)->Q (.ref s.heap.objs.size) {s with heap:=h',toks:=tk})
  (hE:¬(k<n1/\k<n2)->∀h' e tk,(∀c o,c≠z->c≠TO->c≠i1->c≠i2->s.heap.get? c=some o->h'.get? c=some o)->(∃o,h'.get? e=some o/\o.cls= .type "StopIteration")->E (.ref e) {s with heap:=h',toks:=tk}):
  ia (iu prog w) A (ic.«zip.__next__» ⟨[.ref z],[]⟩) (λfin s'=> ∃v,fin= .done (.ret v)/\Q v s') E s:=by
 show ia _ _ (field (.ref z) 2>>=_) _ _ _;refine AN (jq hz rfl (x:=.bool false) rfl ?_);show ia _ _ (field (.ref z) 3>>=_) _ _ _;refine AN (jq hz rfl (x:=.ref TI) rfl (AN (ki hTI rfl ?_)));show ia _ _ (ox (.ref z)>>=_) _ _ _;refine AN ?_;unfold ox;refine AN (jq hz rfl (x:=.none) rfl (AO ?_));simp only[if_true];refine AN (qw (AN (jq hz rfl (x:=.ref TO) rfl (AN (js hz (by simp) λh₁ hz₁ hs₁=> ?_)))));replace hz₁:wg h₁ z TI TO .ellipsis:=hz₁;refine AN ?_;simp only[List.zipIdx_cons,List.zipIdx_nil,forIn_cons,List.forIn_nil];refine AN (AN (wpAny_onRaise ?_));show ia _ _ (ke (.ref i1)>>=_) _ _ _;have u1:S1 k h₁:=D1.frame k _ _ t1 λc hc o e=>hs₁.extBut _ _ (λq=>D.z1 (q▸hc)) e;rcases Nat.lt_or_eq_of_le hk1 with hk1|rfl
 rotate_left
 ·refine AN (D1.done _ _ _ u1 λh₂ e hs₂ he=> ?_);obtain⟨oe,hoe,hce⟩:=he;have hz₂:wg h₂ z TI TO .ellipsis:=hs₂ _ _ D.iz.symm hz₁;have hez:e≠z:=λx=>by subst x;rw[hz₂]at hoe;cases hoe;simp at hce
  refine js hz₂ (by simp) λh₃ _ hs₃=>hE (λq=>gg _ q.1) h₃ e _ (λc o c1 _ c3 _ x=>hs₃.extBut _ _ c1 (hs₂ _ _ c3 (hs₁.extBut _ _ c1 x))) ⟨oe,hs₃.extBut _ _ hez hoe,hce⟩
 have hk2:=hk2 hk1;refine AN (D1.item k _ _ _ hk1 u1 λx h₂ tk₂ hx v1 hs₂=>AO ?_);have hTO₂:me h₂ TO a b:=hs₂.extBut _ _ D.O1 (hs₁.extBut _ _ D.Oz hTO);refine AN (ki hTO₂ rfl (AN (wpAny_updateSeq_pair hTO₂ λh₃ hTO₃ hs₃=> ?_)));replace hTO₃:me h₃ TO x b:=hTO₃;refine AN (p8 (AO ?_));refine AN (AN (wpAny_onRaise ?_));show ia _ _ (ke (.ref i2)>>=_) _ _ _;have u2:S2 k h₃:=D2.frame k _ _ t2 λc hc o e=>hs₃.extBut _ _ (λq=>D.o2 (q▸hc)) (hs₂.extBut _ _ (λq=>D.c1 (q▸hc)) (hs₁.extBut _ _ (λq=>D.z2 (q▸hc)) e));rcases Nat.lt_or_eq_of_le hk2 with hk2|rfl
 rotate_left
 ·refine AN (D2.done _ _ _ u2 λh₄ e hs₄ he=> ?_);obtain⟨oe,hoe,hce⟩:=he;have hz₄:wg h₄ z TI TO .ellipsis:=hs₄ _ _ D.jz.symm (hs₃.extBut _ _ D.Oz.symm (hs₂.extBut _ _ D.iz.symm hz₁));have hez:e≠z:=λx=>by subst x;rw[hz₄]at hoe;cases hoe;simp at hce
  refine js hz₄ (by simp) λh₅ _ hs₅=>hE (λq=>gg _ q.2) h₅ e _ (λc o c1 c2 c3 c4 x=>hs₅.extBut _ _ c1 (hs₄ _ _ c4 (hs₃.extBut _ _ c2 (hs₂.extBut _ _ c3 (hs₁.extBut _ _ c1 x))))) ⟨oe,hs₅.extBut _ _ hez hoe,hce⟩
 refine AN (D2.item k _ _ _ hk2 u2 λy h₄ tk₄ hy v2 hs₄=>AO ?_);have hTO₄:me h₄ TO x b:=hs₄.extBut _ _ D.O2 hTO₃;refine AN (ki hTO₄ rfl (AN (wpAny_updateSeq_pair hTO₄ λh₅ hTO₅ hs₅=> ?_)));replace hTO₅:me h₅ TO x y:=hTO₅;refine AN (p8 (AO (AO ?_)));refine AN (ki hTO₅ rfl (AN (y9 ?_)));have hsz:h₅.objs.size=s.heap.objs.size:=by rw[hs₅.1,hs₄.1,hs₃.1,hs₂.1,hs₁.1]
 have hz₅:wg h₅ z TI TO .ellipsis:=hs₅.extBut _ _ D.Oz.symm (hs₄.extBut _ _ D.jz.symm (hs₃.extBut _ _ D.Oz.symm (hs₂.extBut _ _ D.iz.symm hz₁)));have hk₅:∀c o,c≠z->c≠TO->c≠i1->c≠i2->s.heap.get? c=some o->h₅.get? c=some o:=λc o e1 e2 e3 e4 e=>hs₅.extBut _ _ e2 (hs₄.extBut _ _ e4 (hs₃.extBut _ _ e2 (hs₂.extBut _ _ e3 (hs₁.extBut _ _ e1 e))));have w1:S1 (k+1) h₅:=D1.frame _ _ _ v1 λc hc o e=>hs₅.extBut _ _ (λq=>D.o1 (q▸hc)) (hs₄.extBut _ _ (λq=>D.c2 (q▸hc)) (hs₃.extBut _ _ (λq=>D.o1 (q▸hc)) e));have w2:S2 (k+1) h₅:=D2.frame _ _ _ v2 λc hc o e=>hs₅.extBut _ _ (λq=>D.o2 (q▸hc)) e;have hzlt:z<h₅.objs.size:=AV hz₅;show ia _ _ (oo (.ref z) (.ref h₅.objs.size)>>=_) _ _ _;refine AN ?_;unfold oo;have hz₆:wg (h₅.push {cls:=.type "tuple",data:=.seq #[x,y]}) z TI TO .ellipsis:=AQ _ hz₅;refine AN (js hz₆ (by simp) λh₇ hz₇ hs₇=> ?_);replace hz₇:wg h₇ z TI TO (qb h₅.objs.size):=hz₇;refine js hz₇ (by simp) λh₈ hz₈ hs₈=> ?_;replace hz₈:wg h₈ z TI TO (qb h₅.objs.size):=hz₈;have up:∀c o,c≠z->h₅.get? c=some o->h₈.get? c=some o:=λc o e1 e=>hs₈.extBut _ _ e1 (hs₇.extBut _ _ e1 (AQ _ e));have hT₈:me h₈ h₅.objs.size x y:=hs₈.extBut _ _ (gr hzlt) (hs₇.extBut _ _ (gr hzlt) (fu _ rfl));rw[hsz]at hz₈ hT₈;refine AO ⟨_,rfl,?_⟩;show Q (.ref h₅.objs.size) _;rw[hsz];exact hQ hk1 hk2 x y h₈ _ hx hy hz₈ (up _ _ D.Oz hTO₅) (D1.frame _ _ _ w1 λc hc o e=>up c o (λq=>D.z1 (q▸hc)) e) (D2.frame _ _ _ w2 λc hc o e=>up c o (λq=>D.z2 (q▸hc)) e) hT₈ λc o e1 e2 e3 e4 e=>up c o e1 (hk₅ c o e1 e2 e3 e4 e)
theorem xM {z TI TO i1 i2:gy}{f1 f2:List gy}{n1 n2 k:Nat}{P1 P2:Nat->gw->Prop}{S1 S2:Nat->iw->Prop}{a b:gw}{Q:Option gw->h7->Prop}(D1:Draws prog w A.in1 i1 f1 n1 P1 S1)(D2:Draws prog w A.in1 i2 f2 n2 P2 S2)(D:mU z TI TO i1 i2 f1 f2)
  (hz:wg s.heap z TI TO .none)(hTI:me s.heap TI (.ref i1) (.ref i2))(hTO:me s.heap TO a b)(t1:S1 k s.heap)(t2:S2 k s.heap)(hk1:k<=n1)(hk2:k<n1->k<=n2)
  (hQ:k<n1->k<n2->∀x y h' tk,P1 k x->P2 k y->wg h' z TI TO (qb s.heap.objs.size)->me h' TO x y->S1 (k+1) h'->S2 (k+1) h'->me h' s.heap.objs.size x y->
   (∀c o,c≠z->c≠TO->c≠i1->c≠i2->s.heap.get? c=some o->h'.get? c=some o)->Q (some (.ref s.heap.objs.size)) {s with heap:=h',toks:=tk})
  (hN:¬(k<n1/\k<n2)->∀h' tk,(∀c o,c≠z->c≠TO->c≠i1->c≠i2->s.heap.get? c=some o->h'.get? c=some o)->Q none {s with heap:=h',toks:=tk}):
  ia (iu prog w) A (uv (.ref z)) Q E s:=by
 have hT:s.TypeIs (.ref z) "zip":=⟨_,hz,rfl⟩;unfold uv;exact AN (zz (jv (name:=k8 "__next__") hT F.slot_zip_next (ji F.slot_zip_next hT F.entry_zip_next
   (B2p D1 D2 D hz hTI hTO t1 t2 hk1 hk2 (λb1 b2 x y h' tk q1 q2 a1 a2 a3 a4 a5 a6=>AO (hQ b1 b2 x y h' tk q1 q2 a1 a2 a3 a4 a5 a6)) λn h' e tk hk ⟨o,ho,hc⟩=>AN (oh (T:="StopIteration") (b:=true) ⟨o,ho,hc⟩ isSubtype_stop (AO (hN n _ _ hk)))) (F.args_zip_next_1 _))))
noncomputable abbrev zT1 (h:iw)(l1:gy):iw:=h.push {cls:=.type "tuple_iterator",data:=.fields #[.ref l1,.int 0 0]}
noncomputable abbrev zT2 (h:iw)(l1 l2:gy):iw:=(zT1 h l1).push {cls:=.type "tuple_iterator",data:=.fields #[.ref l2,.int 0 0]}
noncomputable abbrev zT3 (h:iw)(l1 l2:gy):iw:=(zT2 h l1 l2).push {cls:=.type "tuple",data:=.seq #[.ref h.objs.size,.ref (zT1 h l1).objs.size]}
noncomputable abbrev zT4 (h:iw)(l1 l2:gy):iw:=(zT3 h l1 l2).push {cls:=.type "tuple",data:=.seq #[.none,.none]}
noncomputable abbrev zT5 (h:iw)(l1 l2:gy):iw:=(zT4 h l1 l2).push {cls:=.type "zip",data:=.fields #[.none,.bool false,.bool false,.ref (zT2 h l1 l2).objs.size,.ref (zT3 h l1 l2).objs.size]}
theorem B4e (l1 l2:gy)(xs ys:Array gw):
  Meets (ic.«zip.__new__» ⟨[.type "zip",.ref l1,.ref l2],[]⟩) (λ_ R s=>s.heap.IsTuple l1 xs/\s.heap.IsTuple l2 ys/\R (.ok (.ret (.ref (zT4 s.heap l1 l2).objs.size))) {s with heap:=zT5 s.heap l1 l2}):=
 .of_wp λprog w A R s h=>by
  obtain⟨hp,g,d,tk,os⟩:=s;obtain⟨p1,p2,h⟩:=h;have isz:=sub_zip;have q1:uj (we ⟨hp,g,d,tk,os⟩) l1 xs:=p1;have q2:uj (we ⟨hp.push {cls:=.type "tuple_iterator",data:=.fields #[.ref l1,.int 0 0]},g,d,tk,os⟩) l2 ys:=let ⟨o,ho,r⟩:=p2;⟨o,AQ _ ho,r⟩
  wp_walk using kl q1,kl q2
  exact⟨_,rfl,h⟩
theorem B2u (p1:s.heap.IsTuple l1 xs)(p2:s.heap.IsTuple l2 ys)
  (h:∀h',wg h' (s.heap.objs.size+4) (s.heap.objs.size+2) (s.heap.objs.size+3) .none->me h' (s.heap.objs.size+2) (.ref s.heap.objs.size) (.ref (s.heap.objs.size+1))->
   me h' (s.heap.objs.size+3) .none .none->h'.IsTupleIter s.heap.objs.size l1 0->h'.IsTupleIter (s.heap.objs.size+1) l2 0->h'.objs.size=s.heap.objs.size+5->
   (∀c o,s.heap.get? c=some o->h'.get? c=some o)->Q (.ref (s.heap.objs.size+4)) {s with heap:=h'}):
  ia (iu prog w) A (call (.type "zip") [.ref l1,.ref l2]) Q E s:=by
 refine An F.called_zip (by decide) (F.typeCall_zip_2 _ _) (F.newCall_zip_2 _ _) (λobj=>F.args_object_init_3 obj _ _) F.entry_zip_new (B4e l1 l2 xs ys) ⟨p1,p2,?_⟩;have y1:(zT1 s.heap l1).objs.size=s.heap.objs.size+1:=f6 ..;have y2:(zT2 s.heap l1 l2).objs.size=s.heap.objs.size+2:=by rw[f6,y1]
 have y3:(zT3 s.heap l1 l2).objs.size=s.heap.objs.size+3:=by rw[f6,y2]
 have y4:(zT4 s.heap l1 l2).objs.size=s.heap.objs.size+4:=by rw[f6,y3]
 have y5:(zT5 s.heap l1 l2).objs.size=s.heap.objs.size+5:=by rw[f6,y4]
 have r5:(zT5 s.heap l1 l2).get? (zT4 s.heap l1 l2).objs.size=some _:=fu _ rfl;have r4:(zT5 s.heap l1 l2).get? (zT3 s.heap l1 l2).objs.size=some _:=AQ _ (fu _ rfl);have r3:(zT5 s.heap l1 l2).get? (zT2 s.heap l1 l2).objs.size=some _:=AQ _ (AQ _ (fu _ rfl));have r2:(zT5 s.heap l1 l2).get? (zT1 s.heap l1).objs.size=some _:=AQ _ (AQ _ (AQ _ (fu _ rfl)));have r1:(zT5 s.heap l1 l2).get? s.heap.objs.size=some _:=AQ _ (AQ _ (AQ _ (AQ _ (fu _ rfl))));show _/\_;rw[y2,y3,y4]at r5;rw[y1,y2]at r3;rw[y3]at r4;rw[y1]at r2;rw[y4];exact⟨⟨_,r5,rfl⟩,h _ r5 r3 r4 ⟨_,r1,rfl,rfl⟩ ⟨_,r2,rfl,rfl⟩ y5 λc o x=>AQ _ (AQ _ (AQ _ (AQ _ (AQ _ x))))⟩
end PySem
namespace L2
open PySem PySem.Spec PyProof.Rows
structure SeqK where
 Sq:W.Frag->Hp->gy->List V->Prop
 isq:iw->gy->Array gw->Prop
 iit:iw->gy->gy->Nat->Prop
structure SeqK.Ok (k:SeqK):Prop where
 get:∀{X:Cx}{ir:List (gy×Obj)}{σ:St}{H:Hp}{s:h7}{a:gy}{xs:List V},Inv X ir σ H s->k.Sq X.K H a xs->∃i8:List gw,Vals xs i8/\k.isq s.heap a i8.toArray
 inj:∀{X:Cx}{ir:List (gy×Obj)}{σ:St}{H:Hp}{s:h7}{a:gy}{xs ys:List V},Inv X ir σ H s->k.Sq X.K H a xs->k.Sq X.K H a ys->xs=ys
 lt:∀{h:iw}{a:gy}{i8:Array gw},k.isq h a i8->a<h.objs.size
 dr:∀{prog:il}{w:i6}{A:kb},A.handled=none->∀(it l:gy),l≠it->∀items:Array gw,Draws prog w A it [it,l] items.size (λi v=>items[i]?=some v) (λi h=>k.iit h it l i/\k.isq h l items)
 obj:∀{h:iw}{it l:gy}{i:Nat},k.iit h it l i->∃o,h.get? it=some o/\∀v,o.data≠ .cell v
 «at»:∀{h h':iw}{it l:gy}{i:Nat},k.iit h it l i->(∀o,h.get? it=some o->h'.get? it=some o)->k.iit h' it l i
 zip:∀{prog:il}{w:i6}{A:kb}{E:gw->h7->Prop}{s:h7}{l1 l2:gy}{xs ys:Array gw}{Q:gw->h7->Prop},k.isq s.heap l1 xs->k.isq s.heap l2 ys->
  (∀h',wg h' (s.heap.objs.size+4) (s.heap.objs.size+2) (s.heap.objs.size+3) .none->me h' (s.heap.objs.size+2) (.ref s.heap.objs.size) (.ref (s.heap.objs.size+1))->me h' (s.heap.objs.size+3) .none .none->
   k.iit h' s.heap.objs.size l1 0->k.iit h' (s.heap.objs.size+1) l2 0->(∀c o,s.heap.get? c=some o->h'.get? c=some o)->Q (.ref (s.heap.objs.size+4)) {s with heap:=h'})->ia (iu prog w) A (call (.type "zip") [.ref l1,.ref l2]) Q E s
noncomputable def kL:SeqK:=⟨A2,iw.IsList,iw.IsListIter⟩
noncomputable def kT:SeqK:=⟨A3,uj,iw.IsTupleIter⟩
theorem kL_ok:kL.Ok where
 get:=λI h=>let ⟨i8,r,p,_⟩:=I.list h;⟨i8,r,p.isList⟩
 inj:=λI h1 h2=>I.list_inj h1 h2
 lt:=λp=>let ⟨o,ho,_⟩:=p;AV ho
 dr:=λhh it l hne items=>Draws.list hh it l hne items
 obj:=λ⟨o,e,c,d⟩=> ⟨o,e,λv z=>by rw[d]at z;cases z⟩
 «at»:=λx k=>iw.IsListIter.at x k
 zip:=λp1 p2 h=>call_zip_2 p1 p2 λh' a1 a2 a3 a4 a5 _ a7=>h h' a1 a2 a3 a4 a5 a7
theorem kT_ok:kT.Ok where
 get:=λI h=>let ⟨i8,r,p,_⟩:=I.tuple h;⟨i8,r,p⟩
 inj:=λI h1 h2=>I.tuple_inj h1 h2
 lt:=λp=>let ⟨o,ho,_⟩:=p;AV ho
 dr:=λhh it l hne items=>Draws.tuple hh it l hne items
 obj:=λ⟨o,e,c,d⟩=> ⟨o,e,λv z=>by rw[d]at z;cases z⟩
 «at»:=λx k=>iw.IsTupleIter.at x k
 zip:=λp1 p2 h=>B2u p1 p2 λh' a1 a2 a3 a4 a5 _ a7=>h h' a1 a2 a3 a4 a5 a7
noncomputable def Itz (S1 S2:Hp->List V->Prop):It:=
 ⟨λi H=> ∃xs ys x y,S1 H xs/\S2 H ys/\xs[i]?=some x/\ys[i]?=some y,λi H v H'=> ∃p x y,v= .ref p/\H p=none/\H'=upd H p (.tup [x,y])/\(∀xs,S1 H xs->xs[i]?=some x)/\∀ys,S2 H ys->ys[i]?=some y,λi H=> ∃xs ys,S1 H xs/\S2 H ys/\(xs.length=i\/(ys.length=i/\i<xs.length))⟩
theorem A0g {P:il}{w:i6}{K:W.Frag}{es:List j7}{x1}{pos:Pos}{k k2:SeqK}(ok:k.Ok)(ok2:k2.Ok)(z TI TO i1 i2 a b:gy)(D:mU z TI TO i1 i2 [i1,a] [i2,b])(ha:a≠i1)(hb:b≠i2):
  gA P w K (.Tuple es x1 pos) (Itz (λH xs=>k.Sq K H a xs) λH ys=>k2.Sq K H b ys) [z,TI,TO,i1,i2] z (λi h=>wg h z TI TO .none/\me h TI (.ref i1) (.ref i2)/\(∃u v,me h TO u v)/\k.iit h i1 a i/\k2.iit h i2 b i)where
 mem:=by simp
 obj:=λi h st c hc=>by
  obtain⟨hz,hTI,⟨u,v,hTO⟩,h1,h2⟩:=st;simp only[di,fc,or_false]at hc;rcases hc with rfl|rfl|rfl|rfl|rfl
  ·exact⟨_,hz,λv z=>by cases z⟩
  ·exact⟨_,hTI,λv z=>by cases z⟩
  ·exact⟨_,hTO,λv z=>by cases z⟩
  ·exact ok.obj h1
  ·exact ok2.obj h2
 keep:=λi h h' st kp=>by
  obtain⟨hz,hTI,⟨u,v,hTO⟩,h1,h2⟩:=st;exact⟨kp z (by simp) _ hz,kp TI (by simp) _ hTI,⟨u,v,kp TO (by simp) _ hTO⟩,ok.at h1 λo q=>kp i1 (by simp) o q,ok2.at h2 λo q=>kp i2 (by simp) o q⟩
 item:=by
  intro X hP hw hK hc i ir s σ H E I hf st hg;subst hP hw hK;obtain⟨hz,hTI,⟨u,v,hTO⟩,h1,h2⟩:=st;obtain⟨xs,ys,x,y,q1,q2,e1,e2⟩:=hg;obtain⟨i8,rv,p1⟩:=ok.get I q1;obtain⟨jts,rw',p2⟩:=ok2.get I q2;obtain⟨ux,hux,rx⟩:=rv.get e1;obtain⟨uy,huy,ry⟩:=rw'.get e2;have l1:i<i8.toArray.size:=by rw[fj];exact(AR.mp hux).1
  have l2:i<jts.toArray.size:=by rw[fj];exact(AR.mp huy).1
  have hh:X.A.in1.handled=none:=by simp[I.ok.hd hc]
  refine xM (ok.dr hh i1 a ha i8.toArray) (ok2.dr hh i2 b hb jts.toArray) D hz hTI hTO ⟨h1,p1⟩ ⟨h2,p2⟩ (f9 l1) (λ_=>f9 l2) (λ_ _ vx vy h' tk hvx hvy g1 g2 g3 g4 g5 g6=> ?_) λn=>absurd ⟨l1,l2⟩ n;have ex:vx=ux:=by
   have e:i8[i]?=some vx:=by simpa using hvx
   rw[hux]at e;exact(ig e).symm
  have ey:vy=uy:=by
   have e:jts[i]?=some vy:=by simpa using hvy
   rw[huy]at e;exact(ig e).symm
  subst ex ey;refine⟨_,rfl,wpAny_letOwnedTupleGo_zip (s:={s with heap:=h',toks:=tk}) g1 λh2' hz2 hs2=> ?_⟩;have hn:H s.heap.objs.size=none:=I.hok.fresh (AY _);have lz:∀{c o},s.heap.get? c=some o->s.heap.objs.size≠c:=λe=>gr (AV e);have li1:s.heap.objs.size≠i1:=let ⟨o,e,_⟩:=ok.obj h1;lz e;have li2:s.heap.objs.size≠i2:=let ⟨o,e,_⟩:=ok2.obj h2;lz e;have kp:∀c o,c∉[z,TI,TO,i1,i2]->s.heap.get? c=some o->h2'.get? c=some o:=λc o hc' q=>by
   have c1:c≠z:=λe=>hc' (by simp[e]);exact(hs2.2 c c1).trans (g6 c o c1 (λe=>hc' (by simp[e])) (λe=>hc' (by simp[e])) (λe=>hc' (by simp[e])) q)
  have hT2:me h2' s.heap.objs.size vx vy:=(hs2.2 _ (lz hz)).trans g5;have I2:Inv X ir σ (upd H s.heap.objs.size (.tup [x,y])) {s with heap:=h2',toks:=tk}:=I.turnLaid (fp:=[z,TI,TO,i1,i2]) kp hf (AY _) ⟨by show 2<=gz;rw[jh];decide,[vx,vy],.cons rx (.cons ry .nil),⟨_,hT2,rfl,_,rfl⟩⟩;have hTI2:me h2' TI (.ref i1) (.ref i2):=(hs2.2 _ D.Iz).trans (g6 _ _ D.Iz D.IO D.I1 D.I2 hTI);refine⟨.ref s.heap.objs.size,_,I2,rfl,⟨s.heap.objs.size,x,y,rfl,hn,rfl,λzs hz'=>by rw[ok.inj I hz' q1];exact e1,λzs hz'=>by rw[ok2.inj I hz' q2];exact e2⟩,⟨hz2,hTI2,⟨_,_,(hs2.2 _ D.Oz).trans g2⟩,ok.at g3.1 λo q=>(hs2.2 _ D.iz).trans q,ok2.at g4.1 λo q=>(hs2.2 _ D.jz).trans q⟩,λc hc'=> ?_⟩;have hcz:c≠s.heap.objs.size:=by
   simp only[di,fc,or_false]at hc';rcases hc' with rfl|rfl|rfl|rfl|rfl
   ·exact(lz hz).symm
   ·exact(lz hTI).symm
   ·exact(lz hTO).symm
   ·exact li1.symm
   ·exact li2.symm
  rw[bA hcz];exact(hf c hc').1
 done:=by
  intro X hP hw hK hc i ir s σ H E I hf st hg;subst hP hw hK;obtain⟨hz,hTI,⟨u,v,hTO⟩,h1,h2⟩:=st;obtain⟨xs,ys,q1,q2,hxy⟩:=hg;obtain⟨i8,rv,p1⟩:=ok.get I q1;have hl:=rv.length;have hh:X.A.in1.handled=none:=by simp[I.ok.hd hc]
  obtain⟨jts,rw',p2⟩:=ok2.get I q2;have AF:=rw'.length;have hs1:i8.toArray.size=xs.length:=by rw[fj,hl]
  have hs2:jts.toArray.size=ys.length:=by rw[fj,AF]
  exact xM (ok.dr hh i1 a ha i8.toArray) (ok2.dr hh i2 b hb jts.toArray) D hz hTI hTO ⟨h1,p1⟩ ⟨h2,p2⟩ (by omega) (λ_=>by omega) (λ_ _=>absurd hxy (by omega)) λ_ h' tk hk=> ⟨rfl,I.turnedL (fp:=[z,TI,TO,i1,i2]) (t':=tk) (λc o hc' q=>hk c o (λe=>hc' (by simp[e])) (λe=>hc' (by simp[e])) (λe=>hc' (by simp[e])) (λe=>hc' (by simp[e])) q) hf⟩
 self:=λ_ _ _ _ _ st h=>xl st.1 h
noncomputable def B30 (k:SeqK)(K:W.Frag)(ta:TA):TI:=λσ H R=>ta σ H λvs H1=> ∃a b xs ys,vs=[.ref a,.ref b]/\k.Sq K H1 a xs/\k.Sq K H1 b ys/\R (Itz (λH xs=>k.Sq K H a xs) λH ys=>k.Sq K H b ys) H1
theorem rK {a b:j7}{ta:TA}{p pos:Pos}{es:List j7}{x1}{tpos:Pos}{k:SeqK}(ok:k.Ok)(hg:Gl X "zip")(hm:X.mg "zip" =none)(ha:PA X [a,b] ta)(hs:jo [a,b] X.env=[(false,mv a X.env),(false,mv b X.env)]:=by rfl)(hs2:jo [b] X.env=[(false,mv b X.env)]:=by rfl):
  PI X (.Tuple es x1 tpos) (.Call (.Name "zip" p) [a,b] [] pos) (B30 k X.K ta):=by
 intro ir s σ H R I h;refine Call_ (iP I hg hm boot_zip (j9 (thn (ha pos ir s σ H _ I h) λus s1 ⟨vs,H1,I1,r1,q1⟩=> ?_) (by rw[hs,hs2]) (by rw[hs2];rfl)));obtain⟨a',b',xs,ys,e,q1,q2,q⟩:=q1;subst e;obtain⟨u,v,rfl,rx,ry⟩:=jX r1;cases rx;cases ry;obtain⟨i8,rv,p1⟩:=ok.get I1 q1;obtain⟨jts,rw',p2⟩:=ok.get I1 q2;have l1:=ok.lt p1;have l2:=ok.lt p2;refine ok.zip p1 p2 λh' a1 a2 a3 a4 a5 a7=> ?_;refine xl (s:={s1 with heap:=h'}) a1 ?_;have I2:Inv X ir σ H1 {s1 with heap:=h'}:=I1.kept (t':=s1.toks) a7;have far:=vW s1.heap.objs.size a' b' l1 l2;refine⟨s1.heap.objs.size+4,[s1.heap.objs.size+4,s1.heap.objs.size+2,s1.heap.objs.size+3,s1.heap.objs.size,s1.heap.objs.size+1],_,_,H1,rfl,I2,A0g ok ok _ _ _ _ _ a' b' far (gu l1) (gu (gp l2)),⟨a1,a2,⟨_,_,a3⟩,a4,a5⟩,λc hc'=> ?_,q⟩;have hge:s1.heap.objs.size<=c:=by
  simp only[di,fc,or_false]at hc';rcases hc' with rfl|rfl|rfl|rfl|rfl
  ·exact f7 _ 4
  ·exact f7 _ 2
  ·exact f7 _ 3
  ·exact AY _
  ·exact gb _
 exact I1.fpOk hge (I1.hok.fresh hge)
theorem nZ (rg:ys.length<=xs.length)(Pv:Nat->St->Hp->Prop)(h0:Pv 0 σ H)(hl:∀i σ H,Pv i σ H->S1 H xs/\S2 H ys)
  (hs:∀i x y p σ H,xs[i]?=some x->ys[i]?=some y->Pv i σ H->H p=none->g (.ref p) σ (upd H p (.tup [x,y])) λσ2 H2=>tb {D with nx:=Pv (i+1),ct:=Pv (i+1),bk:=D.nx} σ2 H2)(hd:∀σ H,Pv ys.length σ H->D.nx σ H):
  dF (Itz S1 S2) g tb D σ H:=by
 refine⟨λi m σ H=>m=ys.length - i/\i<=ys.length/\Pv i σ H,⟨ys.length,by simp,gv _,h0⟩,?_⟩;rintro i m σ H ⟨rfl,hi,p⟩;obtain⟨q1,q2⟩:=hl i σ H p;by_cases hlt2:i<ys.length
 ·have AG:i<xs.length:=by omega
  refine .inr ⟨⟨xs,ys,xs[i],ys[i],q1,q2,by simp[AG],by simp[hlt2]⟩,Pv (i+1),λσ' H' p'=> ⟨ys.length -(i+1),by omega,rfl,hlt2,p'⟩,λx H' y=> ?_⟩;obtain⟨pp,a,b,e1,e2,e3,e4,e5⟩:=y;subst e1 e3;exact hs i a b pp σ H (e4 xs q1) (e5 ys q2) p e2
 ·have e:i=ys.length:=by omega
  subst e;exact .inl ⟨⟨xs,ys,q1,q2,by omega⟩,hd σ H p⟩
section
variable {X:Cx}
theorem rX (ns:List Int):∀j:Nat,preSum (λi=>(ns[i]?).getD 0) j=(ns.take j).sum
 |0=>by simp[preSum]
 |j+1=>by
  have ih:=rX ns j;rw[fq,fk];show preSum (λi=>(ns[i]?).getD 0) j+(ns[j]?).getD 0=_;rw[ih];cases ns[j]?<;>simp
theorem vG (hB:0<=B):∀{ns:List Int},(∀n∈ns,-B<=n/\n<=B)->-(B*ns.length)<=ns.sum/\ns.sum<=B*ns.length
 | [],_=>by simp
 |n::ns,h=>by
  have ih:=vG hB (ns:=ns) λm hm=>h m (AW _ hm);have h0:=h n AX;rw[fm,b4];have e:B*((ns.length+1:Nat):Int)=B*(ns.length:Int)+B:=by
   rw[yj,r6];simp
  rw[e];constructor<;>omega
theorem wF (hc:X.calm=true):eO X (.builtin "sum") (λxs H Q=> ∃(p:gy)(ns:List Int),xs=[.ref p]/\A2 X.K H p (ns.map V.int)/\ns.length<=1000/\(∀n∈ns,-10000<=n/\n<=10000)/\Q (.int ns.sum) H):=by
 intro ir s σ H xs us Q I r h;obtain⟨p,ns,rfl,hq,hl,hn,q⟩:=h;obtain⟨u,rfl,rx⟩:=fX r;cases rx;obtain⟨i8,rv,pl,hz⟩:=I.list hq;have rg:=rv.length;rw[b8]at rg;have AG:p<s.heap.objs.size:=by obtain⟨_,e,_⟩:=pl.isList;exact AV e
 have long:∀z:Int,-10000000<=z->z<=10000000->InLong z:=λz h1 h2=>by unfold InLong;omega
 refine call_sum_walk (n5 pl.isList ?_);refine⟨s.heap.objs.size,[s.heap.objs.size,p],[s.heap.objs.size],i8.toArray.size,_,_,λi=>(ns[i]?).getD 0,rfl,Walks.list (A:=X.A.in1) (by simp[I.ok.hd hc]) _ p (gu AG) i8.toArray,⟨⟨_,fu _ rfl,rfl,rfl⟩,pl.isList.push _⟩,λb hb=> ?_,λi v hP=> ?_,λj hj=> ?_,λh' tk t' hk=> ?_⟩
 ·show b<(s.heap.push _).objs.size;rw[f6];rcases di.mp hb with z|z
  ·rw[z];exact gq _
  ·rw[d6.mp z];exact gp AG
 ·have hP':i8[i]?=some v:=by simpa using hP
  have hi:i<ns.length:=by rw[rg];exact(AR.mp hP').1
  obtain⟨u,hu,ru⟩:=rv.get (i:=i) (x:=.int ns[i]) (by rw[br];simp[hi]);rw[hP']at hu;cases hu;obtain⟨t,rfl⟩:=ru;exact⟨t,by simp[hi]⟩
 ·have hj':j<ns.length:=by rw[fj]at hj;omega
  refine⟨?_,?_⟩
  ·have:=hn ns[j] (bx hj');have e:(ns[j]?).getD 0=ns[j]:=by simp[hj']
   show InLong ((ns[j]?).getD 0);rw[e];exact long _ (by omega) (by omega)
  ·rw[rX];have:=vG (B:=10000) (by decide) (ns:=ns.take (j+1)) λn h=>hn n (r8 h);have h2:(ns.take (j+1)).length<=1000:=by rw[cm];omega
   exact long _ (by omega) (by omega)
 ·have e:preSum (λi=>(ns[i]?).getD 0) i8.toArray.size=ns.sum:=by
   rw[rX,fj,←rg,fo (AY _)]
  rw[e];exact⟨.int _,H,I.kept (h':=h') (t':=tk) (zy hk),⟨_,rfl⟩,q⟩
theorem wW (hc:X.calm=true):eO X (.builtin "sum") (λxs H Q=> ∃(p:gy)(ns:List Int),xs=[.ref p]/\A2 X.K H p (ns.map V.int)/\ns.length<=1000/\(∀n∈ns,-1000<=n/\n<=1000)/\Q (.int ns.sum) H):=by intro ir s σ H xs us Q I r h;obtain⟨p,ns,e,hq,hl,hn,q⟩:=h;exact wF hc ir s σ H xs us Q I r ⟨p,ns,e,hq,hl,λn h=>by have:=hn n h;omega,q⟩
theorem pJ {ir:List (gy×Obj)}{σ:St}{H:Hp}{s:h7}{A:kb}{a p:gy}{c d:Int×Int}(I:Inv X ir σ H s)(hu:A.units<jt)(ha:H a=some (.tup [.int d.1,.int d.2]))(hp:H p=some (.tup [.int c.1,.int c.2])):i5 A s (.ref a) (.ref p) (decide (d=c)):=by
 by_cases hap:a=p
 ·subst hap;rw[ha]at hp;have e:d=c:=by
   injection hp with z;injection z with z;injection z with z1 z2;injection z2 with z2 _;exact rm (V.int.inj z1) (V.int.inj z2)
  rw[AS e];exact sm _
 ·obtain⟨i8,r1,p1,_⟩:=I.tuple (A3.of ha);obtain⟨jts,r2,p2,_⟩:=I.tuple (A3.of hp);obtain⟨x1,x2,rfl,⟨t1,rfl⟩,⟨t2,rfl⟩⟩:=r1.two;obtain⟨y1,y2,rfl,⟨u1,rfl⟩,⟨u2,rfl⟩⟩:=r2.two;have key:nj A s (.ref a) (.ref p) ((iq (min 2 2)).all (λj=>if j=0 then d.1==c.1 else d.2==c.2)&&(2:Nat)==2):=qf (items:=#[.int d.1 t1,.int d.2 t2]) (items2:=#[.int c.1 u1,.int c.2 u2]) p1 p2 hu λj h1 h2=>by
   match j,h1,h2 with
   |0,_,_=>exact nh _ _ _ _
   |1,_,_=>exact nh _ _ _ _
  have e:((iq (min 2 2)).all (λj=>if j=0 then d.1==c.1 else d.2==c.2)&&(2:Nat)==2)=decide (d=c):=by
   obtain⟨d1,d2⟩:=d;obtain⟨c1,c2⟩:=c;show(List.all [0,1] _&&true)=_;simp only[aa,List.all_nil,Aa,if_true,Nat.one_ne_zero,if_false];rw[iy];simp
  rw[e]at key;exact ve hap key
noncomputable def A9j:R2:=λx y H Q=> ∃p l ps cs c,x= .ref p/\y= .ref l/\H p=some (.tup [.int c.1,.int c.2])/\H l=some (.lst (ps.map V.ref))/\PlAt H ps cs/\Q (.bl (decide (c∈cs))) H
theorem zU (he:∀a d,H a=some (.tup [.int d.1,.int d.2])->e (.ref a)=decide (d=c)):∀{ps:List gy}{cs:List (Int×Int)}{us:List gw},PlAt H ps cs->Vals (ps.map V.ref) us->us.any e=decide (c∈cs)
 |_,_,_,.nil,.nil=>by simp
 |p::ps,d::cs,u::us,.cons h t,.cons r v=>by
  cases (show u=h8 p from r);rw[ag,he p d h,zU he t v,iy];simp only[Bool.or_eq_true,decide_eq_true_eq,di];constructor
  ·rintro(z|z)
   ·exact .inl z.symm
   ·exact .inr z
  ·rintro(z|z)
   ·exact .inl z.symm
   ·exact .inr z
theorem xD:∀{ps:List gy}{cs:List (Int×Int)}{us:List gw},PlAt H ps cs->Vals (ps.map V.ref) us->∀u∈us,∃(a:gy)(d:Int×Int),u= .ref a/\H a=some (.tup [.int d.1,.int d.2])
 |_,_,_,.nil,.nil=>λu hu=>by cases hu
 |p::ps,d::cs,u::us,.cons h t,.cons r v=>λw hw=>by
  cases (show u=h8 p from r);rcases di.mp hw with z|z
  ·exact⟨p,d,z,h⟩
  ·exact xD t v w z
open Classical in
theorem A5m (hu:X.A.units+1<jt):OpR X (jl .In) A9j:=by
 intro ir s σ H x y v u Q I rx ry h;obtain⟨p,l,ps,cs,c,rfl,rfl,hp,hl,hP,q⟩:=h;cases rx;cases ry;obtain⟨i8,r,pl,hz⟩:=I.list (A2.of hl);let e:gw->Bool:=λy=>decide (∃a,y= .ref a/\H a=some (.tup [.int c.1,.int c.2]));have he:∀a d,H a=some (.tup [.int d.1,.int d.2])->e (.ref a)=decide (d=c):=λa d ha=>by
  show decide (∃a',h8 a= .ref a'/\_)=_;rw[iy];simp only[decide_eq_true_eq];constructor
  ·rintro⟨a',z1,z2⟩;cases z1;rw[ha]at z2;injection z2 with z;injection z with z;injection z with z1 z2;injection z2 with z2 _
   exact rm (V.int.inj z1) (V.int.inj z2)
  ·intro z;subst z;exact⟨a,rfl,ha⟩
 refine yh e pl.isList (λy hy=> ?_) ⟨.bl _,H,I,rfl,?_⟩
 ·obtain⟨a,d,rfl,ha⟩:=xD hP r y (by simpa using hy);rw[he a d ha];exact pJ I (show X.A.units+1<jt from hu) ha hp
 ·rw[show i8.toArray.any e=i8.any e by simp,zU he hP r];exact q
end
noncomputable def Cx.within (X:Cx)(e:gy)(oe:Obj):Cx:={X with A:=X.A.mark (some (.ref e)),calm:=false,pn:=(e,oe)::X.pn,xe:=λ_ _=>False}
open Grd
theorem GridAt.same (h:GridAt H a g)(s:Same H H'):GridAt H' a g:=h.ext s.ext
theorem A1v {K:W.Frag}{a l:gy}{g:bE}{bs:List gy}{f:Int->Bool}{H0:Hp}{tt2:TT}{Q:St->Hp->Prop}(ha:H0 a=some (.tup (bs.map V.ref)))(hG:RowsG H0 bs g)(hl:H0 l=none)(h4:g.length<=4)(h6:∀xs∈g,xs.length<=6)
  (htt:∀(at' k:Nat)(r:V)(i:Int) H' (Q':Bool->Hp->Prop),Q' (f i) H'->tt2 [some (.int at'),some r,some (.int k),some (.int i)] H' Q')
  (hQ:∀σ H' ps,Same H0 H'->H' l=some (.lst (ps.map V.ref))->PlAt H' ps (bD f g)->Q σ H'):
  dF (Ite λH xs=>A3 K H a xs) (kG K 2 (fJ (dL 0) (fJ (dL 1) jN))) (cS iE (nV (yU K (cD (dY 1) iF)) (kG K 2 (fJ (dL 2) (fJ (dL 3) jN))) tt2 (fG l (jZ (cD (dY 0) (cD (dY 2) iF)))))) (eC Q) [none,none,none,none] (upd H0 l (.lst [])):=by
 have s0:Same H0 (upd H0 l (.lst [])):=aY hl;have hbs:bs.length=g.length:=Paired.length hG;refine yH (xs:=bs.map V.ref) (λi σ H'=>σ.length=4/\Same H0 H'/\∃ps,H' l=some (.lst (ps.map V.ref))/\PlAt H' ps (bD f (g.take i))/\ps.length<=6*i) ⟨rfl,s0,[],by rw[aJ];rfl,.nil,gv _⟩ (λi σ H' _ h=>A3.of (h.2.1 _ _ ha)) ?_ ?_
 ·rintro i r p σ H' hx ⟨hσ,hs,ps,zl,hP,hn⟩ hp;obtain⟨b,hbi,rfl⟩:∃b,bs[i]?=some b/\V.ref b=r:=by
   rw[br]at hx;cases e:bs[i]? with
   |none=>rw[e]at hx;cases hx
   |some b=>rw[e]at hx;exact⟨b,rfl,ig hx⟩
  obtain⟨xs,hgi,hb⟩:=hG.row hbi;have hx6:=h6 xs (d3 hgi);have hi4:i<4:=gi (AR.mp hgi).1 h4;have s1:Same H' (upd H' p (.tup [.int i,.ref b])):=aY hp;obtain⟨x0,x1,x2,x3,rfl⟩:=A5o hσ;refine⟨p,_,rfl,A3.of aJ,rfl,_,_,rfl,_,_,rfl,rfl,?_⟩;refine gV ?_;refine⟨_,rfl,b,xs.map V.int,rfl,A3.of (s1 _ _ (hs _ _ hb)),?_⟩;refine yH (xs:=xs.map V.int) (λj σ H2=>(∃y2 y3,σ=[some (.int i),some (.ref b),y2,y3])/\Same H0 H2/\∃ps,H2 l=some (.lst (ps.map V.ref))/\PlAt H2 ps (bD f (g.take i)++fF f i (xs.take j))/\ps.length<=6*i+j) ?_ (λj σ H2 _ h=>A3.of (h.2.1 _ _ hb)) ?_ ?_
  ·exact⟨⟨x2,x3,rfl⟩,hs.trans s1,ps,s1 _ _ zl,by simpa[fF]using hP.same s1,hn⟩
  ·rintro j x p2 σ H2 hxj ⟨⟨y2,y3,rfl⟩,hs2,ps2,AF,hP2,hn2⟩ hp2;obtain⟨z,hzj,rfl⟩:∃z,xs[j]?=some z/\V.int z=x:=by
    rw[br]at hxj;cases e:xs[j]? with
    |none=>rw[e]at hxj;cases hxj
    |some z=>rw[e]at hxj;exact⟨z,rfl,ig hxj⟩
   have hj6:j<6:=gi (AR.mp hzj).1 hx6;have s2:Same H2 (upd H2 p2 (.tup [.int j,.int z])):=aY hp2;refine⟨p2,_,rfl,A3.of aJ,rfl,_,_,rfl,_,_,rfl,rfl,?_⟩;refine htt i j (.ref b) z _ _ (cU (λe=> ?_) λe=> ?_)
   ·refine⟨_,rfl,_,rfl,(by show 2<=gz;decide),λq hq=> ?_⟩;have s3:=aY (o:=.tup [.int i,.int j]) hq;have hlq:l≠q:=bK (s2 _ _ AF) hq;refine⟨_,s3 _ _ (s2 _ _ AF),cG (by rw[b8];omega),⟨_,_,rfl⟩,λb' u e'=> ?_,ps2++[q],?_,?_,?_⟩
    ·rw[bA (bK e' hl)];exact s3 _ _ (s2 _ _ (hs2 _ _ e'))
    ·rw[aJ,cx];rfl
    ·have hne:∀b' u,(upd (upd H2 p2 (.tup [.int j,.int z])) q (.tup [.int i,.int j])) b'=some (.tup u)->(upd (upd (upd H2 p2 (.tup [.int j,.int z])) q (.tup [.int i,.int j])) l (.lst (ps2.map V.ref++[.ref q]))) b'=some (.tup u):=λb' u e'=>by
      rw[bA (λz'=> ?_)];exact e';rw[z',bA hlq,s2 _ _ AF]at e';cases e'
     rw[Grd.rowF_succ f i xs j _ hzj,if_pos e,←aj];exact PlAt.snoc (Paired.mapP ((hP2.same s2).same s3) λ_ _ e'=>hne _ _ e') (hne _ _ aJ)
    ·rw[bz];show ps2.length+1<=_;omega
   ·refine⟨⟨_,_,rfl⟩,hs2.trans s2,ps2,s2 _ _ AF,?_,by omega⟩;rw[Grd.rowF_succ f i xs j _ hzj,if_neg (by rw[e];decide),ak];exact hP2.same s2
  ·rintro σ H2 ⟨⟨y2,y3,rfl⟩,hs2,ps2,AF,hP2,hn2⟩;rw[b8]at hP2 hn2;refine⟨rfl,hs2,ps2,AF,?_,by omega⟩;rw[fo (AY _)]at hP2;rw[Grd.gridF_succ f g i _ hgi];exact hP2
 ·rintro σ H' ⟨_,hs,ps,zl,hP,_⟩;rw[b8,hbs,fo (AY _)]at hP;exact hQ σ H' ps hs zl hP
theorem GridAt.ix {H:Hp}{a:gy}{g:bE}(hA:GridAt H a g){i j:Nat}{xs:List Int}{x:Int}(h1:g[i]?=some xs)(h2:xs[j]?=some x):∃(bs:List gy)(b:gy),H a=some (.tup (bs.map V.ref))/\atI (bs.map V.ref) i=some (.ref b)/\H b=some (.tup (xs.map V.int))/\atI (xs.map V.int) j=some (.int x):=by obtain⟨bs,ha,hG⟩:=hA;obtain⟨b,hb,hr⟩:=hG.get h1;exact⟨bs,b,ha,dO (by rw[br,hb];rfl),hr,dO (by rw[br,h2];rfl)⟩
end L2
namespace Srt
open PySem PySem.W PyProof.Rows
noncomputable def gT (cmp:Nat->Nat->(Bool->h7->Prop)->h7->Prop)(n:Nat)(r:Nat->Int)(s:h7):Prop:=∀i j (C:Bool->h7->Prop),i<n->j<n->C (decide (r i<r j)) s->cmp i j C s
noncomputable def at' (p:Array Nat)(k:Nat):Nat:=p.getD k 0
noncomputable def Pm (n:Nat)(p:Array Nat):Prop:=p.Perm (iq n).toArray
theorem Pm.size (h:Pm n p):p.size=n:=by rw[yb.size_eq h];simp
theorem Pm.lt (h:Pm n p)(k:Nat)(hn:0<n):at' p k<n:=by
 unfold at';by_cases hk:k<p.size
 ·have e:p.getD k 0=p[k]:=by simp[yc,hk]
  rw[e];have h1:p[k]∈p.toList:=by simp
  have h2:=(n8.mp h).mem_iff.mp h1;simpa using h2
 ·have e:p.getD k 0=0:=by simp[yc,hk]
  rw[e];exact hn
noncomputable def R (r:Nat->Int)(p:Array Nat)(k:Nat):Int:=r (at' p k)
noncomputable def Up (r:Nat->Int)(p:Array Nat)(k:Nat):Prop:=∀i j,i<=j->j<k->R r p i<=R r p j
noncomputable def Dn (r:Nat->Int)(p:Array Nat)(k:Nat):Prop:=∀i j,i<=j->j<k->R r p j<=R r p i
theorem A55 (h:Up r p k)(h1:R r p (k - 1)<=R r p k):Up r p (k+1):=by
 intro i j hij hj;by_cases e:j<k
 ·exact h i j hij e
 ·have:j=k:=by omega
  subst this;by_cases e2:i=j
  ·subst e2;exact m6 _
  ·exact uk (h i (j - 1) (by omega) (by omega)) h1
theorem rV (h:Dn r p k)(h1:R r p k<=R r p (k - 1)):Dn r p (k+1):=by
 intro i j hij hj;by_cases e:j<k
 ·exact h i j hij e
 ·have:j=k:=by omega
  subst this;by_cases e2:i=j
  ·subst e2;exact m6 _
  ·exact uk h1 (h i (j - 1) (by omega) (by omega))
theorem B20 (hj:j<=p.size)(k:Nat):at' (kas_rev p i j) k=if i<=k/\k<j then at' p (i+j - 1 - k)else at' p k:=by
 have e:=getElem?_mirror_all (xs:=p) (i:=i) hj k;have g:∀(xs:Array Nat)(k:Nat),at' xs k=(xs[k]?).getD 0:=λxs k=>by unfold at';simp[yc];split<;>simp[*]
 rw[g,g,g];show(mirror p i j ((j - i)/2))[k]?.getD 0=_;rw[e]
 split<;>rfl
theorem pZ (hj:j<=p.size)(k:Nat):R r (kas_rev p i j) k=if i<=k/\k<j then R r p (i+j - 1 - k)else R r p k:=by unfold R;rw[B20 hj];split<;>rfl
theorem kM (hj:j<=p.size)(h:∀k,i<=k->k<j->R r p k=R r p (j - 1))(k:Nat):R r (kas_rev p i j) k=R r p k:=by
 rw[pZ hj]
 split
 ·rw[h _ (by omega) (by omega),h k (by omega) (by omega)]
 ·rfl
theorem Pm.rev (h:Pm n p)(i j:Nat):Pm n (kas_rev p i j):=yb.trans (mirror_perm _ _ _ _) h
theorem Pm.bub (h:Pm n p)(k d:Nat):Pm n (bubble p k d):=yb.trans (bubble_perm _ _ _) h
theorem A1k (hs:src<p.size)(hd:d<=src)(k:Nat):R r (bubble p src d) k=if k=src - d then R r p src else if src - d<k/\k<=src then R r p (k - 1)else R r p k:=by
 have e:=getElem?_bubble (xs:=p) hs d hd k;have g:∀(xs:Array Nat)(k:Nat),at' xs k=(xs[k]?).getD 0:=λxs k=>by unfold at';simp[yc];split<;>simp[*]
 unfold R;rw[g,e]
 split
 ·rw[g]
 ·split<;>rw[g]
theorem qI (ha:gT cmp n r s)(hn:0<n)(hp:Pm n p):∀(f k:Nat)(Q:Nat->h7->Prop),1<=k->Up r p k->(∀m,k<=m->m<=k+f->Up r p m->(m=k+f\/R r p m<R r p (m - 1))->Q m s)->(kas_asc p f k).kasWp cmp Q s
 |0,k,Q,h1,hu,h=>h k (AY _) (AY _) hu (.inl rfl)
 |f+1,k,Q,h1,hu,h=>by
  show cmp (at' p k) (at' p (k - 1)) (λb s'=>(if b=true then KasT.ret k else kas_asc p f (k+1)).kasWp cmp Q s') s;refine ha _ _ _ (hp.lt _ hn) (hp.lt _ hn) ?_;by_cases c:r (at' p k)<r (at' p (k - 1))
  ·rw[AS c];exact h k (AY _) (by omega) hu (.inr c)
  ·rw[AU c];refine qI ha hn hp f (k+1) Q (by omega) (A55 hu (qz.mp c)) λm a b u e=>h m (by omega) (by omega) u ?_;rcases e with e|e
   ·left;omega
   ·exact .inr e
theorem tY (ha:gT cmp n r s)(hn:0<n):∀(f k q:Nat)(p:Array Nat)(Q:Array Nat×Nat×Nat->h7->Prop),Pm n p->1<=k->k+f<=n->Dn r p k->q+1<=k->(∀i,k -(q+1)<=i->i<k->R r p i=R r p (k - 1))->
  (∀p' m q',Pm n p'->k<=m->m<=k+f->Dn r p' m->q'+1<=m->(∀i,m -(q'+1)<=i->i<m->R r p' i=R r p' (m - 1))->Q (p',m,q') s)->(kas_desc f p k q).kasWp cmp Q s
 |0,k,q,p,Q,hp,h1,hk,hd,hq,he,h=>h p k q hp (AY _) (AY _) hd hq he
 |f+1,k,q,p,Q,hp,h1,hk,hd,hq,he,h=>by
  have hsz:k<=p.size:=by rw[hp.size];omega
  show cmp (at' p k) (at' p (k - 1)) (λc s'=>(if c=true then(if q>0 then kas_desc f (kas_rev p (k -(q+1)) k) (k+1) 0 else kas_desc f p (k+1) 0)else KasT.ask (at' p (k - 1)) (at' p k) λd=>if d=true then KasT.ret (p,k,q)else kas_desc f p (k+1) (q+1)).kasWp cmp Q s') s;refine ha _ _ _ (hp.lt _ hn) (hp.lt _ hn) ?_;by_cases c:r (at' p k)<r (at' p (k - 1))
  ·rw[AS c];have go:∀p',Pm n p'->(∀i,R r p' i=R r p i)->(kas_desc f p' (k+1) 0).kasWp cmp Q s:=λp' hp' e=>by
    refine tY ha hn f (k+1) 0 p' Q hp' (by omega) (by omega) ?_ (by omega) ?_ λp2 m q' a1 a2 a3 a4 a5 a6=>h p2 m q' a1 (by omega) (by omega) a4 a5 a6
    ·intro i j hij hj;rw[e,e];exact rV hd (Ao c) i j hij hj
    ·intro i hi1 hi2;have:i=k:=by omega
     subst this;rfl
   show(if q>0 then kas_desc f (kas_rev p (k -(q+1)) k) (k+1) 0 else kas_desc f p (k+1) 0).kasWp cmp Q s;by_cases hq0:q>0
   ·rw[if_pos hq0];exact go _ (hp.rev _ _) (kM hsz he)
   ·rw[if_neg hq0];exact go p hp λ_=>rfl
  ·rw[AU c];show cmp (at' p (k - 1)) (at' p k) (λd s'=>(if d=true then KasT.ret (p,k,q)else kas_desc f p (k+1) (q+1)).kasWp cmp Q s') s;refine ha _ _ _ (hp.lt _ hn) (hp.lt _ hn) ?_;by_cases d:r (at' p (k - 1))<r (at' p k)
   ·rw[AS d];exact h p k q hp (AY _) (by omega) hd hq he
   ·rw[AU d];have e:R r p k=R r p (k - 1):=Int.le_antisymm (qz.mp d) (qz.mp c);show(kas_desc f p (k+1) (q+1)).kasWp cmp Q s;refine tY ha hn f (k+1) (q+1) p Q hp (by omega) (by omega) (rV hd (Int.le_of_eq e)) (by omega) ?_ λp2 m q' a1 a2 a3 a4 a5 a6=>h p2 m q' a1 (by omega) (by omega) a4 a5 a6;intro i hi1 hi2;rw[show k+1 - 1=k by omega,e];by_cases ik:i=k
    ·rw[ik,e]
    ·exact he i (by omega) (by omega)
theorem wI (ha:gT cmp n r s)(hn:0<n)(hp:Pm n p)(h1:1<=k)(hk:k<=AL)(hz:AL<=n)(hd:Dn r p k)
  (h:∀m p',Pm n p'->1<=m->m<=AL->Up r p' m->Q (m,p') s):(kas_tail3 k AL p).kasWp cmp Q s:=by
 unfold kas_tail3;rw[KasT.kasWp_bind];have hsz:k<=p.size:=by rw[hp.size];omega
 refine qI ha hn (hp.rev 0 k) _ _ _ h1 ?_ λm a b u _=>h m _ (hp.rev 0 k) (by omega) (by omega) u;intro i j hij hj;rw[pZ hsz,pZ hsz,if_pos (by omega),if_pos (by omega)];exact hd _ _ (by omega) (by omega)
theorem A0o (ha:gT cmp n r s)(hn:0<n)(hp:Pm n p)(hk:k+1<=AL)(hz:AL<=n)(hd:Dn r p (k+1))
  (h:∀m p',Pm n p'->1<=m->m<=AL->Up r p' m->Q (m,p') s):(kas_descPart k AL p).kasWp cmp Q s:=by
 unfold kas_descPart;rw[KasT.kasWp_bind];refine tY ha hn _ (k+1) 0 p _ hp (by omega) (by omega) hd (by omega) (λi a b=>show R r p i=R r p (k+1 - 1) by rw[show i=k+1 - 1 by omega]) λp' m q hp' a1 a2 hd' hq he=> ?_;show(if q>0 then kas_tail3 m AL (kas_rev p' (m -(q+1)) m)else kas_tail3 m AL p').kasWp cmp Q s;have hsz:m<=p'.size:=by rw[hp'.size];omega
 by_cases hq0:q>0
 ·rw[if_pos hq0];refine wI ha hn (hp'.rev _ _) (by omega) (by omega) hz ?_ h;intro i j hij hj;rw[kM hsz he,kM hsz he];exact hd' i j hij hj
 ·rw[if_neg hq0];exact wI ha hn hp' (by omega) (by omega) hz hd' h
theorem B2j (ha:gT cmp n r s)(hn:0<n)(hp:Pm n p)
  (h:∀m p',Pm n p'->1<=m->m<=n->Up r p' m->Q (m,p') s):(kas_count n p).kasWp cmp Q s:=by
 unfold kas_count;rw[KasT.kasWp_bind];refine qI ha hn hp _ 1 _ (AY _) (λi j a b=>show R r p i<=R r p j by rw[show i=j by omega];exact m6 _) λm a b u e=> ?_;by_cases e1:m=n
 ·rw[if_pos (by simpa using e1)];exact h m p hp a (by omega) u
 ·rw[if_neg (by simpa using e1)];have AG:R r p m<R r p (m - 1):=e.resolve_left (by omega);have dn1:∀p',Pm n p'->Dn r p' m->(∀i,R r p' i=R r p i)->Dn r p' (m+1):=λp' _ d z=>rV d (by rw[z,z];exact Ao AG);by_cases e2:m>1
  ·rw[if_pos e2];show cmp (at' p 0) (at' p (m - 1)) (λc s'=>(if c=true then KasT.ret (m,p)else kas_descPart m n (kas_rev p 0 m)).kasWp cmp Q s') s;refine ha _ _ _ (hp.lt _ hn) (hp.lt _ hn) ?_;by_cases c:r (at' p 0)<r (at' p (m - 1))
   ·rw[AS c];exact h m p hp a (by omega) u
   ·rw[AU c];have hall:∀k,0<=k->k<m->R r p k=R r p (m - 1):=λk _ hk=>by
     have a1:=u 0 k (by omega) hk;have a2:=u k (m - 1) (by omega) (by omega);have a3:R r p (m - 1)<=R r p 0:=qz.mp c;omega
    have hsz:m<=p.size:=by rw[hp.size];omega
    refine A0o ha hn (hp.rev 0 m) (by omega) (AY _) (dn1 _ (hp.rev 0 m) ?_ (kM hsz hall)) h;intro i j hij hj;rw[kM hsz hall,kM hsz hall,hall i (by omega) (by omega),hall j (by omega) hj];exact m6 _
  ·rw[if_neg e2];have:m=1:=by omega
   subst this;refine A0o ha hn hp (by omega) (AY _) (dn1 p hp (λi j hij hj=> ?_) λ_=>rfl) h;have:i=j:=by omega
   subst this;exact m6 _
theorem sR (ha:gT cmp n r s)(hn:0<n)(hp:Pm n p)(hu:Up r p k):∀(f lo hi:Nat)(Q:Nat->h7->Prop),lo<=hi->hi<=k->hi - lo<=f->(∀i,i<lo->R r p i<=R r p k)->(∀i,hi<=i->i<k->R r p k<R r p i)->
  (∀l,l<=k->(∀i,i<l->R r p i<=R r p k)->(∀i,l<=i->i<k->R r p k<R r p i)->Q l s)->(kas_place p k f lo hi).kasWp cmp Q s
 |0,lo,hi,Q,h1,h2,h3,hl,hh,h=>h lo (by omega) hl λi a b=>hh i (by omega) b
 |f+1,lo,hi,Q,h1,h2,h3,hl,hh,h=>by
  unfold kas_place;by_cases e:lo≥hi
  ·rw[if_pos e];exact h lo (by omega) hl λi a b=>hh i (by omega) b
  ·rw[if_neg e];show cmp (at' p k) (at' p ((lo+hi)/2)) (λc s'=>(if c=true then kas_place p k f lo ((lo+hi)/2)else kas_place p k f ((lo+hi)/2+1) hi).kasWp cmp Q s') s;refine ha _ _ _ (hp.lt _ hn) (hp.lt _ hn) ?_;by_cases c:r (at' p k)<r (at' p ((lo+hi)/2))
   ·rw[AS c];refine sR ha hn hp hu f lo ((lo+hi)/2) Q (by omega) (by omega) (by omega) hl (λi a b=> ?_) h;exact Int.lt_of_lt_of_le c (hu ((lo+hi)/2) i a b)
   ·rw[AU c];refine sR ha hn hp hu f ((lo+hi)/2+1) hi Q (by omega) (by omega) (by omega) (λi a=> ?_) hh h;exact uk (hu i ((lo+hi)/2) (by omega) (by omega)) (qz.mp c)
theorem yF (ha:gT cmp n r s)(hn:0<n):∀(f k:Nat)(p:Array Nat)(Q:Array Nat->h7->Prop),Pm n p->k+f=n->Up r p k->(∀p',Pm n p'->Up r p' n->Q p' s)->(kas_bin f p k).kasWp cmp Q s
 |0,k,p,Q,hp,hk,hu,h=>h p hp (by rw[←hk];exact hu)
 |f+1,k,p,Q,hp,hk,hu,h=>by
  show((kas_place p k k 0 k).bind λl=>kas_bin f (bubble p k (k - l)) (k+1)).kasWp cmp Q s;rw[KasT.kasWp_bind];refine sR ha hn hp hu k 0 k _ (gv _) (AY _) (by omega) (λi a=>by omega) (λi a b=>by omega) λl hl h1 h2=> ?_;refine yF ha hn f (k+1) _ Q (hp.bub _ _) (by omega) ?_ h;have hs:k<p.size:=by rw[hp.size];omega
  intro i j hij hj;rw[A1k hs (by omega),A1k hs (by omega),show k -(k - l)=l by omega];by_cases c1:i=l
  ·rw[if_pos c1];by_cases c2:j=l
   ·rw[if_pos c2];exact m6 _
   ·rw[if_neg c2,if_pos (by omega)];exact Ao (h2 (j - 1) (by omega) (by omega))
  ·rw[if_neg c1];by_cases c2:j=l
   ·rw[if_pos c2,if_neg (by omega)];exact h1 i (by omega)
   ·rw[if_neg c2];by_cases c3:l<i/\i<=k
    ·rw[if_pos c3,if_pos (by omega)];exact hu _ _ (by omega) (by omega)
    ·rw[if_neg c3];by_cases c4:l<j/\j<=k
     ·rw[if_pos c4];exact hu _ _ (by omega) (by omega)
     ·rw[if_neg c4];exact hu _ _ hij (by omega)
theorem A6j (ha:gT cmp n r s)(h2:2<=n)(h:∀p,Pm n p->Up r p n->Q p s):(kas_sort n).kasWp cmp Q s:=by
 unfold kas_sort;rw[KasT.kasWp_bind];refine B2j ha (by omega) (yb.refl _) λm p hp h1 hm u=> ?_;show(if m<n then kas_bin (n - max m 1) p (max m 1)else KasT.ret p).kasWp cmp Q s;by_cases e:m<n
 ·rw[if_pos e];have:max m 1=m:=by omega
  rw[this];exact yF ha (by omega) _ _ p Q hp (by omega) u h
 ·rw[if_neg e];have:m=n:=by omega
  subst this;exact h p hp u
noncomputable def But (a:gy)(h h':iw):Prop:=∀b o,b≠a->h.get? b=some o->h'.get? b=some o
theorem B3p (n:Nat):Pm n (toArray (iq n)):=yb.refl _
theorem A8g (h:n<2):Up r p n:=λi j hij hj=>by
 have:i=j:=by omega
 subst this;exact m6 _
theorem A22 (vs:List gw):(toArray (iq vs.length)).toList.map (λi=>vs.getD i jf)=vs:=by refine aq (by simp) λi h1 h2=> ?_;simp[h2]
theorem A9r (ho:s.heap.get? a=some (oq "list" vs.toArray n))(h64:vs.length<64)
  (hk:2<=vs.length->∀h',But a s.heap h'->(∀Q:SortKind->h7->Prop,Q κ {s with heap:=h'}->ia (iu prog w) A (keyKind' vs.toArray) Q E {s with heap:=h'})/\gT (kas_ask prog w A κ vs) vs.length r {s with heap:=h'})
  (h:∀h' c p,Pm vs.length p->Up r p vs.length->h'.get? a=some (oq "list" (p.toList.map λi=>vs.getD i jf).toArray c)->But a s.heap h'->P (.done (.ret .none)) {s with heap:=h'}):
  ia (iu prog w) A (ic.«list.sort» ⟨[.ref a],[]⟩) P E s:=by
 have la:=AV ho;obtain⟨c1,o1⟩:∃c1,(s.heap.update a (ly λ_=>(#[]:Array gw))).get? a=some (oq "list" #[] c1):=⟨_,get?_update_seq ho λ_=> #[]⟩;have b1:But a s.heap (s.heap.update a (ly λ_=>(#[]:Array gw))):=λb o hb e=>by rw[ud _ _ _ _ hb];exact e
 generalize hg1:s.heap.update a (ly λ_=>(#[]:Array gw))=g1 at o1 b1;have o3:((g1.push (oq "tuple" vs.toArray 0)).push (oq "list" #[] 0)).get? a=some (oq "list" #[] c1):=AQ _ (AQ _ o1);have b3:But a s.heap ((g1.push (oq "tuple" vs.toArray 0)).push (oq "list" #[] 0)):=λb o hb e=>AQ _ (AQ _ (b1 b o hb e));rw[list_sort_plain];refine AN (listItems_at ho rfl ?_);refine AN (listUpdate_at ho rfl ?_ (by rw[fj,jh];omega) (gv _));rw[hg1];refine AN (seqEpoch_at o1 rfl ?_);refine AN (y9 ?_ (by show vs.length<=_;rw[jh];omega));refine AN (wpAny_newList ?_ (gv _));refine jw ?_;show ia (iu prog w) A _ P E {s with heap:=(g1.push (oq "tuple" vs.toArray 0)).push (oq "list" #[] 0)};generalize (g1.push (oq "tuple" vs.toArray 0)).push (oq "list" #[] 0)=g3 at o3 b3;dsimp only
 have fin:∀(st:SortSt)(p:Array Nat),Pm vs.length p->Up r p vs.length->(arrOf st).map (·.2)=(p.toList.map λi=>vs.getD i jf).toArray->failedOf st=none->
   ia (iu prog w) A (do
    let touched:=(←seqEpoch a) !=c1
    ic.List.listUpdate (.ref a) λ_=>(arrOf st).map (·.2)
    if let some e:=failedOf st then rule "list.sort.comparison-raised";throw e
    if touched then rule "list.sort.modified";raiseError "ValueError" "list modified during sort"
    ret .none) P E {s with heap:=g3}:=λst p hp hu hout hf=>by
  rw[hout,hf];have hz:(p.toList.map λi=>vs.getD i jf).toArray.size=vs.length:=by rw[fj,b8,mz,hp.size]
  obtain⟨c4,o4⟩:∃c4,(g3.update a (ly λ_=>(p.toList.map λi=>vs.getD i jf).toArray)).get? a=some (oq "list" (p.toList.map λi=>vs.getD i jf).toArray c4):=⟨_,get?_update_seq o3 λ_=>(p.toList.map λi=>vs.getD i jf).toArray⟩;refine AN (seqEpoch_at o3 rfl ?_);refine AN (listUpdate_at o3 rfl ?_ (gv _) (gc (le_of_eq hz) (by rw[jh];omega)));simp only[bne_self_eq_false,jb,if_false];exact AO (h _ c4 p hp hu o4 λb o hb e=>by rw[ud _ _ _ _ hb];exact b3 b o hb e)
 by_cases h2:vs.toArray.size<2
 ·rw[if_pos h2,if_pos h2];refine AN (AO ?_);rw[StateT.run_pure];refine AN (AO ?_);refine fin _ _ (B3p _) (A8g (by rw[fj]at h2;exact h2)) ?_ rfl;rw[A22];show(vs.toArray.zip vs.toArray).map (·.2)=_;apply Array.toList_inj.mp;simp[List.map_snd_zip]
 ·rw[if_neg h2,if_neg h2];rw[fj]at h2;obtain⟨kk,ask⟩:=hk (by omega) g3 b3;refine AN (kk _ ?_);refine AN (m8 (kat_run (Q:=λyv s'=>s'={s with heap:=g3}/\∃p,Pm vs.length p/\Up r p vs.length/\arrOf yv=p.map (kas_item (vs.toArray.zip vs.toArray))/\failedOf yv=none) (G:=λp s'=>s'={s with heap:=g3}/\Pm vs.length p/\Up r p vs.length)
   rfl (by omega) h64 (λp yv s' a1 a2 a3 a4=> ⟨a4.1,p,a4.2.1,a4.2.2,a2,a3⟩) (A6j ask (by omega) λp hp hu=> ⟨rfl,hp,hu⟩)) ?_ λ_ _ e=>e)
  rintro⟨⟨⟩,yv⟩ s' ⟨rfl,p,hp,hu,har,hf⟩;exact fin yv p hp hu (kat_snds rfl har) hf
theorem B2a (h64:vs.length<64)
  (hc:∀Q':List gw->h7->Prop,(∀h1 tk,(∀b o,s.heap.get? b=some o->h1.get? b=some o)->s.heap.objs.size<=h1.objs.size->Q' vs {s with heap:=h1,toks:=tk})->ia (iu prog w) A.in1 (collect x) Q' E s)
  (hr:∀h1 tk,(∀b o,s.heap.get? b=some o->h1.get? b=some o)->2<=vs.length->(∀Q:SortKind->h7->Prop,Q κ {s with heap:=h1,toks:=tk}->ia (iu prog w) A.in1.in1 (keyKind' vs.toArray) Q E {s with heap:=h1,toks:=tk})/\gT (kas_ask prog w A.in1.in1 κ vs) vs.length r {s with heap:=h1,toks:=tk})
  (h:∀D h' tk c p,s.heap.objs.size<=D->Pm vs.length p->Up r p vs.length->h'.get? D=some (oq "list" (p.toList.map λi=>vs.getD i jf).toArray c)->(∀b o,s.heap.get? b=some o->h'.get? b=some o)->Q (.ref D) {s with heap:=h',toks:=tk}):
  ia (iu prog w) A (call (.builtin "sorted") [x]) Q E s:=by
 refine Calls.call_function_entry kind_sorted plain_sorted entry_sorted (args_sorted1 _) ?_;unfold ic.«sorted»;refine AN (m:=checkCount "sorted" 1 1 _) (AO ?_);refine AN (hc _ λh1 tk k1 z1=> ?_);refine AN (wpAny_newList ?_ (by rw[jh];omega));have oL:(h1.push (oq "list" vs.toArray 0)).get? h1.objs.size=some (oq "list" vs.toArray 0):=fu _ rfl;have kL:∀b o,s.heap.get? b=some o->(h1.push (oq "list" vs.toArray 0)).get? b=some o/\b≠h1.objs.size:=λb o e=> ⟨AQ _ (k1 b o e),gu (gi (AV e) z1)⟩;refine AN (jw (ji slot_list_sort ⟨_,oL,rfl⟩ entry_list_sort ?_ (args_list_sort _)));refine A9r (κ:=κ) (r:=r) oL h64 (λh2 h' b'=>hr h' tk (λb o e=>b' b o (kL b o e).2 (kL b o e).1) h2) λh' c p hp hu o' b'=> ⟨_,rfl,?_⟩;exact AO ⟨_,rfl,h h1.objs.size h' tk c p z1 hp hu o' λb o e=>b' b o (kL b o e).2 (kL b o e).1⟩
end Srt
namespace Srt
theorem gZ:∀xs:List Int,HT.lexLt xs xs=false
 | []=>rfl
 |x::xs=>by rw[HT.lexLt_cons,if_pos rfl];exact gZ xs
theorem jH:∀{xs ys zs:List Int},HT.lexLt xs ys=true->HT.lexLt ys zs=true->HT.lexLt xs zs=true
 | [],[],_,h,_=>by cases h
 | [],_::_,[],_,h=>by cases h
 | [],_::_,_::_,_,_=>rfl
 |_::_,[],_,h,_=>by cases h
 |_::_,_::_,[],_,h=>by cases h
 |x::xs,y::ys,z::zs,h1,h2=>by
  rw[HT.lexLt_cons]at h1 h2⊢;by_cases e1:x=y
  ·subst e1;rw[if_pos rfl]at h1;by_cases e2:x=z
   ·subst e2;rw[if_pos rfl]at h2⊢;exact jH h1 h2
   ·rw[if_neg e2]at h2⊢;exact h2
  ·rw[if_neg e1,decide_eq_true_eq]at h1;by_cases e2:y=z
   ·subst e2;rw[if_neg e1,decide_eq_true_eq];exact h1
   ·rw[if_neg e2,decide_eq_true_eq]at h2;rw[if_neg (by omega),decide_eq_true_eq];omega
theorem oT:∀{xs ys:List Int},HT.lexLt xs ys=false->HT.lexLt ys xs=false->xs=ys
 | [],[],_,_=>rfl
 | [],_::_,h,_=>by cases h
 |_::_,[],_,h=>by cases h
 |x::xs,y::ys,h1,h2=>by
  rw[HT.lexLt_cons]at h1 h2;by_cases e:x=y
  ·subst e;rw[if_pos rfl]at h1 h2;rw[oT h1 h2]
  ·rw[if_neg e,decide_eq_false_iff_not]at h1;rw[if_neg (λz=>e z.symm),decide_eq_false_iff_not]at h2;omega
noncomputable def rank (rows:List (List Int))(x:List Int):Int:=(rows.countP λz=>HT.lexLt z x:Nat)
theorem uS:∀{l:List α},(∀a∈l,p a=true->q a=true)->l.countP p<=l.countP q
 | [],_=>by simp
 |a::l,h=>by
  have ih:=uS (p:=p) (q:=q) (l:=l) λb hb=>h b (AW _ hb);rw[ao,ao];have:=h a AX;cases hp:p a<;>cases hq:q a<;>simp_all<;>omega
theorem vE:∀{l:List α},(∀a∈l,p a=true->q a=true)->x∈l->p x=false->q x=true->l.countP p<l.countP q
 | [],_,hx,_,_=>by cases hx
 |a::l,h,hx,hp,hq=>by
  have hl:∀b∈l,p b=true->q b=true:=λb hb=>h b (AW _ hb);rw[ao,ao];rcases di.mp hx with e|e
  ·subst e;have:=uS hl;rw[hp,hq];simp;omega
  ·have ih:=vE hl e hp hq;have:=h a AX;cases hp':p a<;>cases hq':q a<;>simp_all<;>omega
theorem A1d (hx:x∈rows)(hy:y∈rows):decide (rank rows x<rank rows y)=HT.lexLt x y:=by
 unfold rank;cases h:HT.lexLt x y with
 |true=>
  rw[decide_eq_true_eq];have:=vE (l:=rows) (p:=λz=>HT.lexLt z x) (q:=λz=>HT.lexLt z y) (λa _ ha=>jH ha h) hx (gZ x) h;omega
 |false=>
  rw[decide_eq_false_iff_not];have:rows.countP (λz=>HT.lexLt z y)<=rows.countP (λz=>HT.lexLt z x):=by
   refine uS λa _ ha=> ?_;cases h2:HT.lexLt y x with
   |true=>exact jH ha h2
   |false=>rw[oT h h2];exact ha
  omega
end Srt
namespace L2
open PySem PySem.Spec PyProof.Rows Srt
theorem A77 (i:Nat)(h1:Vals (xs.map V.int) us)(h2:Vals (ys.map V.int) ws)(h:C (HT.lexLt xs ys) s):
  W.KatLex prog w A b (decide (xs.length<ys.length)) C (us.zip ws) i s:=by
 induction xs generalizing ys us ws i with
 |nil=>
  cases h1;cases ys with
  |nil=>exact h
  |cons y ys=>show C (decide (0<ys.length+1)) s;rw[AS (by omega)];exact h
 |cons x xs ih=>
  cases h1 with|cons r1 t1=> ?_;cases ys with
  |nil=>cases h2;show C (decide (xs.length+1<0)) s;rw[AU (by omega)];exact h
  |cons y ys=>
   cases h2 with|cons r2 t2=> ?_;obtain⟨t,rfl⟩:=r1;obtain⟨u,rfl⟩:=r2;rw[HT.lexLt_cons]at h;refine W.kat_cons (wpAny_eqBool_int ?_);by_cases e:x=y
   ·subst e;rw[if_pos rfl]at h;rw[show(x==x)=true by simp];refine W.kat_yes ?_;have:=ih (i+1) t1 t2 h;rw[show decide ((x::xs).length<(x::ys).length)=decide (xs.length<ys.length) by simp];exact this
   ·rw[if_neg e]at h;rw[show(x==y)=false by simpa using e];refine W.kat_no ?_;cases b&&i==0 with
    |true=>exact oneLt_int h
    |false=>exact W.kat_one _ _ (PyProof.Rows.lt_int (show W.BoolBack C (m7 (decide (x<y))) s from h))
theorem iO:∀{as:List gy}{us:List gw},Vals (as.map V.ref) us->us=as.map h8
 | [],_,.nil=>rfl
 |a::as,_,.cons r t=>by rw[iO t];cases (show _=h8 a from r);rfl
noncomputable def B2l {β:Type}(key:β->List Int)(zs AD:List (gy×β)):Prop:=AD.Perm zs/\AD.Pairwise λa b=>HT.lexLt (key b.2) (key a.2)=false
noncomputable def qM (zs AD:List (gy×List Int)):Prop:=AD.Perm zs/\AD.Pairwise λa b=>HT.lexLt b.2 a.2=false
theorem B0q (z0:β)(key:β->List Int)(hp:Pm zs.length p)(hu:Up (λi=>rank (zs.map key) (key (zs.getD i z0))) p zs.length):
  (p.toList.map λi=>zs.getD i z0).Perm zs/\(p.toList.map λi=>zs.getD i z0).Pairwise λa b=>HT.lexLt (key b) (key a)=false:=by
 have hperm:=n8.mp hp;have inz:∀k (hk:k<p.toList.length),p.toList[k]<zs.length:=λk hk=>by
  have:=hperm.mem_iff.mp (bx hk);simpa using this
 refine⟨(hperm.map λi=>zs.getD i z0).trans (lj.of_eq (aq (by simp) λi a b=>by simp[b])),?_⟩;rw[fh,mf];intro i j hi hj hij;have hsz:p.toList.length=zs.length:=by rw[mz,hp.size]
 have h1:=hu i j (by omega) (by omega);have mem:∀k (hk:k<p.toList.length),key (zs.getD (p.toList[k]'hk) z0)∈zs.map key:=λk hk=>by
  have e:zs.getD p.toList[k] z0=zs[p.toList[k]]'(inz k hk):=by rw[bo,bq (inz k hk)];rfl
  rw[e];exact dy (bx _)
 have e:∀k (hk:k<p.toList.length),at' p k=p.toList[k]:=λk hk=>by
  have:k<p.size:=by simpa using hk
  unfold at';simp[yc,this]
 unfold R at h1;rw[e i hi,e j hj]at h1;rw[←A1d (mem j hj) (mem i hi),decide_eq_false_iff_not];exact qz.mpr h1
theorem B1w (b0:β)(key:β->List Int)(I:Inv X ir σ H s)(hq:A2 X.K H p (zs.map λz=>V.ref z.1))(h64:zs.length<64)
  (hr:∀h1 tk,(∀b o,s.heap.get? b=some o->h1.get? b=some o)->2<=zs.length->(∀Q2:SortKind->h7->Prop,Q2 κ {s with heap:=h1,toks:=tk}->ia (iu X.prog X.w) X.A.in1.in1 (keyKind' (zs.map λz=>h8 z.1).toArray) Q2 X.xe {s with heap:=h1,toks:=tk})/\
   ∀z∈zs,∀z'∈zs,∀C:Bool->h7->Prop,C (HT.lexLt (key z.2) (key z'.2)) {s with heap:=h1,toks:=tk}->ia (iu X.prog X.w) X.A.in1.in1 (keyLt' κ (.ref z.1) (.ref z'.1)) C (λ_ _=>False) {s with heap:=h1,toks:=tk})
  (q:∀l AD,H l=none->B2l key zs AD->Q (.ref l) (upd H l (.lst (AD.map λz=>V.ref z.1)))):ia (iu X.prog X.w) X.A (call (.builtin "sorted") [.ref p]) (EP X ir σ Q) X.xe s:=by
 obtain⟨i8,rv,pl,_⟩:=I.list hq;have hits:i8=zs.map λz=>h8 z.1:=by
  have:=iO (as:=zs.map (·.1)) (us:=i8) (by rw[c9];exact rv);rw[this,c9];rfl
 subst hits;have gd:∀i,i<zs.length->(zs.map λz=>h8 z.1).getD i jf= .ref (zs.getD i (0,b0)).1/\zs.getD i (0,b0)∈zs:=λi hi=>by
  constructor
  ·simp[hi]
  ·rw[show zs.getD i (0,b0)=zs[i] by simp[hi]];exact bx _
 refine B2a (κ:=κ) (r:=λi=>rank (zs.map λz=>key z.2) (key (zs.getD i (0,b0)).2)) (vs:=zs.map λz=>h8 z.1) (by rw[b8];exact h64) (λQ' k=> ?_) (λh1 tk k1 h2=> ?_) λD h' tk c pp hD hp hu o' k'=> ?_
 ·refine collect_list pl.isList ?_ (by rw[b8,jh];omega);refine k _ s.toks (λb o e=> ?_) (by rw[iw.size_update,size_push'];exact gb _);rw[ud _ _ _ _ (gu (AV e))];exact AQ _ e
 ·rw[b8]at h2;obtain⟨hk,AG⟩:=hr h1 tk k1 h2;refine⟨hk,λi j C hi hj hC=> ?_⟩;rw[b8]at hi hj;obtain⟨ei,mi⟩:=gd i hi;obtain⟨ej,mj⟩:=gd j hj;show ia _ _ (keyLt' κ ((zs.map λz=>h8 z.1).getD i jf) ((zs.map λz=>h8 z.1).getD j jf)) C (λ_ _=>False) _;rw[ei,ej];rw[A1d (dv.mpr ⟨_,mi,rfl⟩) (dv.mpr ⟨_,mj,rfl⟩)]at hC;exact AG _ mi _ mj C hC
 ·rw[b8]at hp hu;have so:=B0q (0,b0) (λz:gy×β=>key z.2) hp hu;have eo:(pp.toList.map λi=>(zs.map λz=>h8 z.1).getD i jf)=(pp.toList.map λi=>zs.getD i (0,b0)).map λz=>h8 z.1:=by
   rw[c9];refine cy λi hi=> ?_;have:i<zs.length:=by
    have:=(n8.mp hp).mem_iff.mp hi;simpa using this
   exact(gd i this).1
  rw[eo]at o';have rg:=so.1.length_eq;have vf:∀zs:List (gy×β),Vals (zs.map λz=>V.ref z.1) (zs.map λz=>h8 z.1):=λzs=>by
   induction zs with
   |nil=>exact .nil
   |cons z zs ih=>exact .cons rfl ih
  exact⟨.ref D,_,I.laid (t':=tk) (o:=.lst ((pp.toList.map λi=>zs.getD i (0,b0)).map λz=>V.ref z.1)) k' hD ⟨by rw[b8,rg,jh];omega,_,c,vf _,o'⟩,rfl,q _ _ (I.hok.fresh hD) so⟩
theorem uA {s:h7}{ir:List (gy×Obj)}{σ:St}{H:Hp}(I:Inv X ir σ H s){h':iw}(k:∀b o,s.heap.get? b=some o->h'.get? b=some o){z:gy}{ns:List Int}(hz:H z=some (.tup (ns.map V.int))):∃it:List gw,Vals (ns.map V.int) it/\∃o n,h'.get? z=some o/\o.cls= .type "tuple"/\o.data= .seq it.toArray n:=by obtain⟨_,it,rt,o,ho,hc,n,hd⟩:=(show ObjOk X.prog X.w H s.heap z (.tup _)from I.hok _ _ hz);exact⟨it,rt,o,n,k _ _ ho,hc,hd⟩
theorem oK:eO X (.builtin "sorted") (λxs H Q=> ∃(p:gy)(zs:List (gy×List Int)),xs=[.ref p]/\A2 X.K H p (zs.map λz=>V.ref z.1)/\(∀z∈zs,H z.1=some (.tup (z.2.map V.int))/\z.2≠[])/\zs.length<64/\
  ∀l AD,H l=none->qM zs AD->Q (.ref l) (upd H l (.lst (AD.map λz=>V.ref z.1)))):=by
 intro ir s σ H xs us Q I r h;obtain⟨p,zs,rfl,hq,hz,h64,q⟩:=h;obtain⟨u,rfl,rx⟩:=fX r;cases rx;refine B1w [] id (κ:=tuples' true) I hq h64 (λh1 tk k1 h2=> ⟨λQ2 q2=> ?_,λz hm z' hm' C hC=> ?_⟩) q
 ·have key:∀ys:List (gy×List Int),(∀z∈ys,z∈zs)->∃fs:List gw,W.KatTups h1 (ys.map λz=>h8 z.1) fs/\fs.length=ys.length/\∀v∈fs,∃n t,v= .int n t:=λys=>by
   induction ys with
   |nil=>intro _;exact⟨[],trivial,rfl,λv hv=>by cases hv⟩
   |cons z ys ih=>
    intro hm;obtain⟨fs,g1,g2,g3⟩:=ih λy hy=>hm y (AW _ hy);obtain⟨it,rt,o,n,ho,hc,hd⟩:=uA I k1 (hz z (hm z AX)).1;obtain⟨x,xs',ex⟩:=n9 (hz z (hm z AX)).2;rw[ex]at rt;cases rt with
    |cons r0 t0=>
     obtain⟨t,rfl⟩:=r0;exact⟨.int x t::fs,W.KatTups.cons ho hc hd (by simp) g1,by simp[g2],λv hv=>by
      rcases di.mp hv with e|e
      ·exact⟨x,t,e⟩
      ·exact g3 v e⟩
  obtain⟨fs,g1,g2,g3⟩:=key zs λz hz=>hz;refine W.kat_kind (T:=.type "int") (s:={s with heap:=h1,toks:=tk}) g1 (by omega) (λv hv=> ?_) rfl q2;obtain⟨n,t,rfl⟩:=g3 v hv;exact W.Looks.of_pure rfl
 ·obtain⟨it,rt,o,n,ho,hc,hd⟩:=uA I k1 (hz z hm).1;obtain⟨it2,rt2,o2,n2,ho2,hc2,hd2⟩:=uA I k1 (hz z' hm').1;refine W.kat_lt (s:={s with heap:=h1,toks:=tk}) ho hd ho2 hd2 ?_;have l1:=rt.length;have l2:=rt2.length;rw[b8]at l1 l2;rw[fj,fj,←l1,←l2];exact A77 0 rt rt2 hC
end L2
namespace Wlk
noncomputable abbrev Pl:=Int×Int
noncomputable abbrev iC:=Pl×Pl
noncomputable def cout (nw ne sw se:Bool):Fin 4->Bool
 |0=>se&& !ne
 |1=>sw&& !se
 |2=>nw&& !sw
 |3=>ne&& !nw
noncomputable def nx (nw ne sw se:Bool)(d:Fin 4):Fin 4:=if cout nw ne sw se (d+1)=true then d+1 else if cout nw ne sw se d=true then d else d+3
noncomputable def rtS (s:iC):Pl:=(s.2.1+s.2.2 - s.1.2,s.2.2+s.1.1 - s.2.1)
noncomputable def A3z (ss:List iC)(b:Pl):List iC:=ss.filter λo=>decide (o.1=b)
noncomputable def nxt (ss:List iC)(s:iC):iC:=if (s.2,rtS s)∈ss then(s.2,rtS s)else(A3z ss s.2).headD s
end Wlk
namespace Cyc
section
variable {α:Type} [DecidableEq α]
noncomputable def it (f:α->α):Nat->α->α
 |0,s=>s
 |n+1,s=>f (it f n s)
theorem fS:∀{xs ys:List α},xs.Nodup->(∀x∈xs,x∈ys)->xs.length<=ys.length
 | [],_,_,_=>gv _
 |x::xs,ys,hn,h=>by
  have hx:=h x AX;have hn':=d9.mp hn;have ih:=fS (ys:=ys.erase x) hn'.2 λy hy=>by
   refine(List.mem_erase_of_ne λz=> ?_).mpr (h y (AW _ hy));subst z;exact hn'.1 hy
  rw[List.length_erase_of_mem hx]at ih;have:=yd hx;rw[b4];omega
end
end Cyc
namespace Srt
open PySem PySem.W PyProof.Rows L2
noncomputable def fl:List (Int×Int)->List Int
 | []=> []
 |c::cs=>c.1::c.2::fl cs
end Srt
namespace L2
open PySem PySem.Spec PyProof.Rows Srt
noncomputable def A6 (H:Hp)(a:gy)(cs:List (Int×Int)):Prop:=∃ps:List gy,H a=some (.tup (ps.map V.ref))/\PlAt H ps cs
theorem A6.same (h:A6 H a cs)(s:Same H H'):A6 H' a cs:=let ⟨ps,h1,h2⟩:=h;⟨ps,s _ _ h1,h2.same s⟩
theorem zK:∀{ps qs:List gy},ps.map V.ref=qs.map V.ref->ps=qs
 | [],[],_=>rfl
 | [],_::_,h=>by cases h
 |_::_,[],h=>by cases h
 |p::ps,q::qs,h=>by
  injection h with h1 h2;injection h1 with h1;rw[h1,zK h2]
theorem PlAt.val (h1:PlAt H ps cs)(h2:PlAt H ps ds):cs=ds:=by
 unfold PlAt at h1
 induction h1 generalizing ds with
 |nil=>cases h2;rfl
 | @cons p c ps cs r1 t1 ih=>
  cases h2 with
  | @cons _ d _ ds r2 t2=>
   rw[ih t2];have e:=(show H p=_ from r1).symm.trans r2;obtain⟨c1,c2⟩:=c;obtain⟨d1,d2⟩:=d;cases e;rfl
theorem A6.val (h:A6 H a cs)(h':A6 H a ds):cs=ds:=by
 obtain⟨ps,h1,h2⟩:=h;obtain⟨qs,h3,h4⟩:=h';have e:=h1.symm.trans h3;injection e with e
 injection e with e;rw[←zK e]at h4;exact h2.val h4
end L2
namespace PySem
theorem B4o (ho:s.heap.get? d=some o)(hx:o.ExactDict)(hd:(d==kj)=false)(h:Q (.ref s.heap.objs.size) {s with heap:=s.heap.push {cls:=.type "dict_items",data:=.fields #[.ref d]}}):
  ia (iu prog w) A (call (.builtin "dict.items") [.ref d]) Q E s:=by
 have hT:s.TypeIs (.ref d) "dict":=⟨o,ho,hx.1⟩;refine ji F.slot_dict_items hT F.entry_dict_items ?_ (F.args_dict_items_1 _);unfold ic.«dict.items»;refine AN ?_;unfold ic.Dict.noArgs;refine AN (wpAny_notOrdered_dict hT ?_);show ia _ _ (pure d) _ _ s;refine AO ?_;show ia _ _ (yp d>>=_) _ _ s;unfold yp;rw[if_neg (by rw[hd];exact ib)];refine AN (AO ?_);exact AN (i9 (AO ⟨_,rfl,h⟩))
theorem B0w (hv:s.heap.IsItemsView v d)(ho:s.heap.get? d=some o)(hd:o.data= .dict es ep)
  (hQ:Q (.ref s.heap.objs.size) {s with heap:=s.heap.push {cls:=.type "dict_itemiterator",data:=.fields #[.none,.bool false,.ref d,.int 0 0,.int es.size 0,.int ep 0,.none,.none]}}):
  ia (iu prog w) A (Af (.ref v)) Q E s:=by
 obtain⟨ov,hov,hcv,hdv⟩:=id hv;refine wj hv.typeIs ye (ji ye hv.typeIs F.entry_dict_items_iter ?_ (F.args_dict_items_iter_1 _));unfold ic.«dict_items.__iter__»;refine AN (AO ?_);refine AN ?_;unfold ic.Dict_items.dictOf;refine AN (jq hov hdv (x:=.ref d) rfl (AO ?_));refine AN ?_;unfold ic.Dict_items.newIterator;refine AN (wk ho hd (AN (yk ho hd ?_)));simp only[show nu "dict_itemiterator" =true by decide,if_true];refine i9 (AO ⟨_,rfl,"dict_itemiterator",_,⟨_,fu _ rfl,rfl⟩,jx.lookup,?_⟩) (by simp only[sizeOk,oy,fj,bz,b4,b9,jh];omega);simpa[qb,oy]using hQ
noncomputable abbrev ItF (h:iw)(it d:gy)(i n ep:Nat)(ok ov x0 x1:gw):Prop:=
 h.get? it=some {cls:=.type "dict_itemiterator",dict:=none,data:=.fields #[x0,x1,.ref d,.int i 0,.int n 0,.int ep 0,ok,ov],slots:=#[]}
noncomputable abbrev ItQ (s:h7)(it:gy)(k v:gw)(Q:Option gw->h7->Prop)(R:iw->Prop):Prop:=
 ∀h',R h'->h'.get? s.heap.objs.size=some {cls:=.type "tuple",data:=.seq #[k,v]}->h'.objs.size=s.heap.objs.size+1->
   (∀b o,b≠it->s.heap.get? b=some o->h'.get? b=some o)->Q (some (.ref s.heap.objs.size)) {s with heap:=h'}
theorem B3g (hit:ItF s.heap it d i es.size ep ok ov x0 x1)(ho:s.heap.get? d=some o)(hd:o.data= .dict es ep)(hi:i<es.size)
  (hQ:(x0= .none/\x1= .bool false/\ItQ s it es[i].key es[i].val Q λh'=>Ab h' it d (i+1) es.size ep es[i].key es[i].val s.heap.objs.size)\/
   ∃(a:gy)(f:Bool)(oa:Obj),x0=qb a/\x1= .bool f/\s.heap.get? a=some oa/\a≠it/\ItQ s it es[i].key es[i].val Q λh'=>W.KdxIt h' it d (i+1) es.size ep ok ov a true):ia (iu prog w) A (uv (.ref it)) Q E s:=by
 obtain⟨hp,g,dr,tk,os⟩:=s;have hT:h7.TypeIs ⟨hp,g,dr,tk,os⟩ (.ref it) "dict_itemiterator":=⟨_,hit,rfl⟩;unfold uv;refine AN (zz (jv (name:=k8 "__next__") hT jx (ji jx hT rf ?_ (ql _))));refine AN (AO ?_);refine AN ?_;refine AN ?_
 first| (refine AN (k4 hT (AO ?_));skip)| (refine AN (mh hT (AO ?_));skip)
 refine AN (wpAny_fieldsOf hit rfl ?_);simp only[show nu "dict_itemiterator" =true by decide,if_true];show ia _ _ (if (h8 d==jf)=true then _ else _) _ _ _;rw[if_neg (show¬((h8 d==jf)=true)from ib)];refine AN (AO ?_);refine AN (wk ho hd ?_);rw[if_neg (by simp)];refine AN (AO ?_);refine AN (yk ho hd ?_);rw[if_neg (by simp)];refine AO ?_;simp only[show¬((i:Int)<0) by omega,if_false,jd,vq hi];refine AN ?_
 first| (refine AN (k4 hT (AO ?_));skip)| (refine AN (mh hT (AO ?_));skip)
 refine AN (qg hT ?_);show ia _ _ (setField (.ref it) 3 (qb ((i:Int)+1))>>=_) _ _ ⟨hp,g,dr,tk,os⟩;refine AN (js hit (by simp) λh₁ he₁ hs₁=> ?_);replace hs₁:ju it hp h₁:=hs₁;replace he₁:ItF h₁ it d (i+1) es.size ep ok ov x0 x1:=by
  have e:((i+1:Nat):Int)=(i:Int)+1:=by omega
  unfold ItF;rw[e];simpa[qb]using he₁
 have hT₁:h7.TypeIs ⟨h₁,g,dr,tk,os⟩ (.ref it) "dict_itemiterator":=⟨_,he₁,rfl⟩;refine AN (jw ?_);refine AN (qg hT₁ (AN (qg hT₁ ?_)));show ia _ _ (qh (.ref it) 6 es[i].key es[i].val) _ _ ⟨h₁,g,dr,tk,os⟩;unfold qh;refine AN (y9 ?_);have he₂:ItF (h₁.push {cls:=.type "tuple",data:=.seq #[es[i].key,es[i].val]}) it d (i+1) es.size ep ok ov x0 x1:=AQ _ he₁;generalize hh₂:h₁.push {cls:=.type "tuple",data:=.seq #[es[i].key,es[i].val]}=h₂ at he₂;have hz₁:h₁.objs.size=hp.objs.size:=hs₁.1;have hil:=AV hit;have ht₂:h₂.get? hp.objs.size=some {cls:=.type "tuple",data:=.seq #[es[i].key,es[i].val]}:=by rw[←hh₂,←hz₁];exact fu _ rfl
 have hz₂:h₂.objs.size=hp.objs.size+1:=by rw[←hh₂,f6,hz₁]
 have hk₂:∀b o,b≠it->hp.get? b=some o->h₂.get? b=some o:=λb o hb e=>by rw[←hh₂];exact AQ _ (hs₁.extBut b o hb e)
 show ia _ _ (lg (.ref it)>>=_) _ _ ⟨h₂,g,dr,tk,os⟩;rw[hz₁];clear hh₂ he₁ hs₁ hT₁ hz₁ h₁;rcases hQ with⟨rfl,rfl,hQ⟩| ⟨a,f,oa,rfl,rfl,ha,hai,hQ⟩
 ·refine AN ?_;unfold lg;refine AN (jq he₂ rfl (x:=.none) rfl (AO ?_));simp only[if_true];refine AN (jq he₂ rfl (x:=ok) rfl (AN (jq he₂ rfl (x:=ov) rfl ?_)));refine AN (js he₂ (by simp) λh₃ he₃ hs₃=> ?_);replace hs₃:ju it h₂ h₃:=hs₃;replace he₃:Ah h₃ it d (i+1) es.size ep es[i].key ov:=he₃;refine AN (js he₃ (by simp) λh₄ he₄ hs₄=> ?_);replace hs₄:ju it h₃ h₄:=hs₄;replace he₄:Ah h₄ it d (i+1) es.size ep es[i].key es[i].val:=he₄;refine AN (js he₄ (by simp) λh₅ he₅ hs₅=> ?_);replace hs₅:ju it h₄ h₅:=hs₅;replace he₅:Ab h₅ it d (i+1) es.size ep es[i].key es[i].val hp.objs.size:=he₅;refine AN (js he₅ (by simp) λh₆ he₆ hs₆=> ?_);replace hs₆:ju it h₅ h₆:=hs₆;replace he₆:Ab h₆ it d (i+1) es.size ep es[i].key es[i].val hp.objs.size:=he₆;refine AN (p8 (AO (AO ⟨_,rfl,AO (hQ h₆ he₆ ?_ ?_ ?_)⟩)))
  ·have ne:=gr hil;exact hs₆.extBut _ _ ne (hs₅.extBut _ _ ne (hs₄.extBut _ _ ne (hs₃.extBut _ _ ne ht₂)))
  ·show h₆.objs.size=_;rw[hs₆.1,hs₅.1,hs₄.1,hs₃.1,hz₂]
  ·exact λb o hb e=>hs₆.extBut b o hb (hs₅.extBut b o hb (hs₄.extBut b o hb (hs₃.extBut b o hb (hk₂ b o hb e))))
 ·have ha₂:h₂.get? a=some oa:=hk₂ a oa hai ha;refine AN ?_;unfold lg;refine AN (jq he₂ rfl (x:=qb a) rfl ?_);show ia _ _ (loadIfAlive ((a:Int).toNat)>>=_) _ _ _;rw[jd];refine AN (W.kdx_alive ha₂ ?_);simp only[Option.isNone_some,jb,if_false];refine AN (jq he₂ rfl (x:=.bool f) rfl ?_);have ne:=gr hil;cases f with
  |true=>
   rw[if_neg (show¬((m7 true !=m7 true)=true)from ib)];refine AO ?_;simp only[jb,if_false];exact AO (AO ⟨_,rfl,AO (hQ h₂ he₂ ht₂ hz₂ hk₂)⟩)
  |false=>
   rw[if_pos (show(m7 false !=m7 true)=true from rfl)];refine AN (js he₂ (by simp) λh₃ he₃ hs₃=> ?_);replace hs₃:ju it h₂ h₃:=hs₃;replace he₃:W.KdxIt h₃ it d (i+1) es.size ep ok ov a true:=he₃;refine AO ?_;simp only[jb,if_false];exact AO (AO ⟨_,rfl,AO (hQ h₃ he₃ (hs₃.extBut _ _ ne ht₂) (by show h₃.objs.size=_;rw[hs₃.1,hz₂]) λb o hb e=>hs₃.extBut b o hb (hk₂ b o hb e))⟩)
theorem A5n (hh:A.handled=none)(hit:ItF s.heap it d i es.size ep ok ov x0 x1)(ho:s.heap.get? d=some o)(hd:o.data= .dict es ep)(hi:es.size<=i)
  (hQ:∀h',iw.ExtBut it s.heap h'->Q none {s with heap:=h'}):ia (iu prog w) A (uv (.ref it)) Q E s:=by
 have hT:s.TypeIs (.ref it) "dict_itemiterator":=⟨_,hit,rfl⟩;unfold uv;refine AN (zz (jv (name:=k8 "__next__") hT jx (ji jx hT rf ?_ (ql _))));refine AN (AO ?_);refine AN ?_;refine AN ?_
 first| (refine AN (k4 hT (AO ?_));skip)| (refine AN (mh hT (AO ?_));skip)
 refine AN (wpAny_fieldsOf hit rfl ?_);simp only[show nu "dict_itemiterator" =true by decide,if_true];show ia _ _ (if (h8 d==jf)=true then _ else _) _ _ s;rw[if_neg (show¬((h8 d==jf)=true)from ib)];refine AN (AO ?_);refine AN (wk ho hd ?_);rw[if_neg (by simp)];refine AN (AO ?_);refine AN (yk ho hd ?_);rw[if_neg (by simp)];refine AO ?_;simp only[show¬((i:Int)<0) by omega,if_false,jd,Array.getElem?_eq_none hi];refine AN ?_
 first| (refine AN (k4 hT (AO ?_));skip)| (refine AN (mh hT (AO ?_));skip)
 show ia _ _ (setField (.ref it) 2 .none>>=_) _ _ s;refine AN (y8 hit rfl (by simp) ?_);show ia _ _ (newExc (.type "StopIteration") []>>=_) _ _ _;refine AN ?_;simp only[newExc,newTuple];refine AN (i9 ?_ (by size_fits));refine AN (m:=va _ _) (y7 (a:=jf) (by first|rfl| (simp only[va];rfl)) ?_);refine i9 ?_ (by size_fits);simp only[raiseNew];refine AN (wpAny_handled ?_);rw[show A.in1.handled=none from hh];refine AN (AO (wpAny_throw ?_));refine AN (oh (T:="StopIteration") (b:=true) ⟨_,fu _ rfl,rfl⟩ isSubtype_stop ?_);exact AO (hQ _ (((tw ..).extBut.push _).push _))
theorem A5v (hit:Ah s.heap it d i n ep ok ov)(h:Q (.ref it) s):ia (iu prog w) A (Af (.ref it)) Q E s:=by have hT:s.TypeIs (.ref it) "dict_itemiterator":=⟨_,hit,rfl⟩;have ent:entryFor table "dict_itemiterator.__iter__" =some ic.«dict_keyiterator.__iter__»:=entryFor_alias (id':="dict_keyiterator.__iter__") (by kernel_rfl) rfl (by decide +kernel) (by kernel_rfl);refine wj hT r9 (ji r9 hT ent ?_ (F.args_dict_itemiterator_iter_1 _));show ia _ _ (ret (.ref it)) _ _ s;exact AO ⟨_,rfl,"dict_itemiterator",_,hT,jx.lookup,h⟩
end PySem
namespace L2
open PySem PySem.Spec PyProof.Rows
theorem Inv.freeze (I:Inv X ir σ H s)(hm:Mut (H d))(hd:H d=some u)(ho:s.heap.get? d=some o):Inv X ir σ (upd H d (.frz o u)) s:=by
 have hu:Un X.fs [] H (upd H d (.frz o u)) s.heap s.heap:=by
  refine⟨λ_ _ q _ _ _=>q,λb ob q _ _ _=> ⟨ob.slots,q⟩,λb _ _ n _=> ?_,λb ob q _=> ⟨ob,q⟩,λb xs q=> ?_,λb ob v q=> ?_,λb ps q=> ⟨#[],?_⟩⟩
  ·rw[bA (λz=>by rw[z,hd]at n;cases n)];exact n
  ·rw[bA (λz=>by rw[z]at q;rw[q]at hm;exact hm)];exact q
  ·rw[bA (λz=>by rw[z]at q;rw[q]at hm;exact hm)];exact q
  ·rw[bA (λz=>by rw[z]at q;rw[q]at hm;exact hm),q];simp
 have hok:AZ X.prog X.w (upd H d (.frz o u)) s.heap:=λb v q=>by
  have st:∀c w',ObjOk X.prog X.w H s.heap c w'->ObjOk X.prog X.w (upd H d (.frz o u)) s.heap c w':=λc w' x=>
   x.stay (λ_ _ _ q=>q) (λb q=>by rw[bA (λz=>by rw[z]at q;rw[q]at hm;exact hm)];exact q) λb xs q=>by rw[bA (λz=>by rw[z]at q;rw[q]at hm;exact hm)];exact q
  by_cases hb:b=d
  ·subst hb;rw[aJ]at q;cases q;exact⟨ho,st _ _ (I.hok _ _ hd)⟩
  ·rw[bA hb]at q;exact st _ _ (I.hok _ _ q)
 have:=I.un (h':=s.heap) (t':=s.toks) hu hok;exact this
noncomputable def Itm (d:gy)(o:Obj)(kvs:List (List Key×V)):It:=
  ⟨λi H=>H d=some (.frz o (.dT kvs))/\i<kvs.length,
   λi H v H'=> ∃p b k x,v= .ref p/\H p=none/\H'=upd H p (.tup [.ref b,x])/\kvs[i]?=some (k,x)/\H b=some (.tup (k.map kV)),
   λi H=>H d=some (.frz o (.dT kvs))/\i=kvs.length⟩
theorem A7d {P:il}{w:i6}{K:W.Frag}{es:List j7}{x1}{pos:Pos}(it d:gy)(o:Obj)(kvs:List (List Key×V))(ens:Array Aw)(ep:Nat)(hd:o.data= .dict ens ep)(hz:ens.size=kvs.length):
  gA P w K (.Tuple es x1 pos) (Itm d o kvs) [it] it (λi h=> ∃ok ov,Ah h it d i ens.size ep ok ov)where
 mem:=by simp
 obj:=λi h ⟨ok,ov,st⟩ c hc=>by
  rw[d6.mp hc];exact⟨_,st,λv z=>by cases z⟩
 keep:=λi h h' ⟨ok,ov,st⟩ kp=> ⟨ok,ov,kp it (by simp) _ st⟩
 item:=by
  intro X hP hw hK hc i ir s σ H E I hf st hg;subst hP hw hK;obtain⟨ok,ov,st⟩:=st;obtain⟨g1,g2⟩:=hg;obtain⟨ho,ob⟩:=(show ObjOk X.prog X.w H s.heap d (.frz o (.dT kvs))from I.hok _ _ g1);obtain⟨_,_,xs,rp,o',es',ep',ho',hx',hd',he',_⟩:=ob;rw[ho]at ho';cases ho';rw[hd]at hd';cases hd';have hi:i<ens.size:=by omega
  have hxs:xs.length=kvs.length:=(Paired.length rp).symm;have hki:kvs[i]?=some kvs[i]:=bq g2;have hxi:i<xs.length:=by omega
  have hent:ens[i]=Ae (qv (cW X.prog X.w)) xs[i]:=by
   have:=entry_at (knd:=qv (cW X.prog X.w)) he' i;rw[vq hi,bq hxi]at this;exact ig this
  have hpr:kvs[i].1=xs[i].1/\H xs[i].2.1=some (.tup (kvs[i].1.map kV))/\RelV kvs[i].2 xs[i].2.2:=by
   have go:∀(l:List (List Key×V))(m:List (List Key×gy×gw))(j:Nat)(a:j<l.length)(b:j<m.length),Paired (λ(p:List Key×V) (q:List Key×gy×gw)=>p.1=q.1/\H q.2.1=some (.tup (p.1.map kV))/\RelV p.2 q.2.2) l m->l[j].1=m[j].1/\H m[j].2.1=some (.tup (l[j].1.map kV))/\RelV l[j].2 m[j].2.2:=by
    intro l m j a b r
    induction r generalizing j with
    |nil=>cases a
    |cons r t ih=>
     cases j with
     |zero=>exact r
     |succ j=>exact ih j (by simpa using a) (by simpa using b)
   exact go kvs xs i g2 hxi rp
  refine B3g st ho hd hi (.inl ⟨rfl,rfl,λh' g1' g2' g3' g4'=> ?_⟩);refine⟨_,rfl,wpAny_letOwnedTupleGo_items (s:={s with heap:=h'}) g1' λh2 hz2 hs2=> ?_⟩;have lz:s.heap.objs.size≠it:=gr (AV st);have hn:H s.heap.objs.size=none:=I.hok.fresh (AY _);have kp:∀c o,c∉[it]->s.heap.get? c=some o->h2.get? c=some o:=λc o hc' q=>by
   have c1:c≠it:=λe=>hc' (by simp[e]);exact(hs2.2 c c1).trans (g4' c o c1 q)
  have hT2:=(hs2.2 _ lz).trans g2';rw[hent]at hT2;have I2:Inv X ir σ (upd H s.heap.objs.size (.tup [.ref xs[i].2.1,kvs[i].2])) {s with heap:=h2,toks:=s.toks}:=I.turnLaid (fp:=[it]) kp hf (AY _) ⟨by show 2<=gz;rw[jh];decide,[.ref xs[i].2.1,xs[i].2.2],.cons rfl (.cons hpr.2.2 .nil),⟨_,hT2,rfl,_,rfl⟩⟩;refine⟨.ref s.heap.objs.size,_,I2,rfl,⟨s.heap.objs.size,xs[i].2.1,kvs[i].1,kvs[i].2,rfl,hn,rfl,hki,hpr.2.1⟩,⟨_,_,hz2⟩,λc hc'=> ?_⟩;rw[d6.mp hc',bA lz.symm];exact(hf it (by simp)).1
 done:=by
  intro X hP hw hK hc i ir s σ H E I hf st hg;subst hP hw hK;obtain⟨ok,ov,st⟩:=st;obtain⟨g1,g2⟩:=hg;obtain⟨ho,ob⟩:=(show ObjOk X.prog X.w H s.heap d (.frz o (.dT kvs))from I.hok _ _ g1);refine A5n (I.ok.hd hc) st ho hd (by omega) λh' hk=> ⟨rfl,?_⟩;exact I.turnedL (fp:=[it]) (t':=s.toks) (λc o hc' q=>hk c o (λe=>hc' (by simp[e])) q) hf
 self:=λ_ _ _ _ _ ⟨ok,ov,st⟩ h=>A5v st h
noncomputable def A6f (td:TE):TI:=λσ H R=>td σ H λx H1=> ∃d kvs,x= .ref d/\H1 d=some (.dT kvs)/\∀o,R (Itm d o kvs) (upd H1 d (.frz o (.dT kvs)))
theorem A8h {a:j7}{td:TE}{apos AK:Pos}{es:List j7}{x1}{tpos:Pos}(ha:PE X a td)(hbase:zu a "items" X.env (mv a X.env)=mv a X.env:=by rfl)(hline:(apos.endLine==AK.line)=true:=by rfl):
  PI X (.Tuple es x1 tpos) (.Call (.Attribute a "items" apos) [] [] AK) (A6f td):=by
 intro ir s σ H R I h;refine wpAny_Call_method0_late hbase hline (thn (ha ir s σ H _ I h) λv s1 ⟨x,H1,I1,r1,d,kvs,e,q1,q⟩=> ?_);subst e;cases r1;obtain⟨_,hs,xs,rp,o,ens,ep,ho,hx,hd,he,_⟩:=(show ObjOk X.prog X.w H1 s1.heap d (.dT kvs)from I1.hok _ _ q1);have hsz:ens.size=kvs.length:=by rw[size_of_entries he];exact(Paired.length rp).symm
 refine⟨"dict","dict.items",p9,PySem.F.slot_dict_items,PySem.F.type_dict_items,⟨o,ho,hx.1⟩,λa e=>by cases e;exact⟨o,ho,hx.2.1⟩,ni rfl (PySem.evalArgs_none ?_)⟩;refine B4o ho hx hs ?_;refine B0w (s:={s1 with heap:=s1.heap.push {cls:=.type "dict_items",data:=.fields #[.ref d]}}) ⟨_,fu _ rfl,rfl,rfl⟩ (AQ _ ho) hd ?_;have kp:∀b ob,s1.heap.get? b=some ob->((s1.heap.push {cls:=.type "dict_items",data:=.fields #[.ref d]}).push {cls:=.type "dict_itemiterator",data:=.fields #[.none,.bool false,.ref d,.int 0 0,.int ens.size 0,.int ep 0,.none,.none]}).get? b=some ob:=λb ob e=>AQ _ (AQ _ e);have I2:=(I1.freeze (by rw[q1];trivial) q1 ho).kept (t':=s1.toks) kp;refine⟨_,[_],_,_,_,rfl,I2,A7d _ d o kvs ens ep hd hsz,⟨_,_,fu _ rfl⟩,λc hc=> ?_,q o⟩;rw[d6.mp hc];have hge:s1.heap.objs.size<=(s1.heap.push {cls:=.type "dict_items",data:=.fields #[.ref d]}).objs.size:=by rw[f6];exact gb _
 exact I1.fpOk hge (by rw[bA (gr (gi (AV ho) hge))];exact I1.hok.fresh hge)
theorem PI.or (h1:PI X tg iter w1)(h2:PI X tg iter w2):PI X tg iter (λσ H R=>w1 σ H R\/w2 σ H R):=by
 intro ir s σ H R I h;rcases h with h|h
 ·exact h1 ir s σ H R I h
 ·exact h2 ir s σ H R I h
noncomputable abbrev C3:=Int×Int×Int
noncomputable def ClP (H:Hp)(bs:List gy)(cl:List C3):Prop:=Paired (λb (c:C3)=>H b=some (.tup [.int c.1,.int c.2.1,.int c.2.2])) bs cl
theorem ClP.ext (h:ClP H bs cl)(e:Ext H H'):ClP H' bs cl:=Paired.mapP h λ_ _ z=>e.tup _ _ z
theorem ClP.get:∀{bs:List gy}{cl:List C3}{i:Nat}{b:gy},ClP H bs cl->bs[i]?=some b->∃c,cl[i]?=some c/\H b=some (.tup [.int c.1,.int c.2.1,.int c.2.2]):=λh e=>kD h e
noncomputable def ClT (H:Hp)(a:gy)(cl:List C3):Prop:=∃bs,H a=some (.tup (bs.map V.ref))/\ClP H bs cl
theorem ClT.ext (h:ClT H a cl)(e:Ext H H'):ClT H' a cl:=let ⟨bs,h1,h2⟩:=h;⟨bs,e.tup _ _ h1,h2.ext e⟩
structure fV (cs:List Int):Prop where
 l1:1<=cs.length
 l6:cs.length<=6
 num:∀x∈cs,1<=x/\x<=100
noncomputable def lt2 (a b:Int×Int):Bool:=HT.lexLt [a.1,a.2] [b.1,b.2]
noncomputable def bW (c:C3):Int×Int:=(c.1,c.2.1)
structure cN (cl:List C3):Prop where
 l1:1<=cl.length
 l12:cl.length<=12
 num:∀c∈cl,(0<=c.1/\c.1<=3)/\(0<=c.2.1/\c.2.1<=5)/\1<=c.2.2/\c.2.2<=20
 up:(cl.map bW).Pairwise λa b=>lt2 a b=true
noncomputable def iL (cs:List Int)(cl:List C3):Prop:=∀c∈cl,c.2.1<cs.length
noncomputable def fW (H:Hp)(a:gy)(cs:List Int):Prop:=H a=some (.tup (cs.map V.int))
noncomputable def Wk (J:It)(xs:List V)(S:Hp->Prop):Prop:=∀{g:TG}{tb:TS}{D:eA}{σ:St}{H:Hp}(Pv:Nat->St->Hp->Prop),Pv 0 σ H->(∀i σ H,i<=xs.length->Pv i σ H->S H)->
 (∀i x σ H,xs[i]?=some x->Pv i σ H->g x σ H λσ2 H2=>tb {D with nx:=Pv (i+1),ct:=Pv (i+1),bk:=D.nx} σ2 H2)->(∀σ H,Pv xs.length σ H->D.nx σ H)->dF J g tb D σ H
theorem lI {K:W.Frag}{a:gy}{xs:List V}:Wk (Itt K a) xs λH=>A3 K H a xs:=λPv h0 hl hs hd=>iK Pv h0 hl hs hd
theorem jR {K:W.Frag}{a:gy}{xs:List V}:Wk (Itl K a) xs λH=>A2 K H a xs:=λPv h0 hl hs hd=>eW Pv h0 hl hs hd
theorem nD {K:uh}{J:It}{S:Hp->Prop}{l:gy}{bs:List gy}{cl:List C3}{te:TE}{H0:Hp}{rest:St}{Q:St->Hp->Prop}(W:Wk J (bs.map V.ref) S)(hS:∀H',Same H0 H'->S H')(hC:ClP H0 bs cl)(hl:H0 l=none)(hz:bs.length<=1000)(f:C3->V)
  (turn:∀c H' Q',c∈cl->Same H0 H'->(∀H2,Same H' H2->Q' (f c) H2)->te (some (.int c.1)::some (.int c.2.1)::some (.int c.2.2)::rest) H' Q')(hQ:∀σ H',Same H0 H'->H' l=some (.lst (cl.map f))->Q σ H'):
  dF J (kG K 3 (fJ (dL 0) (fJ (dL 1) (fJ (dL 2) jN)))) (cS iE (fG l te)) (eC Q) (none::none::none::rest) (upd H0 l (.lst [])):=by
 have rg:bs.length=cl.length:=Paired.length hC;refine W (λi σ H'=>(∃x y z,σ=x::y::z::rest)/\Same H0 H'/\H' l=some (.lst ((cl.take i).map f))) ⟨⟨_,_,_,rfl⟩,aY hl,by rw[aJ];rfl⟩ (λi σ H' _ h=>hS _ h.2.1) ?_ ?_
 ·rintro i x σ H' hx ⟨⟨x0,y0,z0,rfl⟩,hs,zl⟩;rw[br]at hx;cases hb:bs[i]? with
  |none=>rw[hb]at hx;cases hx
  |some b=>
   rw[hb]at hx;cases hx;obtain⟨c,hc,he⟩:=hC.get hb;refine⟨b,_,rfl,A3.of (hs _ _ he),rfl,_,_,rfl,_,_,rfl,_,_,rfl,rfl,?_⟩;refine gV ?_;refine turn c H' _ (d3 hc) hs λH2 h2=> ?_;refine⟨_,h2 _ _ zl,cG (by rw[b8,cm];omega),⟨_,_,_,rfl⟩,λb u e=> ?_,?_⟩
   ·rw[bA (bK e hl)];exact h2 _ _ (hs _ _ e)
   ·rw[aJ,fq,hc,cx];rfl
 ·rintro σ H' ⟨_,hs,zl⟩;rw[b8,rg,fo (AY _)]at zl;exact hQ σ H' hs zl
theorem B1x {K:uh}{J:It}{S:Hp->Prop}{l:gy}{bs:List gy}{cl:List C3}{H0:Hp}{Q:St->Hp->Prop}(W:Wk J (bs.map V.ref) S)(hS:∀H',Same H0 H'->S H')(hC:ClP H0 bs cl)(hl:H0 l=none)(hz:bs.length<=1000)
  (hQ:∀σ H' ps,Same H0 H'->H' l=some (.lst (ps.map V.ref))->PlAt H' ps (cl.map bW)->Q σ H'):
  dF J (kG K 3 (fJ (dL 0) (fJ (dL 1) (fJ (dL 2) jN)))) (cS iE (fG l (jZ (cD (dY 0) (cD (dY 1) iF))))) (eC Q) [none,none,none] (upd H0 l (.lst [])):=by
 have rg:bs.length=cl.length:=Paired.length hC;refine W (λi σ H'=>σ.length=3/\Same H0 H'/\∃ps:List gy,H' l=some (.lst (ps.map V.ref))/\PlAt H' ps ((cl.take i).map bW)) ⟨rfl,aY hl,[],by rw[aJ];rfl,.nil⟩ (λi σ H' _ h=>hS _ h.2.1) ?_ ?_
 ·rintro i x σ H' hx ⟨hσ,hs,ps,zl,hP⟩;obtain⟨x0,y0,z0,rfl⟩:=wA hσ;rw[br]at hx;cases hb:bs[i]? with
  |none=>rw[hb]at hx;cases hx
  |some b=>
   rw[hb]at hx;cases hx;obtain⟨c,hc,he⟩:=hC.get hb;have hpl:ps.length<=i:=by have:=Paired.length hP;rw[b8,cm]at this;omega
   have hil:i<bs.length:=(AR.mp hb).1;refine⟨b,_,rfl,A3.of (hs _ _ he),rfl,_,_,rfl,_,_,rfl,_,_,rfl,rfl,?_⟩;refine gV ?_;refine⟨_,rfl,_,rfl,by show 2<=gz;decide,λq hq=> ?_⟩;have s2:=aY (o:=.tup [.int c.1,.int c.2.1]) hq;have hlq:q≠l:=λz=>by rw[z,zl]at hq;cases hq
   refine⟨_,s2 _ _ zl,cG (by rw[b8];omega),rfl,λb u e=> ?_,ps++[q],?_,?_⟩
   ·rw[bA (bK e hl)];exact s2 _ _ (hs _ _ e)
   ·rw[aJ,cx];rfl
   ·rw[fq,hc,cx];refine PlAt.snoc (Paired.mapP hP λp c' e=> ?_) (by rw[bA hlq,aJ];rfl);have e':=s2 _ _ e;rw[bA (λz=>by rw[z,s2 _ _ zl]at e';cases e')];exact e'
 ·rintro σ H' ⟨_,hs,ps,zl,hP⟩;rw[b8,rg,fo (AY _)]at hP;exact hQ σ H' ps hs zl hP
noncomputable def E3 (R:V->V->Bool->Prop):List V->List V->List Bool->Prop
 | [],[],[]=>True
 |x::xs,y::ys,k::ks=>R x y k/\E3 R xs ys ks
 |_,_,_=>False
noncomputable def EqF (a b:V)(k:Bool):Prop:=(∃i j,a= .int i/\b= .int j/\k=decide (i=j))\/ ∃x y,a= .str x/\b= .str y/\k=decide (x=y)
noncomputable def A7 (H:Hp):Nat->V->V->Bool->Prop
 |0,a,b,k=>EqF a b k
 |n+1,a,b,k=>EqF a b k\/ ∃p q xs ys ks,a= .ref p/\b= .ref q/\((H p=some (.tup xs)/\H q=some (.tup ys))\/(H p=some (.lst xs)/\H q=some (.lst ys)))/\E3 (A7 H n) xs ys ks/\k=ks.all id
theorem E3.len:∀{xs ys:List V}{ks:List Bool},E3 R xs ys ks->xs.length=ys.length/\xs.length=ks.length
 | [],[],[],_=> ⟨rfl,rfl⟩
 |x::xs,y::ys,k::ks,h=>by
  have:=E3.len h.2;simp only[b4];omega
 | [],[],_::_,h=>h.elim
 | [],_::_,_,h=>h.elim
 |_::_,[],_,h=>h.elim
 |_::_,_::_,[],h=>h.elim
theorem E3.get:∀{xs ys:List V}{ks:List Bool}{i:Nat}{x y:V},E3 R xs ys ks->xs[i]?=some x->ys[i]?=some y->∃k,ks[i]?=some k/\R x y k
 |x::xs,y::ys,k::ks,0,_,_,h,h1,h2=>by cases h1;cases h2;exact⟨k,rfl,h.1⟩
 |x::xs,y::ys,k::ks,i+1,_,_,h,h1,h2=>E3.get (i:=i) h.2 (by simpa using h1) (by simpa using h2)
 | [],_,_,_,_,_,_,h1,_=>by simp at h1
 |_::_,[],_,_,_,_,h,_,_=>h.elim
 |_::_,_::_,[],_,_,_,h,_,_=>h.elim
theorem EqF.refl_true (h:EqF a a k):k=true:=by
 rcases h with⟨i,j,h1,h2,h3⟩| ⟨x,y,h1,h2,h3⟩
 ·rw[h1]at h2;rw[h3,V.int.inj h2];simp
 ·rw[h1]at h2;rw[h3,V.str.inj h2];simp
theorem A7.refl_true:∀{n:Nat}{a:V}{k:Bool},A7 H n a a k->k=true
 |0,a,k,h=>EqF.refl_true h
 |n+1,a,k,h=>by
  rcases h with h| ⟨p,q,xs,ys,ks,h1,h2,h3,h4,h5⟩
  ·exact EqF.refl_true h
  ·rw[h1]at h2;cases h2;have e:xs=ys:=by
    rcases h3 with⟨u,v⟩| ⟨u,v⟩
    ·rw[u]at v;cases v;rfl
    ·rw[u]at v;cases v;rfl
   subst e;rw[h5,ae];have go:∀{xs:List V}{ks:List Bool},E3 (A7 H n) xs xs ks->∀k∈ks,id k=true:=fun{xs ks}=>by
    induction xs generalizing ks with
    |nil=>intro h k hk;cases ks with|nil=>cases hk|cons _ _=>exact h.elim
    |cons x xs ih=>
     intro h k hk;cases ks with
     |nil=>cases hk
     |cons k0 ks=>
      rcases di.mp hk with z|z
      ·rw[z];exact A7.refl_true h.1
      ·exact ih h.2 k z
   exact go h4
theorem A7.int (n:Nat)(i j:Int):A7 H n (.int i) (.int j) (decide (i=j)):=by
 cases n with
 |zero=>exact .inl ⟨i,j,rfl,rfl,rfl⟩
 |succ n=>exact .inl (.inl ⟨i,j,rfl,rfl,rfl⟩)
theorem vN (ks:List Bool):(iq ks.length).all (λj=>ks.getD j true)=ks.all id:=by
 rw[iy,ae,ae];constructor
 ·intro h k hk;obtain⟨j,hj,e⟩:=List.getElem_of_mem hk;have:=h j (by simpa using hj);rw[show ks.getD j true=ks[j] by simp[hj],e]at this;exact this
 ·intro h j hj;have hj':j<ks.length:=by simpa using hj
  rw[show ks.getD j true=ks[j] by simp[hj']];exact h _ (bx _)
theorem oE (ih:∀{a b:V}{k:Bool}{u v:gw},A7 H n a b k->RelV a u->RelV b v->i5 A s u v k)(h4:E3 (A7 H n) xs ys ks)(r1:Vals xs us)(r2:Vals ys ws):
  ∀j (h1:j<us.toArray.size)(h2:j<ws.toArray.size),i5 A s us.toArray[j] ws.toArray[j] (ks.getD j true):=λj h1 h2=>by
 have hl:=h4.len;have l1:=r1.length;have l2:=r2.length;rw[fj]at h1 h2;have j1:j<xs.length:=by omega
 have j2:j<ys.length:=by omega
 obtain⟨u,hu,ru⟩:=r1.get (bq j1);obtain⟨v,hv,rv⟩:=r2.get (bq j2);obtain⟨k,hk,e⟩:=h4.get (bq j1) (bq j2);have eu:us.toArray[j]=u:=by
  have:=(AR.mp hu).2;simpa using this
 have ev:ws.toArray[j]=v:=by
  have:=(AR.mp hv).2;simpa using this
 rw[eu,ev,show ks.getD j true=k by rw[bo,hk];rfl];exact ih e ru rv
theorem sW (I:Inv X ir σ H s)(hu:A.units<jt)(ih:∀{a b:V}{k:Bool}{u v:gw},A7 H n a b k->RelV a u->RelV b v->i5 A.in1 s u v k)
  (h3:(H p=some (.tup xs)/\H q=some (.tup ys))\/(H p=some (.lst xs)/\H q=some (.lst ys)))(h4:E3 (A7 H n) xs ys ks):nj A s (.ref p) (.ref q) (ks.all id)/\oi A s (.ref p) (.ref q) (!ks.all id):=by
 have hl:=h4.len;rcases h3 with⟨hp,hq⟩| ⟨hp,hq⟩
 ·obtain⟨us,r1,p1,_⟩:=I.tuple (A3.of hp);obtain⟨ws,r2,p2,_⟩:=I.tuple (A3.of hq);have l1:=r1.length;have l2:=r2.length;have e:((iq (min us.toArray.size ws.toArray.size)).all (λj=>ks.getD j true)&&us.toArray.size==ws.toArray.size)=ks.all id:=by
   rw[fj,fj,show min us.length ws.length=ks.length by omega,vN,show us.length=ws.length by omega];simp
  have k1:=qf p1 p2 hu (oE ih h4 r1 r2);have k2:=ue p1 p2 hu (oE ih h4 r1 r2);rw[e]at k1 k2;exact⟨k1,k2⟩
 ·obtain⟨us,r1,p1,_⟩:=I.list (A2.of hp);obtain⟨ws,r2,p2,_⟩:=I.list (A2.of hq);have l1:=r1.length;have l2:=r2.length;have e:(iq us.toArray.size).all (λj=>ks.getD j true)=ks.all id:=by rw[fj,show us.length=ks.length by omega,vN]
  have hz:us.toArray.size=ws.toArray.size:=by rw[fj,fj];omega
  have k1:=nj.lists p1.isList p2.isList hz hu (oE ih h4 r1 r2);have k2:=oi.lists p1.isList p2.isList hz hu (oE ih h4 r1 r2);rw[e]at k1 k2;exact⟨k1,k2⟩
theorem qK (I:Inv X ir σ H s):∀{n:Nat}{A:kb}{a b:V}{k:Bool}{u v:gw},A.units+n<jt->A7 H n a b k->RelV a u->RelV b v->i5 A s u v k:=by
 have flat:∀{A:kb}{a b:V}{k:Bool}{u v:gw},EqF a b k->RelV a u->RelV b v->i5 A s u v k:=fun{A a b k u v} h ra rb=>by
  rcases h with⟨i,j,rfl,rfl,rfl⟩| ⟨x,y,rfl,rfl,rfl⟩
  ·obtain⟨t,rfl⟩:=ra;obtain⟨t',rfl⟩:=rb;have:=nh (A:=A) (s:=s) i t j t'
   rwa [show(i==j)=decide (i=j) by rw[iy];simp]at this
  ·obtain⟨t,rfl⟩:=ra;obtain⟨t',rfl⟩:=rb;have:=i5.str_str (A:=A) (s:=s) x t y t'
   rwa [show(x==y)=decide (x=y) by rw[iy];simp]at this
 intro n
 induction n with
 |zero=>intro A a b k u v _ h ra rb;exact flat h ra rb
 |succ n ih=>
  intro A a b k u v hu h ra rb;rcases h with h| ⟨p,q,xs,ys,ks,rfl,rfl,h3,h4,rfl⟩
  ·exact flat h ra rb
  ·cases ra;cases rb;by_cases hpq:p=q
   ·subst hpq;have:(ks.all id)=true:=A7.refl_true (n:=n+1) (H:=H) (a:=.ref p) (.inr ⟨p,p,xs,ys,ks,rfl,rfl,h3,h4,rfl⟩);rw[this];exact sm _
   ·exact ve hpq (sW I (by omega) (λe r1 r2=>ih (show A.in1.units+n<jt by show A.units+1+n<jt;omega) e r1 r2) h3 h4).1
noncomputable def sJ (n:Nat)(g:Bool->Bool):R2:=λx y H Q=> ∃p q xs ys ks,x= .ref p/\y= .ref q/\((H p=some (.tup xs)/\H q=some (.tup ys))\/(H p=some (.lst xs)/\H q=some (.lst ys)))/\E3 (A7 H n) xs ys ks/\Q (.bl (g (ks.all id))) H
theorem A53 (n:Nat)(hu:X.A.units+n+1<jt):OpR X (jl .Eq) (sJ n id):=by intro ir s σ H x y v u Q I rx ry h;obtain⟨p,q,xs,ys,ks,rfl,rfl,h3,h4,hq⟩:=h;cases rx;cases ry;exact(sW I (by omega) (λe r1 r2=>qK I (show X.A.in1.units+n<jt by show X.A.units+1+n<jt;omega) e r1 r2) h3 h4).1 X.prog X.w X.xe _ ⟨.bl _,H,I,rfl,hq⟩
theorem A4d (n:Nat)(hu:X.A.units+n+1<jt):OpR X (jl .NotEq) (sJ n not):=by intro ir s σ H x y v u Q I rx ry h;obtain⟨p,q,xs,ys,ks,rfl,rfl,h3,h4,hq⟩:=h;cases rx;cases ry;exact(sW I (by omega) (λe r1 r2=>qK I (show X.A.in1.units+n<jt by show X.A.units+1+n<jt;omega) e r1 r2) h3 h4).2 X.prog X.w X.xe _ ⟨.bl _,H,I,rfl,hq⟩
noncomputable def A0k (n:Nat)(g:Bool->Bool):R2:=λx y H Q=> ∃q xs ks,y= .ref q/\(H q=some (.tup xs)\/H q=some (.lst xs))/\E3 (A7 H n) xs (xs.map λ_=>x) ks/\Q (.bl (g (ks.any id))) H
theorem A10:∀{a b:V}{u:gw},RelV a u->RelV b u->a=b:=fun{a b u} ha hb=>by
 cases a<;>cases b<;>simp only[RelV]at ha hb<;>first
  |rfl
  | (subst ha;cases hb;rfl)
  | (subst ha;cases hb;done)
  | (obtain⟨t,rfl⟩:=ha;obtain⟨t',e⟩:=hb;cases e;rfl)
  | (obtain⟨t,rfl⟩:=ha;obtain⟨t',e⟩:=hb;cases e;done)
  | (obtain⟨t,rfl⟩:=ha;cases hb;done)
  | (obtain⟨t,rfl⟩:=hb;cases ha;done)
theorem EqF.func (h:EqF a b k)(h':EqF a b k'):k=k':=by
 rcases h with⟨i,j,rfl,rfl,rfl⟩| ⟨x,y,rfl,rfl,rfl⟩
 ·rcases h' with⟨i',j',h1,h2,rfl⟩| ⟨x,y,h1,h2,rfl⟩
  ·cases h1;cases h2;rfl
  ·cases h1
 ·rcases h' with⟨i',j',h1,h2,rfl⟩| ⟨x',y',h1,h2,rfl⟩
  ·cases h1
  ·cases h1;cases h2;rfl
theorem EqF.noref (h:EqF (.ref p) b k):False:=by rcases h with⟨i,j,h1,_⟩| ⟨x,y,h1,_⟩<;>cases h1
theorem A7.func:∀{n:Nat}{a b:V}{k k':Bool},A7 H n a b k->A7 H n a b k'->k=k'
 |0,a,b,k,k',h,h'=>EqF.func h h'
 |n+1,a,b,k,k',h,h'=>by
  rcases h with h| ⟨p,q,xs,ys,ks,rfl,rfl,h3,h4,rfl⟩
  ·rcases h' with h'| ⟨p,q,xs,ys,ks,rfl,rfl,h3,h4,rfl⟩
   ·exact EqF.func h h'
   ·exact h.noref.elim
  ·rcases h' with h'| ⟨p',q',xs',ys',ks',e1,e2,h3',h4',rfl⟩
   ·exact h'.noref.elim
   ·cases e1;cases e2;have ex:xs=xs'/\ys=ys':=by
     rcases h3 with⟨u,v⟩| ⟨u,v⟩<;>rcases h3' with⟨u',v'⟩| ⟨u',v'⟩<;>rw[u]at u'<;>rw[v]at v'<;>cases u'<;>cases v'<;>exact⟨rfl,rfl⟩
    obtain⟨rfl,rfl⟩:=ex;have go:∀{xs ys:List V}{ks ks':List Bool},E3 (A7 H n) xs ys ks->E3 (A7 H n) xs ys ks'->ks=ks':=fun{xs}=>by
     induction xs with
     |nil=>
      intro ys ks ks' g g';cases ys with
      |nil=>
       cases ks with
       |nil=>cases ks' with|nil=>rfl|cons _ _=>exact g'.elim
       |cons _ _=>exact g.elim
      |cons _ _=>exact g.elim
     |cons x xs ih=>
      intro ys ks ks' g g';cases ys with
      |nil=>exact g.elim
      |cons y ys=>
       cases ks with
       |nil=>exact g.elim
       |cons k ks=>
        cases ks' with
        |nil=>exact g'.elim
        |cons k' ks'=>rw[A7.func g.1 g'.1,ih g.2 g'.2]
    rw[go h4 h4']
open Classical in
theorem yY (he:∀a u k,RelV a u->A7 H n a x k->e u=k):∀{xs:List V}{us:List gw}{ks:List Bool},Vals xs us->E3 (A7 H n) xs (xs.map λ_=>x) ks->us.any e=ks.any id
 | [],_,[],.nil,_=>rfl
 | [],_,_::_,.nil,h=>h.elim
 |y::xs,_,k::ks,.cons r t,h=>by
  rw[ag,ag,he _ _ _ r h.1,yY he t h.2];rfl
 |_::_,_,[],.cons _ _,h=>h.elim
open Classical in
theorem nE (I:Inv X ir σ H s)(hu:A.units+n<jt)(rx:RelV x v)(r:Vals xs us)(h:E3 (A7 H n) xs (xs.map λ_=>x) ks):
  ∃e:gw->Bool,(∀y∈us,i5 A s y v (e y))/\us.any e=ks.any id:=by
 refine⟨λy=>decide (∃a,RelV a y/\A7 H n a x true),λy hy=> ?_,yY (λa u k ra hk=> ?_) r h⟩
 ·obtain⟨j,hj,e⟩:=List.getElem_of_mem hy;have hl:=r.length;have hjx:j<xs.length:=by omega
  obtain⟨u,hu',ru⟩:=r.get (bq hjx);have eu:u=y:=by
   rw[bq hj,e]at hu';exact(ig hu').symm
  subst eu;obtain⟨k,hk,ek⟩:=h.get (bq hjx) (y:=x) (by rw[br,bq hjx];rfl);have:decide (∃a,RelV a u/\A7 H n a x true)=k:=by
   cases k with
   |true=>exact AS ⟨_,ru,ek⟩
   |false=>
    refine AU ?_;rintro⟨a,ra,ea⟩;have:=A10 ra ru;subst this;cases A7.func ek ea
  show i5 A s u v (decide (∃a,RelV a u/\A7 H n a x true));rw[this];exact qK I hu ek ru rx
 ·cases k with
  |true=>exact AS ⟨a,ra,hk⟩
  |false=>
   refine AU ?_;rintro⟨b,rb,eb⟩;have:=A10 rb ra;subst this;cases A7.func hk eb
theorem jV (n:Nat)(hu:X.A.units+n+1<jt):OpR X (jl .In) (A0k n id):=by
 intro ir s σ H x y v u Q I rx ry h;obtain⟨q,xs,ks,rfl,hq,h4,hQ⟩:=h;cases ry;have hu':X.A.in1.units+n<jt:=by show X.A.units+1+n<jt;omega
 rcases hq with hq|hq
 ·obtain⟨us,r,p,_⟩:=I.tuple (A3.of hq);obtain⟨e,e1,e2⟩:=nE I hu' rx r h4;refine SeqAt.in_tupleAt e p (λy hy=>e1 y (by simpa using hy)) ⟨.bl _,H,I,rfl,?_⟩;rw[show us.toArray.any e=us.any e by simp,e2];exact hQ
 ·obtain⟨us,r,p,_⟩:=I.list (A2.of hq);obtain⟨e,e1,e2⟩:=nE I hu' rx r h4;refine yh e p.isList (λy hy=>e1 y (by simpa using hy)) ⟨.bl _,H,I,rfl,?_⟩;rw[show us.toArray.any e=us.any e by simp,e2];exact hQ
theorem A2l (n:Nat)(hu:X.A.units+n+1<jt):OpR X (jl .NotIn) (A0k n not):=by
 intro ir s σ H x y v u Q I rx ry h;obtain⟨q,xs,ks,rfl,hq,h4,hQ⟩:=h;cases ry;have hu':X.A.in1.units+n<jt:=by show X.A.units+1+n<jt;omega
 rcases hq with hq|hq
 ·obtain⟨us,r,p,_⟩:=I.tuple (A3.of hq);obtain⟨e,e1,e2⟩:=nE I hu' rx r h4;refine SeqAt.notIn_tupleAt e p (λy hy=>e1 y (by simpa using hy)) ⟨.bl _,H,I,rfl,?_⟩;rw[show us.toArray.any e=us.any e by simp,e2];exact hQ
 ·obtain⟨us,r,p,_⟩:=I.list (A2.of hq);obtain⟨e,e1,e2⟩:=nE I hu' rx r h4;refine SeqAt.notIn_listAt e p.isList (λy hy=>e1 y (by simpa using hy)) ⟨.bl _,H,I,rfl,?_⟩;rw[show us.toArray.any e=us.any e by simp,e2];exact hQ
noncomputable def A97 (g:Bool->Bool):R2:=λx y H Q=> ∃p q xs,x= .ref p/\y= .ref q/\H p=some (.lst xs)/\H q=some (.lst [])/\Q (.bl (g (decide (xs=[])))) H
theorem A44 (hu:X.A.units+1<jt):OpR X (jl .NotEq) (A97 not):=by
 intro ir s σ H x y v u Q I rx ry h;obtain⟨p,q,xs,rfl,rfl,h1,h2,hq⟩:=h;cases rx;cases ry;obtain⟨us,r1,p1,_⟩:=I.list (A2.of (K:=X.K) h1);obtain⟨ws,r2,p2,_⟩:=I.list (A2.of (K:=X.K) h2);have e2:ws=[]:=by cases r2;rfl
 subst e2;cases xs with
 |nil=>
  have e1:us=[]:=by cases r1;rfl
  subst e1;have k:=oi.lists (A:=X.A) (s:=s) (e:=λ_=>true) p1.isList p2.isList rfl (by omega) (λj h1 _=>absurd h1 (by simp));exact k X.prog X.w X.xe _ ⟨.bl _,H,I,rfl,hq⟩
 |cons x xs=>
  have l1:=r1.length;have k:=oi.lists_lengths (A:=X.A) (s:=s) p1.isList p2.isList (by rw[fj,fj,←l1];simp) (by omega);exact k X.prog X.w X.xe _ ⟨.bl _,H,I,rfl,hq⟩
end L2
namespace Grd
open PySem PyProof.Rows
noncomputable def A8 (c d:Int×Int):Prop:=HT.lexLt [c.1,c.2] [d.1,d.2]=true
theorem A4n (h:j<k):A8 (r,j) (r,k):=by unfold A8;rw[HT.lexLt_cons,if_pos rfl,HT.lexLt_cons,if_neg (by show¬j=k;omega)];exact AS h
theorem A8w (h:r<s):A8 (r,j) (s,k):=by unfold A8;rw[HT.lexLt_cons,if_neg (by show¬r=s;omega)];exact AS h
theorem yP (xs:List α):xs.zipIdx.Pairwise λa b=>a.2<b.2:=by rw[mf];intro i j hi hj hij;simp only[List.getElem_zipIdx];omega
theorem B27 (f:Int->Bool)(r:Int)(xs:List Int):(fF f r xs).Pairwise A8:=by
 unfold fF;rw[List.pairwise_filterMap];refine(yP xs).imp fun{a b} h c hc d hd=> ?_;cases ha:f a.1 with
 |false=>simp[ha]at hc
 |true=>
  cases hb:f b.1 with
  |false=>simp[hb]at hd
  |true=>
   simp only[ha,if_true,kr]at hc;simp only[hb,if_true,kr]at hd;subst hc hd;exact A4n (by omega)
theorem lY (f:Int->Bool)(g:bE):(bD f g).Pairwise A8:=by
 unfold bD;rw[List.pairwise_flatten];refine⟨λl hl=> ?_,?_⟩
 ·obtain⟨p,_,rfl⟩:=dv.mp hl;exact B27 _ _ _
 ·rw[fh];refine(yP g).imp fun{a b} h c hc d hd=> ?_;obtain⟨e1,_⟩:=mem_rowF.mp hc;obtain⟨e2,_⟩:=mem_rowF.mp hd;obtain⟨c1,c2⟩:=c;obtain⟨d1,d2⟩:=d;dsimp only at e1 e2;subst e1 e2;exact A8w (by omega)
noncomputable def LandOf (g:bE)(cs:List (Int×Int)):Prop:=cs.Sublist (bD pos g)
end Grd
namespace L2
open PySem Grd
theorem PlAt.at:∀{ps:List gy}{cs:List (Int×Int)}{i:Nat}{p:gy},PlAt H ps cs->ps[i]?=some p->∃c,cs[i]?=some c/\H p=some (.tup [.int c.1,.int c.2]):=λh e=>kD h e
theorem eY {ps:List gy}{i:Nat}{x:V}(h:(ps.map V.ref)[i]?=some x):∃p,ps[i]?=some p/\x= .ref p:=by
 rw[br]at h;cases e:ps[i]? with
 |none=>rw[e]at h;cases h
 |some p=>rw[e]at h;exact⟨p,rfl,(ig h).symm⟩
theorem B4h (ps:List gy):cJ (ps.map V.ref) (some 1) none=(ps.drop 1).map V.ref:=by
 have e1:HT.sIx (ps.map V.ref).length 0 (some 1)=min 1 (ps.map V.ref).length:=HT.sIx_nat _ _ 1;have e2:HT.sIx (ps.map V.ref).length (ps.map V.ref).length none=(ps.map V.ref).length:=rfl;unfold cJ;rw[e1,e2,b8];cases ps with
 |nil=>rfl
 |cons p ps=>
  rw[show min 1 (p::ps).length=1 by rw[b4];omega,←c5,fo (by rw[b8,b5];omega)]
open PySem.Spec PyProof.Rows Wlk
theorem nH {x pos}(he:PE X (.Name x pos) te)(hr:PAq X es t):PAq X (.Name x pos::es) (cD te t):=by unfold PAq at*;exact aG he hr
noncomputable abbrev PlA (H:Hp)(p:gy)(c:Int×Int):Prop:=H p=some (.tup [.int c.1,.int c.2])
theorem PlA.put (hl:H l=some (.lst xs))(h:PlA H p c):PlA (upd H l (.lst ys)) p c:=by have h':H p=some (.tup [.int c.1,.int c.2]):=h;show upd H l (.lst ys) p=_;rw[bA (λz=>by rw[z,hl]at h';cases h')];exact h
theorem B2s (h:t σ H λxs H1=>xs.length<=gz/\∀p,H1 p=none->D.rt (.ref p) (upd H1 p (.lst xs))):tG (qT t) D σ H:=h
theorem dX (hr:Room k A):A.units+1+1<jt:=gh (tu (by decide:2<=64) _) hr.units
theorem B1j (h1:PlA H p c)(h2:PlA H q d)(n:Nat):A7 H (n+1) (.ref p) (.ref q) (decide (c=d)):=by refine .inr ⟨p,q,_,_,[decide (c.1=d.1),decide (c.2=d.2)],rfl,rfl,.inl ⟨h1,h2⟩,⟨A7.int _ _ _,A7.int _ _ _,trivial⟩,?_⟩;rw[iy];simp[Prod.ext_iff]
theorem jG (h:PlA H q d)(t:PlAt H ps cs):E3 (A7 H 1) (ps.map V.ref) ((ps.map V.ref).map λ_=>V.ref q) (cs.map λc=>decide (c=d)):=by
 unfold PlAt at t
 induction t with
 |nil=>trivial
 |cons r t ih=>exact⟨B1j r h 0,ih⟩
theorem A0b [DecidableEq α](l:List α)(x:α):(l.map λc=>decide (c=x)).any id=decide (x∈l):=by rw[iy,ai];simp
end L2
namespace Wlk
open PySem PyProof.Rows Srt
noncomputable abbrev f2 (s:iC):List Int:=fl [s.1,s.2]
open Cyc Grd
noncomputable def rc (s:iC):Pl:=if s.2.2=s.1.2+1 then s.1 else if s.2.1=s.1.1+1 then(s.1.1,s.1.2 - 1)else if s.2.2=s.1.2 - 1 then(s.1.1 - 1,s.1.2 - 1)else(s.1.1 - 1,s.1.2)
noncomputable def eC (land:List Pl)(x y:Int)(c:Pl):Nat:=(if c.1=x/\c.2+1<=y/\(c.1,c.2+1)∉land then 1 else 0)+(if c.1=x/\c.2<=y/\(c.1,c.2 - 1)∉land then 1 else 0)
noncomputable def turn (s:iC):Int:=s.1.1*s.2.2 - s.2.1*s.1.2
noncomputable def beside (c:Pl):List Pl:=[(c.1 - 1,c.2),(c.1,c.2 - 1),(c.1,c.2+1),(c.1+1,c.2)]
theorem A0j (h:d∈beside c):c∈beside d:=by
 obtain⟨a,b⟩:=c;unfold beside at h⊢;simp only[di,fc,or_false]at h⊢;rcases h with rfl|rfl|rfl|rfl
 ·right;right;right;simp
 ·right;right;left;simp
 ·right;left;simp
 ·left;simp
noncomputable def jC (land P:List Pl):Prop:=∀x∈P,∀y∈beside x,y∈land->y∈P
structure sG (land:List Pl)(s:Pl)(P:List Pl):Prop where
 sub:∀x∈P,x∈land
 st:s∈P
 cl:jC land P
 min:∀C,jC land C->(∃x∈P,x∈C)->s∈C
 up:P.Pairwise A8
noncomputable def nb (land R:List Pl)(x:Pl):List Pl:=(beside x).filter λy=>decide (y∈land)&& !decide (y∈R)
structure Rch (land:List Pl)(s:Pl)(R:List Pl)(k:Nat):Prop where
 sub:∀x∈R,x∈land
 nd:R.Nodup
 st:s∈R
 done:∀i x,i<k->R[i]?=some x->∀y∈beside x,y∈land->y∈R
 min:∀C,jC land C->∀x∈R,x∈C->s∈C
 le:k<=R.length
theorem A5l (x:Pl):(beside x).Nodup:=by obtain⟨a,b⟩:=x;unfold beside;simp only[d9,di,fc,or_false,Ac,not_or,not_false_eq_true,fb,and_true];omega
theorem mem_nb {land R:List Pl}{x y:Pl}:y∈nb land R x↔y∈beside x/\y∈land/\y∉R:=by unfold nb;rw[dj];simp
theorem Rch.start (h:s∈land):Rch land s [s] 0:=
 ⟨λx hx=>by rw[d6.mp hx];exact h,by simp,AX,λi _ hi=>absurd hi (Nat.not_lt_zero i),λC _ x hx hC=>by rw[d6.mp hx]at hC;exact hC,gv _⟩
theorem Rch.step {land R:List Pl}{s x:Pl}{k:Nat}(h:Rch land s R k)(hx:R[k]?=some x):Rch land s (R++nb land R x) (k+1):=by
 have hk:k<R.length:=(AR.mp hx).1;refine⟨λy hy=> ?_,?_,de _ h.st,λi y hi hy z hz hzl=> ?_,λC hC y hy hyC=> ?_,by rw[bz];omega⟩
 ·rcases da.mp hy with e|e
  ·exact h.sub y e
  ·exact(mem_nb.mp e).2.1
 ·rw[d8];refine⟨h.nd,(A5l x).sublist a8,λa ha b hb e=> ?_⟩;subst e;exact(mem_nb.mp hb).2.2 ha
 ·rw[md (by omega)]at hy;by_cases e:z∈R
  ·exact de _ e
  ·rcases Nat.lt_or_ge i k with u|u
   ·exact absurd (h.done i y u hy z hz hzl) e
   ·have:i=k:=by omega
    rw[this,hx]at hy;cases hy;exact dh _ (mem_nb.mpr ⟨hz,hzl,e⟩)
 ·rcases da.mp hy with e|e
  ·exact h.min C hC y e hyC
  ·have hxR:=d3 hx;exact h.min C hC x hxR (hC y hyC x (A0j (mem_nb.mp e).1) (h.sub x hxR))
theorem Rch.len {land R:List Pl}{s:Pl}{k:Nat}(h:Rch land s R k):R.length<=land.length:=fS h.nd h.sub
theorem Rch.fin {land R P:List Pl}{s:Pl}{k:Nat}(h:Rch land s R k)(hk:R.length<=k)(hp:P.Perm R)(hs:P.Pairwise λa b=>HT.lexLt [b.1,b.2] [a.1,a.2]=false):sG land s P:=by
 refine⟨λx hx=>h.sub x (hp.mem_iff.mp hx),hp.mem_iff.mpr h.st,λx hx y hy hl=> ?_,λC hC ⟨x,hx,hxC⟩=>h.min C hC x (hp.mem_iff.mp hx) hxC,?_⟩
 ·obtain⟨i,hi,e⟩:=List.mem_iff_getElem.mp (hp.mem_iff.mp hx);exact hp.mem_iff.mpr (h.done i x (by omega) (AR.mpr ⟨hi,e⟩) y hy hl)
 ·have hnd:P.Nodup:=hp.nodup_iff.mpr h.nd;refine(hs.and (ee.mp hnd)).imp fun{a b} z=> ?_;unfold A8;cases e:HT.lexLt [a.1,a.2] [b.1,b.2]with
  |true=>rfl
  |false=>
   have:=oT e z.1;refine absurd ?_ z.2;obtain⟨a1,a2⟩:=a;obtain⟨b1,b2⟩:=b;simp only[sv,and_true]at this;rw[this.1,this.2]
open L2
theorem tE (a:Pl):¬A8 a a:=λz=>by unfold A8 at z;rw[gZ]at z;cases z
theorem A26 (h1:A8 a b)(h2:A8 b c):A8 a c:=jH h1 h2
theorem A6i {ks rs:List Pl}(hk:ks.Pairwise A8)(hr:rs.Pairwise A8)(hm:∀k,k∈ks↔k∈rs):ks=rs:=by
 induction ks generalizing rs with
 |nil=>
  cases rs with
  |nil=>rfl
  |cons r rs=>exact absurd ((hm r).mpr AX) (by simp)
 |cons k ks ih=>
  cases rs with
  |nil=>exact absurd ((hm k).mp AX) (by simp)
  |cons r rs=>
   rw[ff]at hk hr;have e:k=r:=by
    rcases di.mp ((hm k).mp AX)with e|h1
    ·exact e
    ·rcases di.mp ((hm r).mpr AX)with e|h2
     ·exact e.symm
     ·exact absurd (A26 (hr.1 k h1) (hk.1 r h2)) (tE r)
   subst e;rw[ih hk.2 hr.2 λx=> ?_];have nk:∀x,x∈ks->x≠k:=λx hx z=>by subst z;exact tE x (hk.1 x hx)
   have nr:∀x,x∈rs->x≠k:=λx hx z=>by subst z;exact tE x (hr.1 x hx)
   constructor
   ·intro hx;rcases di.mp ((hm x).mp (AW _ hx))with z|z
    ·exact absurd z (nk x hx)
    ·exact z
   ·intro hx;rcases di.mp ((hm x).mpr (AW _ hx))with z|z
    ·exact absurd z (nr x hx)
    ·exact z
noncomputable def wM (cs:List Pl)(b:Bool):Prop:=(cs=[]/\b=false)\/ ∃c0 tl P0,cs=c0::tl/\sG cs c0 P0/\b=decide (P0=cs)
noncomputable def B16 (a b:Pl):Bool:=decide ((Int.natAbs (a.1 - b.1):Int)+Int.natAbs (a.2 - b.2)=1)
end Wlk
namespace L2
open PySem PySem.Spec PyProof.Rows Srt
theorem uR [DecidableEq α](d:α)(cs ds:List α):((iq (min cs.length ds.length)).all (λj=>decide (cs.getD j d=ds.getD j d))&&cs.length==ds.length)=decide (cs=ds):=by
 rw[iy,i4,ae,decide_eq_true_eq,beq_iff_eq];constructor
 ·rintro⟨h1,h2⟩;refine aq h2 λj a b=> ?_;have:=of_decide_eq_true (h1 j (d5.mpr (by omega)));simpa[a,b]using this
 ·rintro rfl;exact⟨λj _=>AS rfl,rfl⟩
theorem fM:∀{l:List α}{m:List β}{i:Nat}{a:α},Paired F l m->l[i]?=some a->∃b,m[i]?=some b/\F a b:=λh e=>kD h e
theorem yN (I:Inv X ir σ H s)(hu:A.units+2<jt)(hp:A6 H p cs)(hq:A6 H q ds):nj A s (.ref p) (.ref q) (decide (cs=ds)):=by
 obtain⟨ps,h1,hP⟩:=hp;obtain⟨qs,h2,hQ⟩:=hq;obtain⟨us,r1,p1,_⟩:=I.tuple (A3.of (K:=X.K) h1);obtain⟨ws,r2,p2,_⟩:=I.tuple (A3.of (K:=X.K) h2);have e1:=iO r1;have e2:=iO r2;subst e1 e2;have l1:ps.length=cs.length:=Paired.length hP;have l2:qs.length=ds.length:=Paired.length hQ;have k:=qf (A:=A) (s:=s) (e:=λj=>decide (cs.getD j (0,0)=ds.getD j (0,0))) p1 p2 (by omega) (λj g1 g2=>by
  rw[fj,b8]at g1 g2;obtain⟨c,hc,he⟩:=hP.at (bq g1);obtain⟨d,hd,he2⟩:=hQ.at (bq g2);have ec:cs.getD j (0,0)=c:=by rw[bo,hc];rfl
  have ed:ds.getD j (0,0)=d:=by rw[bo,hd];rfl
  rw[ec,ed];have a1:(ps.map h8).toArray[j]'(by rw[fj,b8];exact g1)=h8 ps[j]:=by simp
  have a2:(qs.map h8).toArray[j]'(by rw[fj,b8];exact g2)=h8 qs[j]:=by simp
  rw[a1,a2];exact pJ I (show A.units+1<jt by omega) he he2)
 have e:((iq (min (ps.map h8).toArray.size (qs.map h8).toArray.size)).all (λj=>decide (cs.getD j (0,0)=ds.getD j (0,0)))&&(ps.map h8).toArray.size==(qs.map h8).toArray.size)=decide (cs=ds):=by
  rw[fj,fj,b8,b8,l1,l2];exact uR (0,0) cs ds
 rw[e]at k;exact k
theorem B07 (I:Inv X ir σ H s)(hu:A.units+2<jt)(hp:A6 H p cs)(hq:A6 H q ds):i5 A s (.ref p) (.ref q) (decide (cs=ds)):=by
 by_cases e:p=q
 ·subst e;rw[AS (hp.val hq)];exact sm _
 ·exact ve e (yN I hu hp hq)
theorem B3r (hu:X.A.units+2<jt):OpR X (jl .Eq) (λx y H Q=> ∃p q cs ds,x= .ref p/\y= .ref q/\A6 H p cs/\A6 H q ds/\Q (.bl (decide (cs=ds))) H):=by intro ir s σ H x y v u Q I rx ry h;obtain⟨p,q,cs,ds,rfl,rfl,h1,h2,hq⟩:=h;cases rx;cases ry;exact yN I hu h1 h2 X.prog X.w X.xe _ ⟨.bl _,H,I,rfl,hq⟩
theorem B0h (hu:X.A.units+3<jt):OpR X (jl .Eq) (λx y H Q=> ∃p q ps qs Ls Ms,x= .ref p/\y= .ref q/\H p=some (.lst ((ps:List gy).map V.ref))/\H q=some (.lst ((qs:List gy).map V.ref))/\Paired (A6 H) ps Ls/\Paired (A6 H) qs Ms/\Q (.bl (decide (Ls=Ms))) H):=by
 intro ir s σ H x y v u Q I rx ry h;obtain⟨p,q,ps,qs,Ls,Ms,rfl,rfl,h1,h2,hP,hQ,hq⟩:=h;cases rx;cases ry;obtain⟨us,r1,p1,_⟩:=I.list (A2.of (K:=X.K) h1);obtain⟨ws,r2,p2,_⟩:=I.list (A2.of (K:=X.K) h2);have e1:=iO r1;have e2:=iO r2;subst e1 e2;have l1:ps.length=Ls.length:=Paired.length hP;have l2:qs.length=Ms.length:=Paired.length hQ;by_cases el:Ls.length=Ms.length
 ·have k:=nj.lists (A:=X.A) (s:=s) (e:=λj=>decide (Ls.getD j []=Ms.getD j [])) p1.isList p2.isList (by simp[l1,l2,el]) (by omega) (λj g1 g2=>by
   rw[fj,b8]at g1 g2;obtain⟨c,hc,he⟩:=fM hP (bq g1);obtain⟨d,hd,he2⟩:=fM hQ (bq g2);have ec:Ls.getD j []=c:=by rw[bo,hc];rfl
   have ed:Ms.getD j []=d:=by rw[bo,hd];rfl
   rw[ec,ed];have a1:(ps.map h8).toArray[j]'(by rw[fj,b8];exact g1)=h8 ps[j]:=by simp
   have a2:(qs.map h8).toArray[j]'(by rw[fj,b8];exact g2)=h8 qs[j]:=by simp
   rw[a1,a2];exact B07 I (show X.A.units+1+2<jt by omega) he he2)
  have e:=uR [] Ls Ms;rw[el,Nat.min_self,beq_self_eq_true,Aa]at e;rw[show(ps.map h8).toArray.size=Ms.length by simp[l1,el],e]at k;exact k X.prog X.w X.xe _ ⟨.bl _,H,I,rfl,hq⟩
 ·rw[AU (λz=>el (congrArg kq z))]at hq;exact nj.lists_lengths p1.isList p2.isList (by simp[l1,l2,el]) (by omega) X.prog X.w X.xe _ ⟨.bl _,H,I,rfl,hq⟩
theorem A3h (hu:X.A.units+1<jt):OpR X (jl .NotEq) (λx y H Q=> ∃p q xs,x= .ref p/\y= .ref q/\H p=some (.tup xs)/\H q=some (.tup [])/\Q (.bl (!xs.isEmpty)) H):=by
 intro ir s σ H x y v u Q I rx ry h;obtain⟨p,q,xs,rfl,rfl,h1,h2,hq⟩:=h;cases rx;cases ry;obtain⟨us,r1,p1,_⟩:=I.tuple (A3.of (K:=X.K) h1);obtain⟨ws,r2,p2,_⟩:=I.tuple (A3.of (K:=X.K) h2);have e2:ws=[]:=by cases r2;rfl
 subst e2;have l1:=r1.length;have k:=ue (A:=X.A) (s:=s) (e:=λ_=>true) p1 p2 (by omega) (λj _ h2=>absurd h2 (by simp));have e:(!((iq (min us.toArray.size ([]:List gw).toArray.size)).all (λ_=>true)&&us.toArray.size==([]:List gw).toArray.size))= !xs.isEmpty:=by
  cases xs with
  |nil=>cases us with|nil=>rfl|cons _ _=>simp at l1
  |cons _ _=>cases us with|nil=>simp at l1|cons _ _=>simp
 rw[e]at k;exact k X.prog X.w X.xe _ ⟨.bl _,H,I,rfl,hq⟩
end L2
namespace Set4
open PySem PyProof.Rows
noncomputable def L (b0 b1 b2 b3:Bool):List Nat:=(cond b0 [0] [])++((cond b1 [1] [])++((cond b2 [2] [])++(cond b3 [3] [])))
noncomputable def cH (S:Nat->Bool):List Nat:=L (S 0) (S 1) (S 2) (S 3)
noncomputable def ents (l:List Nat)(f:Nat->gw):Array (Int×gw):=(l.map λk:Nat=>((k:Int),f k)).toArray
noncomputable def plus (S:Nat->Bool)(k:Nat):Nat->Bool:=λj=>S j||decide (j=k)
theorem oA:k∈cond b [i] []↔b=true/\k=i:=by cases b<;>simp
theorem mem_mem4:k∈cH S↔k<4/\S k=true:=by
 unfold cH L;rw[da,da,da,oA,oA,oA,oA];constructor
 ·rintro(⟨h,rfl⟩| ⟨h,rfl⟩| ⟨h,rfl⟩| ⟨h,rfl⟩)<;>exact⟨by decide,h⟩
 ·rintro⟨hk,hs⟩
  match k,hk with
  |0,_=>exact .inl ⟨hs,rfl⟩
  |1,_=>exact .inr (.inl ⟨hs,rfl⟩)
  |2,_=>exact .inr (.inr (.inl ⟨hs,rfl⟩))
  |3,_=>exact .inr (.inr (.inr ⟨hs,rfl⟩))
noncomputable def acc (val:Nat->Nat):Nat->Nat->Bool
 |0=>λ_=>false
 |i+1=>plus (acc val i) (val i)
noncomputable def slot (S:Nat->Bool)(i:Nat):Nat:=if i=0 then 0 else(cH S).getD (i - 1) 0+1
end Set4
namespace L2
open PySem PySem.Spec PyProof.Rows
theorem A5.updO (s:A5 p H H1)(hd:H d=none)(hp:PenAt H p):A5 p H (upd H1 d o):=by obtain⟨x,f,e⟩:=hp;have hne:p≠d:=bK e hd;obtain⟨x',f',e'⟩:=s.pen;exact⟨⟨x',f',by rw[bA hne];exact e'⟩,λb o hb h=>by rw[bA (bK h hd)];exact s.keep b o hb h⟩
theorem A5.none (s:A5 p H H1)(h:H1 b=yz):H b=yz/\b≠p:=by
 have hb:b≠p:=λz=>by
  obtain⟨x,f,e⟩:=s.pen;rw[z,e]at h;cases h
 refine⟨?_,hb⟩;cases e:H b with
 |none=>rfl
 |some o=>rw[s.keep b o hb e]at h;cases h
theorem A4a (Pv:Nat->St->Hp->Prop)(h0:Pv 0 σ H)(hl:∀i σ H,Pv i σ H->H d=some (.frz o (.dT kvs)))
  (hs:∀i k x p b σ H,kvs[i]?=some (k,x)->Pv i σ H->H p=none->H b=some (.tup (k.map kV))->g (.ref p) σ (upd H p (.tup [.ref b,x])) λσ2 H2=>tb {D with nx:=Pv (i+1),ct:=Pv (i+1),bk:=D.nx} σ2 H2)(hd:∀σ H,Pv kvs.length σ H->D.nx σ H):
  dF (Itm d o kvs) g tb D σ H:=by
 refine⟨λi m σ H=>m=kvs.length - i/\i<=kvs.length/\Pv i σ H,⟨kvs.length,by simp,gv _,h0⟩,?_⟩;rintro i m σ H ⟨rfl,hi,p⟩;by_cases AG:i<kvs.length
 ·refine .inr ⟨⟨hl i σ H p,AG⟩,Pv (i+1),λσ' H' p'=> ⟨kvs.length -(i+1),by omega,rfl,AG,p'⟩,λx H' y=> ?_⟩;obtain⟨pp,b,k,x',e1,e2,e3,e4,e5⟩:=y;subst e1 e3;exact hs i k x' pp b σ H e4 p e2 e5
 ·have e:i=kvs.length:=by omega
  subst e;exact .inl ⟨⟨hl _ σ H p,rfl⟩,hd σ H p⟩
end L2
namespace L2
open PySem PyProof.Rows
theorem PenAt.fresh (h:PenAt H p)(hl:H l=none):l≠p:=λz=>by
 obtain⟨x,f,e⟩:=h;rw[z,e]at hl;cases hl
theorem xS (he:PE X (.Name x pos) te)(hr:PAq X es t):PA X (.Name x pos::es) (cD te t):=aG he (jA hr)
theorem PenAt.same (h:PenAt H p)(s:Same H H'):PenAt H' p:=let ⟨x,y,e⟩:=h;⟨x,y,s _ _ e⟩
open PySem.Spec
noncomputable def Itv (K:W.Frag)(a:gy)(n:Nat):It:=
 ⟨λi H=>i<n/\∃xs,A2 K H a xs/\xs.length=n,λi H x H'=>H'=H/\∀xs,A2 K H a xs->xs[n - 1 - i]?=some x,λi _=>i=n⟩
theorem B0j {P:il}{w:i6}{K:W.Frag}{tg:j7}(a it:gy)(n:Nat):gA P w K tg (Itv K a n) [it] it (λi h=>h.IsRevIter it a ((n:Int) - 1 - i))where
 mem:=by simp
 obj:=λi h st b hb=>by
  have e:b=it:=by simpa using hb
  subst e;obtain⟨o,e,c,d⟩:=st;exact⟨o,e,λv z=>by rw[d]at z;cases z⟩
 keep:=λi h h' st k=>st.at λo e=>k it (by simp) o e
 item:=by
  intro X hP hw hK hc i ir s σ H E I hf st hg;subst hP hw hK;obtain⟨hi,xs,hq,hn⟩:=hg;obtain⟨i8,rv,p,hz⟩:=I.list hq;have AG:n - 1 - i<xs.length:=by omega
  obtain⟨u,hu,ru⟩:=rv.get (bq AG);obtain⟨f0,f1,f2,f3,f4,f5⟩:=hf it (by simp);have yv:s.heap.IsRevIter it a ((n - 1 - i:Nat):Int):=by
   have e:((n - 1 - i:Nat):Int)=(n:Int) - 1 - i:=by omega
   rw[e];exact st
  refine wpAny_pyNext_rev_item yv p.isList (x:=u) (by simpa using hu) λh' st2 sb=> ?_;have I1:Inv X ir σ H {s with heap:=h'}:=I.turned (t':=s.toks) (λb o hb e=>(sb.2 b hb).trans e) f0 f1 f3 f4 f5;obtain⟨o,e,c,d⟩:=id st2;refine⟨u,rfl,lL (s:={s with heap:=h'}) e c d (by decide) ⟨xs[n - 1 - i],H,I1,ru,⟨rfl,λys hy=>by rw[I.list_inj hy hq];exact bq AG⟩,?_,λb hb=>(hf b hb).1⟩⟩;have e2:((n:Int) - 1 -((i+1:Nat):Int))=((n - 1 - i:Nat):Int) - 1:=by omega
  rw[e2];exact st2
 done:=by
  intro X hP hw hK hc i ir s σ H E I hf st hg;subst hP hw hK;obtain⟨f0,f1,f2,f3,f4,f5⟩:=hf it (by simp);have yv:s.heap.IsRevIter it a (-1):=by
   have e:((n:Int) - 1 - i)= -1:=by have:i=n:=hg;omega
   rw[←e];exact st
  exact wpAny_pyNext_rev_end (I.ok.hd hc) yv λh' eb=> ⟨rfl,I.turned (t':=s.toks) (λb o hb e=>eb b o hb e) f0 f1 f3 f4 f5⟩
 self:=λ_ _ _ _ _ st h=>wpAny_pyIter_revIter st h
noncomputable def A8y (K:W.Frag)(ta:TA):TI:=λσ H R=>ta σ H λxs H1=> ∃a ys,xs=[.ref a]/\A2 K H1 a ys/\R (Itv K a ys.length) H1
theorem A40 {e:j7}{ta:TA}{p pos:Pos}(hg:Gl X "reversed")(hm:X.mg "reversed" =none)(ha:PA X [e] ta)(he:jo [e] X.env=[(false,mv e X.env)]:=by rfl):PI X tg (.Call (.Name "reversed" p) [e] [] pos) (A8y X.K ta):=by
 intro ir s σ H R I h;refine pk (iP I hg hm boot_reversed ?_ (by decide) (by decide));refine j9 (thn (ha pos ir s σ H _ I h) λus s1 ⟨vs,H1,I1,r1,q1⟩=> ?_) he rfl;obtain⟨a,ys,rfl,hq,q⟩:=q1;obtain⟨u,rfl,rx⟩:=fX r1;cases rx;obtain⟨i8,rv,pl,hz⟩:=I1.list hq;refine call_reversed_list pl.isList ?_;have hl:=rv.length;refine wpAny_pyIter_revIter (l:=a) (i:=((i8.toArray.size:Int) - 1)) ⟨_,fu _ rfl,rfl,rfl⟩ ?_;refine⟨s1.heap.objs.size,[s1.heap.objs.size],_,_,H1,rfl,I1.kept (t':=s1.toks) λb o e=>AQ _ e,B0j a _ ys.length,⟨_,fu _ rfl,rfl,?_⟩,λb hb=> ?_,q⟩
 ·show Data.fields #[h8 a,qb _]=_;have e:((i8.toArray.size:Int) - 1)=(ys.length:Int) - 1 -((0:Nat):Int):=by rw[fj,←hl];simp
  rw[e]
 ·have e:b=s1.heap.objs.size:=by simpa using hb
  subst e;exact I1.fpOk (AY _) (I1.hok.fresh (AY _))
theorem A9o {K:W.Frag}{a:gy}{xs:List V}{g:TG}{tb:TS}{D:eA}{σ:St}{H:Hp}(Pv:Nat->St->Hp->Prop)(h0:Pv 0 σ H)(hl:∀i σ H,i<=xs.length->Pv i σ H->A2 K H a xs)
  (hs:∀i x σ H,xs[xs.length - 1 - i]?=some x->i<xs.length->Pv i σ H->g x σ H λσ2 H2=>tb {D with nx:=Pv (i+1),ct:=Pv (i+1),bk:=D.nx} σ2 H2)(hd:∀σ H,Pv xs.length σ H->D.nx σ H):dF (Itv K a xs.length) g tb D σ H:=by
 refine⟨λi m σ H=>m=xs.length - i/\i<=xs.length/\Pv i σ H,⟨xs.length,by simp,gv _,h0⟩,?_⟩;rintro i m σ H ⟨rfl,hi,p⟩;by_cases AG:i<xs.length
 ·refine .inr ⟨⟨AG,xs,hl i σ H hi p,rfl⟩,Pv (i+1),λσ' H' q=> ⟨xs.length -(i+1),by omega,rfl,AG,q⟩,?_⟩;rintro x H' ⟨rfl,hx⟩;exact hs i x σ _ (hx xs (hl i σ _ hi p)) AG p
 ·have e:i=xs.length:=by omega
  subst e;exact .inl ⟨rfl,hd σ H p⟩
end L2
namespace L2
open PySem PyProof.Rows
theorem uW (xs:List V)(h:1<=xs.length):cJ xs (some 1) none=xs.drop 1:=by have e1:HT.sIx xs.length 0 (some 1)=min 1 xs.length:=HT.sIx_nat _ _ 1;have e2:HT.sIx xs.length xs.length none=xs.length:=rfl;unfold cJ;rw[e1,e2,show min 1 xs.length=1 by omega,fo (by rw[b5];omega)]
noncomputable def TusAt (H:Hp)(qs:List gy)(ts:List (List V)):Prop:=Paired (λq ys=>H q=some (.tup ys)) qs ts
theorem TusAt.same (h:TusAt H qs ts)(s:Same H H'):TusAt H' qs ts:=Paired.mapP h λ_ _ e=>s _ _ e
theorem xU (h1:Paired F l1 m1)(h2:Paired F l2 m2):Paired F (l1++l2) (m1++m2):=by
 induction h1 with
 |nil=>exact h2
 |cons r t ih=>exact .cons r ih
theorem vJ (h1:Paired F l1 m1):Paired F (l1.drop 1) m1.tail:=by
 cases h1 with
 |nil=>exact .nil
 |cons r t=>exact t
theorem B1y {J:It}{S:Hp->Prop}{l:gy}{qs:List gy}{ts:List (List V)}{H0:Hp}{rest:St}{Q:St->Hp->Prop}{te:TE}(f:List V->List V)(W:Wk J (qs.map V.ref) S)(hS:∀H',Same H0 H'->S H')(hC:TusAt H0 qs ts)(hl:H0 l=none)(hz:qs.length<=999)
  (ev:∀q ys H' Q',ys∈ts->H' q=some (.tup ys)->Same H0 H'->(∀t H2,Same H' H2->H2 t=some (.tup (f ys))->Q' (.ref t) H2)->te (some (.ref q)::rest) H' Q')
  (hQ:∀σ H' qs',Same H0 H'->H' l=some (.lst ((qs':List gy).map V.ref))->TusAt H' qs' (ts.map f)->Q σ H'):
  dF J (dL 0) (cS iE (fG l te)) (eC Q) (none::rest) (upd H0 l (.lst [])):=by
 have rg:qs.length=ts.length:=Paired.length hC;refine W (λi σ H'=>(∃x,σ=x::rest)/\Same H0 H'/\∃AE:List gy,H' l=some (.lst (AE.map V.ref))/\TusAt H' AE ((ts.take i).map f)) ⟨⟨_,rfl⟩,aY hl,[],by rw[aJ];rfl,.nil⟩ (λi σ H' _ h=>hS _ h.2.1) ?_ ?_
 ·rintro i x σ H' hx ⟨⟨x0,rfl⟩,hs,AE,zl,hP⟩;rw[br]at hx;cases hb:qs[i]? with
  |none=>rw[hb]at hx;cases hx
  |some b=>
   rw[hb]at hx;cases hx;have hi:i<qs.length:=(AR.mp hb).1;have hc:ts[i]?=some ts[i]:=bq (by omega);have he:H0 b=some (.tup ts[i]):=by
    have:∀{qs:List gy}{ts:List (List V)}{i:Nat}{b:gy}{y:List V},TusAt H0 qs ts->qs[i]?=some b->ts[i]?=some y->H0 b=some (.tup y):=by
     intro qs ts i b y h
     induction h generalizing i with
     |nil=>intro z;cases z
     |cons r t ih=>
      cases i with
      |zero=>intro z1 z2;cases z1;cases z2;exact r
      |succ i=>intro z1 z2;exact ih (by simpa using z1) (by simpa using z2)
    exact this hC hb hc
   have et:(ts.take (i+1)).map f=(ts.take i).map f++[f ts[i]]:=by rw[fq,hc,cx];rfl
   have hbl:AE.length=_:=Paired.length hP;rw[b8,cm]at hbl;refine iT ?_;refine ev b ts[i] H' _ (bx _) (hs _ _ he) hs λt H2 s2 ht=> ?_;have AF:=s2 _ _ zl;refine⟨_,AF,cG (by rw[b8];omega),⟨_,rfl⟩,λb2 u e=> ?_,AE++[t],?_,?_⟩
   ·rw[bA (bK e hl)];exact s2 _ _ (hs _ _ e)
   ·rw[aJ,cx];rfl
   ·rw[et];have up:∀b xs,H2 b=some (.tup xs)->(upd H2 l (.lst (AE.map V.ref++[.ref t]))) b=some (.tup xs):=λb xs e=>by rw[bA (λz=>by rw[z,AF]at e;cases e)];exact e
    exact Paired.snoc (Paired.mapP (hP.same s2) λ_ _ e=>up _ _ e) (up _ _ ht)
 ·rintro σ H' ⟨_,hs,AE,zl,hP⟩;rw[b8,rg,fo (AY _)]at hP;exact hQ σ H' AE hs zl hP
end L2
namespace Wlk
open PySem PyProof.Rows Srt Cyc Grd
noncomputable def oF (cs:List Pl):Prop:=cs≠[]/\∀C:List Pl,jC cs C->(∃x∈cs,x∈C)->∀y∈cs,y∈C
open Classical in
noncomputable def iI (cs:List Pl):Bool:=decide (oF cs)
theorem A0q (h:jC cs C):jC cs (cs.filter λx=> !decide (x∈C)):=λx hx y hy hcs=>by
 have hx':=dj.mp hx;refine dj.mpr ⟨hcs,?_⟩;have hn:x∉C:=by simpa using hx'.2
 have:y∉C:=λhyC=>hn (h y hyC x (A0j hy) hx'.1);simpa using this
theorem A86 (h0:c0∈cs)(h:∀C,jC cs C->c0∈C->∀y∈cs,y∈C):oF cs:=by
 refine⟨λz=> ?_,λC hC hx0=> ?_⟩
 ·rw[z]at h0;cases h0
 obtain⟨x,hx,hxC⟩:=hx0;by_cases z:c0∈C
 ·exact h C hC z
 ·have:=h _ (A0q hC) (dj.mpr ⟨h0,by simpa using z⟩) x hx;have:=(dj.mp this).2;simp[hxC]at this
open Classical in
theorem A1b (hu:cs.Pairwise A8)(h:wM cs b):b=iI cs:=by
 unfold iI;rcases h with⟨rfl,rfl⟩| ⟨c0,tl,P0,rfl,hP,rfl⟩
 ·exact(AU λz=>z.1 rfl).symm
 ·rw[iy,decide_eq_true_eq,decide_eq_true_eq];constructor
  ·intro e;refine A86 AX λC hC h0 y hy=> ?_;by_cases z:y∈C
   ·exact z
   ·have:=hP.min _ (A0q hC) ⟨y,by rw[e];exact hy,dj.mpr ⟨hy,by simpa using z⟩⟩;have:=(dj.mp this).2;simp[h0]at this
  ·intro hc;refine A6i hP.up hu λx=> ⟨λhx=>hP.sub x hx,λhx=> ?_⟩;exact hc.2 P0 hP.cl ⟨c0,AX,hP.st⟩ x hx
noncomputable def vX (met rest:List Pl):List Pl:=rest.filter λp=>met.any λo=>B16 o p
noncomputable def hstep (mr:List Pl×List Pl):List Pl×List Pl:=(mr.1++vX mr.1 mr.2,mr.2.filter λp=> !decide (p∈vX mr.1 mr.2))
noncomputable def hit:Nat->List Pl×List Pl->List Pl×List Pl
 |0,mr=>mr
 |n+1,mr=>hstep (hit n mr)
end Wlk
namespace L2
open PySem PyProof.Rows Wlk
theorem kZ {α:Type}{R:Hp->gy->α->Prop}(rx:∀{H H' q a},Ext H H'->R H q a->R H' q a){J:It}{S:Hp->Prop}{l:gy}{qs:List gy}{ts:List α}{H0:Hp}{rest:St}{Q:St->Hp->Prop}{tt:TT}(p:α->Bool)(W:Wk J (qs.map V.ref) S)(hS:∀H',Same H0 H'->S H')(hC:Paired (R H0) qs ts)(hl:H0 l=none)(hz:qs.length<=999)
  (tst:∀b c H' Q',c∈ts->R H' b c->Same H0 H'->(∀H2,Same H' H2->Q' (p c) H2)->tt (some (.ref b)::rest) H' Q')
  (hQ:∀σ H' qs',Same H0 H'->H' l=some (.lst ((qs':List gy).map V.ref))->Paired (R H') qs' (ts.filter p)->Q σ H'):
  dF J (dL 0) (cS tt (fG l (dY 0))) (eC Q) (none::rest) (upd H0 l (.lst [])):=by
 have rg:qs.length=ts.length:=Paired.length hC;refine W (λi σ H'=>(∃x,σ=x::rest)/\Same H0 H'/\∃AE:List gy,H' l=some (.lst (AE.map V.ref))/\Paired (R H') AE ((ts.take i).filter p)) ⟨⟨_,rfl⟩,aY hl,[],by rw[aJ];rfl,.nil⟩ (λi σ H' _ h=>hS _ h.2.1) ?_ ?_
 ·rintro i x σ H' hx ⟨⟨x0,rfl⟩,hs,AE,zl,hP⟩;rw[br]at hx;cases hb:qs[i]? with
  |none=>rw[hb]at hx;cases hx
  |some b=>
   rw[hb]at hx;cases hx;obtain⟨c,hc,he⟩:=fM hC hb;have hi:i<qs.length:=(AR.mp hb).1;have et:(ts.take (i+1)).filter p=(ts.take i).filter p++(if p c=true then [c]else []):=by
    rw[fq,hc,au]
    congr 1
    by_cases z:p c=true
    ·simp[z]
    ·simp[z]
   have hfl:=b7 p (ts.take i);rw[cm]at hfl;have hbl:AE.length=_:=Paired.length hP;refine tst b c H' _ (d3 hc) (rx hs.ext he) hs λH2 h2=> ?_;have AF:=h2 _ _ zl;refine cU (λhz'=> ?_) λhz'=> ?_
   ·have x2:Ext H2 (upd H2 l (.lst (AE.map V.ref++[.ref b]))):=Ext.updL AF;refine⟨_,rfl,_,AF,cG (by rw[b8];omega),⟨_,rfl⟩,λb2 u e=> ?_,AE++[b],?_,?_⟩
    ·rw[bA (bK e hl)];exact h2 _ _ (hs _ _ e)
    ·rw[aJ,cx];rfl
    ·rw[et,if_pos hz'];exact Paired.snoc (Paired.mapP hP λ_ _ e=>rx x2 (rx h2.ext e)) (rx x2 (rx (hs.ext.trans h2.ext) he))
   ·refine⟨⟨_,rfl⟩,hs.trans h2,AE,AF,?_⟩;rw[et,if_neg (by rw[hz'];decide),ak];exact Paired.mapP hP λ_ _ e=>rx h2.ext e
 ·rintro σ H' ⟨_,hs,AE,zl,hP⟩;rw[b8,rg,fo (AY _)]at hP;exact hQ σ H' AE hs zl hP
end L2
namespace PySem
theorem A2q (hit:s.heap.IsKeyIter it d i n ep)(h:Q (.ref it) s):ia (iu prog w) A (Af (.ref it)) Q E s:=by have hT:s.TypeIs (.ref it) "dict_keyiterator":=hit.typeIs;refine wj hT sx (ji sx hT F.entry_dict_keyiterator_iter ?_ (F.args_dict_keyiterator_iter_1 _));show ia _ _ (ret (.ref it)) _ _ s;exact AO ⟨_,rfl,"dict_keyiterator",_,hT,F.slot_dict_keyiterator_next.lookup,h⟩
end PySem
namespace L2
open PySem PySem.Spec PyProof.Rows
noncomputable def Itd (d:gy)(o:Obj)(kvs:List (Key×V)):It:=
 ⟨λi H=>H d=some (.frz o (.dK kvs))/\i<kvs.length,λi H v H'=>H'=H/\∃k x,kvs[i]?=some (k,x)/\v=kV k,λi H=>H d=some (.frz o (.dK kvs))/\i=kvs.length⟩
theorem A9d {κ:Type}{l:List (κ×V)}{m:List (κ×gw)}(r:KV l m):∀{j:Nat}{k:κ}{x:V},l[j]?=some (k,x)->∃u,m[j]?=some (k,u):=by
 induction r with
 |nil=>intro j k x h;simp at h
 |cons r t ih=>
  intro j k x h;cases j with
  |zero=>
   simp only[xn,kr]at h⊢;subst h;exact⟨_,rm r.1.symm rfl⟩
  |succ j=>simp only[xo]at h⊢;exact ih h
theorem B0z (h:(cW P w).is k u=true):RelV (kV k) u:=by
 rcases keyIs_shape h with⟨i,t,rfl,rfl⟩| ⟨x,t,rfl,rfl⟩
 ·exact⟨t,rfl⟩
 ·exact⟨t,rfl⟩
theorem A12 (hd:o.data= .dict ens ep)(x:ObjOk P w H h d (.frz o (.dK kvs))):∃vs,KV kvs vs/\h.DictAt (cW P w) d vs ep:=by obtain⟨ho,_,_,vs,r,o',es',ep',ho',hx',hd',rest⟩:=x;rw[ho]at ho';cases ho';rw[hd]at hd';cases hd';exact⟨vs,r,o,ens,ho,hx',hd,rest⟩
theorem A7e {P:il}{w:i6}{K:W.Frag}{tg:j7}(it d:gy)(o:Obj)(kvs:List (Key×V))(ens:Array Aw)(ep:Nat)(hd:o.data= .dict ens ep):
  gA P w K tg (Itd d o kvs) [it] it (λi h=>h.IsKeyIter it d i kvs.length ep)where
 mem:=by simp
 obj:=λi h st b hb=>by
  have e:b=it:=by simpa using hb
  subst e;obtain⟨o,e,c,d⟩:=st;exact⟨o,e,λv z=>by rw[d]at z;cases z⟩
 keep:=λi h h' st k=>by
  obtain⟨o,e,c⟩:=st;exact⟨o,k it (by simp) o e,c⟩
 item:=by
  intro X hP hw hK hc i ir s σ H E I hf st hg;subst hP hw hK;obtain⟨g1,g2⟩:=hg;obtain⟨vs,r,hm⟩:=A12 hd (show ObjOk X.prog X.w H s.heap d (.frz o (.dK kvs))from I.hok _ _ g1);have hl:kvs.length=vs.length:=Paired.length r;obtain⟨f0,f1,f2,f3,f4,f5⟩:=hf it (by simp);obtain⟨u,hu⟩:=A9d r (bq g2:kvs[i]?=some (kvs[i].1,kvs[i].2));have st0:s.heap.IsKeyIter it d i vs.length ep:=by rw[←hl];exact st
  refine wpAny_pyNext_dict_item st0 hm hu λkey h' hk st2 sb=> ?_;have I1:Inv X ir σ H {s with heap:=h'}:=I.turned (t':=s.toks) (λb o hb e=>(sb.2 b hb).trans e) f0 f1 f3 f4 f5;have st3:h'.IsKeyIter it d (i+1) kvs.length ep:=by rw[hl];exact st2
  obtain⟨o',e,c,d'⟩:=id st2;exact⟨key,rfl,lL (s:={s with heap:=h'}) e c d' (by decide) ⟨kV kvs[i].1,H,I1,B0z hk,⟨rfl,_,_,bq g2,rfl⟩,st3,λb hb=>(hf b hb).1⟩⟩
 done:=by
  intro X hP hw hK hc i ir s σ H E I hf st hg;subst hP hw hK;obtain⟨g1,g2⟩:=hg;obtain⟨vs,r,hm⟩:=A12 hd (show ObjOk X.prog X.w H s.heap d (.frz o (.dK kvs))from I.hok _ _ g1);have hl:kvs.length=vs.length:=Paired.length r;obtain⟨f0,f1,f2,f3,f4,f5⟩:=hf it (by simp);have st0:s.heap.IsKeyIter it d i vs.length ep:=by rw[←hl];exact st
  exact wpAny_pyNext_dict_end (I.ok.hd hc) st0 hm (List.getElem?_eq_none (by omega)) λh' eb=> ⟨rfl,I.turned (t':=s.toks) (λb o hb e=>eb b o hb e) f0 f1 f3 f4 f5⟩
 self:=λ_ _ _ _ _ st h=>A2q st h
noncomputable def A72 (td:TE):TI:=λσ H R=>td σ H λx H1=> ∃d kvs,x= .ref d/\H1 d=some (.dK kvs)/\∀o,R (Itd d o kvs) (upd H1 d (.frz o (.dK kvs)))
theorem rA {a:j7}{td:TE}(ha:PE X a td):PI X tg a (A72 td):=by intro ir s σ H R I h;refine thn (ha ir s σ H _ I h) λv s1 ⟨x,H1,I1,r1,d,kvs,e,q1,q⟩=> ?_;subst e;cases r1;obtain⟨_,hs,vs,rp,o,ens,ep,ho,hx,hd,rest⟩:=(show ObjOk X.prog X.w H1 s1.heap d (.dK kvs)from I1.hok _ _ q1);have hl:kvs.length=vs.length:=Paired.length rp;refine wpAny_pyIter_dict (knd:=cW X.prog X.w) hs ⟨o,ens,ho,hx,hd,rest⟩ ?_;have I2:=(I1.freeze (by rw[q1];trivial) q1 ho).kept (h':=s1.heap.push {cls:=.type "dict_keyiterator",data:=.fields #[.ref d,.int 0 0,.int vs.length 0,.int ep 0]}) (t':=s1.toks) λb ob e=>AQ _ e;refine⟨_,[_],_,_,_,rfl,I2,A7e _ d o kvs ens ep hd,⟨_,fu _ rfl,rfl,by rw[hl];rfl⟩,λc hc=> ?_,q o⟩;rw[d6.mp hc];exact I1.fpOk (AY _) (by rw[bA (gr (AV ho))];exact I1.hok.fresh (AY _))
theorem pG (Pv:Nat->St->Hp->Prop)(h0:Pv 0 σ H)(hl:∀i σ H,Pv i σ H->H d=some (.frz o (.dK kvs)))
  (hs:∀i k x σ H,kvs[i]?=some (k,x)->Pv i σ H->g (kV k) σ H λσ2 H2=>tb {D with nx:=Pv (i+1),ct:=Pv (i+1),bk:=D.nx} σ2 H2)(hd:∀σ H,Pv kvs.length σ H->D.nx σ H):
  dF (Itd d o kvs) g tb D σ H:=by
 refine⟨λi m σ H=>m=kvs.length - i/\i<=kvs.length/\Pv i σ H,⟨kvs.length,by simp,gv _,h0⟩,?_⟩;rintro i m σ H ⟨rfl,hi,p⟩;by_cases AG:i<kvs.length
 ·refine .inr ⟨⟨hl i σ H p,AG⟩,Pv (i+1),λσ' H' p'=> ⟨kvs.length -(i+1),by omega,rfl,AG,p'⟩,λv H' y=> ?_⟩;obtain⟨rfl,k,x,e4,rfl⟩:=y;exact hs i k x σ _ e4 p
 ·have e:i=kvs.length:=by omega
  subst e;exact .inl ⟨⟨hl _ σ H p,rfl⟩,hd σ H p⟩
end L2
namespace L2
open PySem PyProof.Rows
theorem mM [DecidableEq κ]:∀{l:List (κ×V)}{i:Nat}{k:κ}{x:V},(l.map (·.1)).Nodup->l[i]?=some (k,x)->cE l k=some x
 | [],_,_,_,_,h=>by simp at h
 | (k0,x0)::l,0,k,x,_,h=>by
  simp only[xn,kr,Ac]at h;obtain⟨rfl,rfl⟩:=h;simp[cE]
 | (k0,x0)::l,i+1,k,x,hn,h=>by
  rw[cz,d9]at hn;rw[xo]at h;have ne:k0≠k:=λe=>hn.1 (by rw[e];exact dv.mpr ⟨(k,x),d3 h,rfl⟩);have:=mM hn.2 h;unfold cE at this⊢;rw[ba (by simp[ne])];exact this
end L2
namespace L2
theorem B3s (i:Int)(ks:List Int):inV (.int i) (ks.map V.int)=decide (i∈ks):=by
 unfold inV;rw[ai]
 induction ks with
 |nil=>rfl
 |cons k ks ih=>
  rw[ag,ih];show(k==i||decide (i∈ks))=_;by_cases h:k=i
  ·subst h;simp
  ·have h':¬i=k:=λe=>h e.symm;simp[h,h']
theorem vQ:∀ks:List Int,(ks.map V.int).all iA=true
 | []=>rfl
 |_::ks=>by rw[cz,aa,vQ ks];rfl
open PySem PySem.Spec PyProof.Rows Srt
theorem B2m (hu:X.A.units+2<jt):OpR X (jl .NotEq) (λx y H Q=> ∃p q cs ds,x= .ref p/\y= .ref q/\A6 H p cs/\A6 H q ds/\Q (.bl (!decide (cs=ds))) H):=by
 intro ir s σ H x y v u Q I rx ry h;obtain⟨p,q,cs,ds,rfl,rfl,⟨ps,h1,hP⟩,⟨qs,h2,hQ⟩,hq⟩:=h;cases rx;cases ry;obtain⟨us,r1,p1,_⟩:=I.tuple (A3.of (K:=X.K) h1);obtain⟨ws,r2,p2,_⟩:=I.tuple (A3.of (K:=X.K) h2);have e1:=iO r1;have e2:=iO r2;subst e1 e2;have l1:ps.length=cs.length:=Paired.length hP;have l2:qs.length=ds.length:=Paired.length hQ;have k:=ue (A:=X.A) (s:=s) (e:=λj=>decide (cs.getD j (0,0)=ds.getD j (0,0))) p1 p2 (by omega) (λj g1 g2=>by
  rw[fj,b8]at g1 g2;obtain⟨c,hc,he⟩:=hP.at (bq g1);obtain⟨d,hd,he2⟩:=hQ.at (bq g2);have ec:cs.getD j (0,0)=c:=by rw[bo,hc];rfl
  have ed:ds.getD j (0,0)=d:=by rw[bo,hd];rfl
  rw[ec,ed];have a1:(ps.map h8).toArray[j]'(by rw[fj,b8];exact g1)=h8 ps[j]:=by simp
  have a2:(qs.map h8).toArray[j]'(by rw[fj,b8];exact g2)=h8 qs[j]:=by simp
  rw[a1,a2];exact pJ I (show X.A.units+1<jt by omega) he he2)
 rw[fj,fj,b8,b8,l1,l2,uR (0,0) cs ds]at k;exact k X.prog X.w X.xe _ ⟨.bl _,H,I,rfl,hq⟩
theorem B4x (hu:X.A.units+1<jt):OpR X (jl .Eq) (λx y H Q=> ∃p q xs,x= .ref p/\y= .ref q/\H p=some (.tup xs)/\H q=some (.tup [])/\Q (.bl xs.isEmpty) H):=by
 intro ir s σ H x y v u Q I rx ry h;obtain⟨p,q,xs,rfl,rfl,h1,h2,hq⟩:=h;cases rx;cases ry;obtain⟨us,r1,p1,_⟩:=I.tuple (A3.of (K:=X.K) h1);obtain⟨ws,r2,p2,_⟩:=I.tuple (A3.of (K:=X.K) h2);have e2:ws=[]:=by cases r2;rfl
 subst e2;have l1:=r1.length;have k:=qf (A:=X.A) (s:=s) (e:=λ_=>true) p1 p2 (by omega) (λj _ h2=>absurd h2 (by simp));have e:((iq (min us.toArray.size ([]:List gw).toArray.size)).all (λ_=>true)&&us.toArray.size==([]:List gw).toArray.size)=xs.isEmpty:=by
  cases xs with
  |nil=>cases us with|nil=>rfl|cons _ _=>simp at l1
  |cons _ _=>cases us with|nil=>simp at l1|cons _ _=>simp
 rw[e]at k;exact k X.prog X.w X.xe _ ⟨.bl _,H,I,rfl,hq⟩
end L2
namespace PySem
open PyProof.Rows
noncomputable abbrev zM1 (h:iw)(l1:gy):iw:=h.push {cls:=.type "list_iterator",data:=.fields #[.ref l1,.int 0 0]}
noncomputable abbrev zM2 (h:iw)(l1 l2:gy):iw:=(zM1 h l1).push {cls:=.type "tuple_iterator",data:=.fields #[.ref l2,.int 0 0]}
noncomputable abbrev zM3 (h:iw)(l1 l2:gy):iw:=(zM2 h l1 l2).push {cls:=.type "tuple",data:=.seq #[.ref h.objs.size,.ref (zM1 h l1).objs.size]}
noncomputable abbrev zM4 (h:iw)(l1 l2:gy):iw:=(zM3 h l1 l2).push {cls:=.type "tuple",data:=.seq #[.none,.none]}
noncomputable abbrev zM5 (h:iw)(l1 l2:gy):iw:=(zM4 h l1 l2).push {cls:=.type "zip",data:=.fields #[.none,.bool false,.bool false,.ref (zM2 h l1 l2).objs.size,.ref (zM3 h l1 l2).objs.size]}
theorem A8e (l1 l2:gy)(xs ys:Array gw):
  Meets (ic.«zip.__new__» ⟨[.type "zip",.ref l1,.ref l2],[]⟩) (λ_ R s=>s.heap.IsList l1 xs/\s.heap.IsTuple l2 ys/\R (.ok (.ret (.ref (zM4 s.heap l1 l2).objs.size))) {s with heap:=zM5 s.heap l1 l2}):=
 .of_wp λprog w A R s h=>by
  obtain⟨hp,g,d,tk,os⟩:=s;obtain⟨p1,p2,h⟩:=h;have isz:=sub_zip;have q1:iw.IsList (we ⟨hp,g,d,tk,os⟩) l1 xs:=p1;have q2:uj (we ⟨hp.push {cls:=.type "list_iterator",data:=.fields #[.ref l1,.int 0 0]},g,d,tk,os⟩) l2 ys:=let ⟨o,ho,r⟩:=p2;⟨o,AQ _ ho,r⟩
  wp_walk using n5 q1,kl q2
  exact⟨_,rfl,h⟩
theorem A98 (p1:s.heap.IsList l1 xs)(p2:s.heap.IsTuple l2 ys)
  (h:∀h',wg h' (s.heap.objs.size+4) (s.heap.objs.size+2) (s.heap.objs.size+3) .none->me h' (s.heap.objs.size+2) (.ref s.heap.objs.size) (.ref (s.heap.objs.size+1))->
   me h' (s.heap.objs.size+3) .none .none->h'.IsListIter s.heap.objs.size l1 0->h'.IsTupleIter (s.heap.objs.size+1) l2 0->h'.objs.size=s.heap.objs.size+5->
   (∀c o,s.heap.get? c=some o->h'.get? c=some o)->Q (.ref (s.heap.objs.size+4)) {s with heap:=h'}):
  ia (iu prog w) A (call (.type "zip") [.ref l1,.ref l2]) Q E s:=by
 refine An F.called_zip (by decide) (F.typeCall_zip_2 _ _) (F.newCall_zip_2 _ _) (λobj=>F.args_object_init_3 obj _ _) F.entry_zip_new (A8e l1 l2 xs ys) ⟨p1,p2,?_⟩;have y1:(zM1 s.heap l1).objs.size=s.heap.objs.size+1:=f6 ..;have y2:(zM2 s.heap l1 l2).objs.size=s.heap.objs.size+2:=by rw[f6,y1]
 have y3:(zM3 s.heap l1 l2).objs.size=s.heap.objs.size+3:=by rw[f6,y2]
 have y4:(zM4 s.heap l1 l2).objs.size=s.heap.objs.size+4:=by rw[f6,y3]
 have y5:(zM5 s.heap l1 l2).objs.size=s.heap.objs.size+5:=by rw[f6,y4]
 have r5:(zM5 s.heap l1 l2).get? (zM4 s.heap l1 l2).objs.size=some _:=fu _ rfl;have r4:(zM5 s.heap l1 l2).get? (zM3 s.heap l1 l2).objs.size=some _:=AQ _ (fu _ rfl);have r3:(zM5 s.heap l1 l2).get? (zM2 s.heap l1 l2).objs.size=some _:=AQ _ (AQ _ (fu _ rfl));have r2:(zM5 s.heap l1 l2).get? (zM1 s.heap l1).objs.size=some _:=AQ _ (AQ _ (AQ _ (fu _ rfl)));have r1:(zM5 s.heap l1 l2).get? s.heap.objs.size=some _:=AQ _ (AQ _ (AQ _ (AQ _ (fu _ rfl))));show _/\_;rw[y2,y3,y4]at r5;rw[y1,y2]at r3;rw[y3]at r4;rw[y1]at r2;rw[y4];exact⟨⟨_,r5,rfl⟩,h _ r5 r3 r4 ⟨_,r1,rfl,rfl⟩ ⟨_,r2,rfl,rfl⟩ y5 λc o x=>AQ _ (AQ _ (AQ _ (AQ _ (AQ _ x))))⟩
end PySem
namespace L2
open PySem PySem.Spec PyProof.Rows
noncomputable def B40 (K:W.Frag)(ta:TA):TI:=λσ H R=>ta σ H λvs H1=> ∃a b xs ys,vs=[.ref a,.ref b]/\A2 K H1 a xs/\A3 K H1 b ys/\R (Itz (λH xs=>A2 K H a xs) λH ys=>A3 K H b ys) H1
theorem A62 (hg:Gl X "zip")(hm:X.mg "zip" =none)(ha:PA X [a,b] ta)(hs:jo [a,b] X.env=[(false,mv a X.env),(false,mv b X.env)]:=by rfl)(hs2:jo [b] X.env=[(false,mv b X.env)]:=by rfl):
  PI X (.Tuple es x1 tpos) (.Call (.Name "zip" p) [a,b] [] pos) (B40 X.K ta):=by
 intro ir s σ H R I h;refine Call_ (iP I hg hm boot_zip (j9 (thn (ha pos ir s σ H _ I h) λus s1 ⟨vs,H1,I1,r1,q1⟩=> ?_) (by rw[hs,hs2]) (by rw[hs2];rfl)));obtain⟨a',b',xs,ys,e,q1,q2,q⟩:=q1;subst e;obtain⟨u,v,rfl,rx,ry⟩:=jX r1;cases rx;cases ry;obtain⟨i8,rv,p1⟩:=kL_ok.get I1 q1;obtain⟨jts,rw',p2⟩:=kT_ok.get I1 q2;have l1:=kL_ok.lt p1;have l2:=kT_ok.lt p2;refine A98 p1 p2 λh' a1 a2 a3 a4 a5 _ a7=> ?_;refine xl (s:={s1 with heap:=h'}) a1 ?_;have I2:Inv X ir σ H1 {s1 with heap:=h'}:=I1.kept (t':=s1.toks) a7;have far:=vW s1.heap.objs.size a' b' l1 l2;refine⟨s1.heap.objs.size+4,[s1.heap.objs.size+4,s1.heap.objs.size+2,s1.heap.objs.size+3,s1.heap.objs.size,s1.heap.objs.size+1],_,_,H1,rfl,I2,A0g kL_ok kT_ok _ _ _ _ _ a' b' far (gu l1) (gu (gp l2)),⟨a1,a2,⟨_,_,a3⟩,a4,a5⟩,λc hc'=> ?_,q⟩;have hge:s1.heap.objs.size<=c:=by
  simp only[di,fc,or_false]at hc';rcases hc' with rfl|rfl|rfl|rfl|rfl
  ·exact f7 _ 4
  ·exact f7 _ 2
  ·exact f7 _ 3
  ·exact AY _
  ·exact gb _
 exact I1.fpOk hge (I1.hok.fresh hge)
structure M2 (X:Cx)(o:j7)(m:Str)(apos:Pos)(e f:j7)(AK:Pos):Prop where
 base:zu o m X.env (mv o X.env)=mv o X.env
 few:((wt AK (jo [e,f] X.env)).all (λx=> !x.1)&&(backToKw AK (keywordEach [] X.env)).all (λx=>x.1.isSome)
  &&decide (([e,f]:List j7).length+([]:List Keyword).length+(if ([]:List Keyword).isEmpty then 0 else 1)<30))=true
 line:(apos.endLine==AK.line)=true
 trees:wt AK (jo [e,f] X.env)=[(false,mv e X.env),(false,mv f X.env)]
noncomputable def IsD (H:Hp)(a:gy):Prop:=(∃kvs,Rd H a (.dK kvs))\/ ∃kvs,Rd H a (.dT kvs)
theorem B1p (I:Inv X ir σ H s)(d:IsD H a):
  s.TypeIs (.ref a) "dict"/\(∀b,h8 a= .ref b->∃ob,s.heap.get? b=some ob/\ob.dict=none)/\(a==kj)=false:=by
 rcases d with⟨kvs,e⟩| ⟨kvs,e⟩
 ·obtain⟨_,hd,vs,_,dd⟩:=kC I.hok e;refine⟨dd.typeIs,λb q=> ?_,hd⟩;cases q;obtain⟨ob,_,_,h1,h2,_⟩:=dd;exact⟨ob,h1,h2.2.1⟩
 ·obtain⟨_,hd,xs,_,dd⟩:=kQ I.hok e;refine⟨dd.typeIs,λb q=> ?_,hd⟩;cases q;obtain⟨ob,_,_,h1,h2,_⟩:=dd;exact⟨ob,h1,h2.2.1⟩
theorem B0v (hu:A.units+1<jt)(I:Inv X ir σ H s)(g:DGet H a y o)(ry:RelV y u)(rd:RelV d r)(h:∀w' s',Inv X ir σ H s'->RelV (o.getD d) w'->Q w' s'):
  ia (iu X.prog X.w) A (call (.builtin "dict.get") [.ref a,u,r]) Q E s:=by
 rcases g with⟨kvs,k,e,ey,l⟩| ⟨kvs,k,b,e,ey,eb,l⟩
 ·subst ey;obtain⟨z,hd,vs,rel,dd⟩:=kC I.hok e;refine Aq l8 dd.typeIs qi (qa _ _ _) (meets_dict_get_default (cW X.prog X.w) a (jK ry) hd r) ⟨_,dd.mapOf,h _ _ (I.tok _) ?_⟩;rw[l];exact(rel.val k).getD rd
 ·subst ey;cases (show u=h8 b from ry);obtain⟨z,hd,xs,rel,dd⟩:=kQ I.hok e;refine Aq l8 dd.typeIs qi (qa _ _ _) (xp (qv (cW X.prog X.w)) a b hd r) ⟨pq hu,k,xs,kF I.hok eb,dd,h _ _ (I.tok _) ?_⟩;rw[l];exact(rel.val k).getD rd
noncomputable def A4e (td ty tx:TE):TE:=λσ H Q=>td σ H λx H1=> ∃a,x= .ref a/\IsD H1 a/\ty σ H1 λy H2=>tx σ H2 λz H3=> ∃o,DGet H3 a y o/\Q (o.getD z) H3
theorem B0f (hu:X.A.units+1<jt)(ho:PE X o td)(he:PE X e ty)(hf:PE X f tx)(m:M2 X o "get" apos e f AK):PE X (.Call (.Attribute o "get" apos) [e,f] [] AK) (A4e td ty tx):=by
 intro ir s σ H Q I h;refine wpAny_Call_method m.base m.few m.line p9 l8 yq (thn (ho ir s σ H _ I h) λu s1 ⟨x,H1,I1,rx,a,ex,d,q1⟩=> ?_);subst ex;obtain rfl:u=h8 a:=rx;obtain⟨t1,t2,_⟩:=B1p I1 d;refine⟨t1,t2,?_⟩;rw[m.trees];refine ni rfl (rq (nc (thn (he ir s1 σ H1 _ I1 q1) λiv s2 ⟨y,H2,I2,ry,q2⟩=>
  nc (thn (hf ir s2 σ H2 _ I2 q2) λfv s3 ⟨z,H3,I3,rz,ov,g,q3⟩=>vz ?_))))
 exact B0v hu I3 g ry rz λw' s4 I4 rw'=> ⟨_,H3,I4,rw',q3⟩
end L2
namespace Lk
open PySem PyProof.Rows L2
noncomputable abbrev KAt (prog:il)(w:i6)(h:iw)(k:List Key)(a:gy):Prop:=IsTupleKey (cW prog w) h k a
noncomputable abbrev hT (prog:il)(w:i6)(k:List Key):Int:=tupleKeyHash (cW prog w) k
noncomputable def dr1 (ks:List (List Key)):Nat:=(ks.map λk=>k.length+1).sum
noncomputable def drN (ks:List (List Key)):Nat:=dr1 ks+1
theorem A81 (ks:List (List Key))(k:List Key):dr1 (ks++[k])=dr1 ks+(k.length+1):=by unfold dr1;rw[cx,fk];simp
inductive P2 (R:gy->List Key->Prop):List gy->List (List Key)->Prop
 |nil:P2 R [] []
 |cons {a:gy} {k:List Key} {as:List gy} {ks:List (List Key)}:R a k->P2 R as ks->P2 R (a::as) (k::ks)
theorem P2.imp (h:P2 R as ks)(f:∀a k,R a k->S a k):P2 S as ks:=by
 induction h with
 |nil=>exact .nil
 |cons r _ ih=>exact .cons (f _ _ r) ih
theorem P2.len (h:P2 R as ks):as.length=ks.length:=by
 induction h with
 |nil=>rfl
 |cons _ _ ih=>rw[b4,b4,ih]
theorem P2.inj (f:∀a k l,R a k->S a l->k=l)(h:P2 R as ks)(g:P2 S as ls):ks=ls:=by
 induction h generalizing ls with
 |nil=>cases g;rfl
 |cons r _ ih=>cases g with|cons r' t'=>rw[f _ _ _ r r',ih t']
noncomputable def IsN (prog:il)(w:i6)(h:iw)(ks:List (List Key))(a:gy):Prop:=∃o items n bs,h.get? a=some o/\o.cls= .type "tuple"/\o.data= .seq items n/\items.toList=(bs:List gy).map h8/\P2 (λb k=>KAt prog w h k b) bs ks
noncomputable def hN (prog:il)(w:i6)(ks:List (List Key)):Int:=reduceHash (om (ks.map (hT prog w)))
theorem IsN.typeIs {s:h7}{ks:List (List Key)}{a:gy}(x:IsN prog w s.heap ks a):s.TypeIs (.ref a) "tuple":=let ⟨o,_,_,_,ho,hc,_⟩:=x;⟨o,ho,hc⟩
theorem IsN.inj (hx:IsN prog w h x a)(hy:IsN prog w h y a):x=y:=by
 obtain⟨o,items,n,bs,ho,_,hd,hi,k1⟩:=hx;obtain⟨o',items',n',AE,ho',_,hd',hi',k1'⟩:=hy;obtain rfl:o=o':=ig (ho.symm.trans ho');rw[hd]at hd';injection hd' with h1 _
 subst h1;rw[hi]at hi';have e:bs=AE:=by
  have inj:∀l1 l2:List gy,l1.map h8=l2.map h8->l1=l2:=by
   intro l1
   induction l1 with
   |nil=>intro l2 e;cases l2 with|nil=>rfl|cons _ _=>cases e
   |cons b l1 ih=>
    intro l2 e;cases l2 with
    |nil=>cases e
    |cons c l2=>simp only[cz,sv,h8.injEq]at e;rw[e.1,ih l2 e.2]
  exact inj _ _ hi'
 subst e;exact P2.inj (λa k l r r'=>r.inj r') k1 k1'
theorem A3b {bs:List gy}{v:gw}(h:v∈bs.map h8):∃b∈bs,v= .ref b:=by obtain⟨b,hb,e⟩:=dv.mp h;exact⟨b,hb,e.symm⟩
theorem P2.mem (h:P2 R as ks)(ha:a∈as):∃k,R a k:=by
 induction h with
 |nil=>cases ha
 |cons r _ ih=>
  rcases di.mp ha with rfl|h
  ·exact⟨_,r⟩
  ·exact ih h
theorem IsN.keeps (x:IsN prog w h ks a)(ho:h.get? d=some o)(hd:o.data= .dict es ep)(hs:ju d h h'):IsN prog w h' ks a:=by
 obtain⟨o',items,n,bs,ho',hc,hd',hi,k1⟩:=x;have hne:a≠d:=by
  rintro rfl;obtain rfl:o'=o:=ig (ho'.symm.trans ho);rw[hd]at hd';exact nomatch hd'
 exact⟨o',items,n,bs,(hs.2 a hne).trans ho',hc,hd',hi,k1.imp λ_ _ r=>r.keeps ho hd hs⟩
theorem B4w (hk:KAt prog w s.heap k a)(h:Q true s):ia (iu prog w) A (AA 7 (.ref a)) Q E s:=by
 have hT:=hk.typeIs;obtain⟨o,items,n,ho,_,hd,hi⟩:=hk;unfold AA;refine AN (ph hT sy.lookup ?_);show ia _ _ (isInstance (.ref a) (.type "tuple")>>=_) _ _ s;refine AN (oh hT qo ?_);simp only[pe,jb,if_false];refine AN (ki ho hd ?_);refine AN ?_;show ia _ _ (forIn items _ _) _ _ s;rw[←vk];refine og _ (λrest r s'=>r.1=none/\s'=s/\∀v∈rest,carriedByValue v=true) _ ?_ ?_ _ _ ⟨rfl,rfl,hi.byValue⟩
 ·rintro v rest r s' ⟨hr,rfl,hall⟩;rw[eqIsQuiet_byValue _ (hall v AX)];refine AN (AO ?_);simp only[pe,jb,if_false];exact AO ⟨rfl,rfl,λu hu'=>hall u (AW _ hu')⟩
 ·rintro⟨r1,r2⟩ s' ⟨hr,rfl,_⟩;simp only at hr;subst hr;exact AO h
theorem B19 {ks:List (List Key)}{a:gy}{Q:Bool->h7->Prop}(hk:IsN prog w s.heap ks a)(h:Q true s):ia (iu prog w) A (AA 8 (.ref a)) Q E s:=by
 have hT:=hk.typeIs;obtain⟨o,items,n,bs,ho,_,hd,hi,hP⟩:=hk;unfold AA;refine AN (ph hT sy.lookup ?_);show ia _ _ (isInstance (.ref a) (.type "tuple")>>=_) _ _ s;refine AN (oh hT qo ?_);simp only[pe,jb,if_false];refine AN (ki ho hd ?_);refine AN ?_;show ia _ _ (forIn items _ _) _ _ s;rw[←vk,hi];refine og _ (λrest r s'=>r.1=none/\s'=s/\∀v∈rest,∃b∈bs,v=h8 b) _ ?_ ?_ _ _ ⟨rfl,rfl,λv hv=>A3b hv⟩
 ·rintro v rest r s' ⟨hr,rfl,hall⟩;obtain⟨b,hb,rfl⟩:=hall v AX;obtain⟨k,hkb⟩:=hP.mem hb;refine AN (B4w hkb ?_);simp only[pe,jb,if_false];exact AO ⟨rfl,rfl,λu hu'=>hall u (AW _ hu')⟩
 ·rintro⟨r1,r2⟩ s' ⟨hr,rfl,_⟩;simp only at hr;subst hr;exact AO h
theorem B2v {ks:List (List Key)}{a:gy}{Q:Int->h7->Prop}(hu:A.units+1<jt)(hk:IsN prog w s.heap ks a)(h:Q (hN prog w ks) {s with toks:=s.toks+drN ks}):ia (iu prog w) A (pyHash (.ref a)) Q E s:=by
 have hT:=hk.typeIs;obtain⟨o,items,n,bs,ho,_,hd,hi,hP⟩:=hk;have hu0:A.units<jt:=gj hu;unfold pyHash
 first|unfold pyHashByItsType|skip
 first|refine AN (wpAny_cRoomFor_or (.inr hu0) ?_)|skip
 refine AN (ph hT qj.lookup ?_);show ia _ _ (if (some (gw.builtin "tuple.__hash__")==some jf)=true then _ else _) Q E s;rw[if_neg (by rw[beq_builtin_none];exact ib)];refine AN (ph hT qj.lookup ?_);show ia _ _ (callSpecialIfBoundUnlessNone? (.ref a) "__hash__" _>>=_) Q E s;refine AN (wpAny_callSpecialIfBoundUnlessNone?_slot hT qj (ji qj hT F.entry_tuple_hash ?_ (F.args_tuple_hash_1 _)));show ia _ _ (lu (.ref a)>>=_) _ _ s;refine AN (vm ho hd ?_);refine AN ?_;rw[←vk,hi];refine og _
  (λrest (g:Array Int) s'=> ∃AE ks' pre n,rest=(AE:List gy).map h8/\P2 (λb k=>KAt prog w s.heap k b) AE ks'/\pre++ks'=ks/\g.toList=pre.map (Lk.hT prog w)/\n=dr1 pre/\s'={s with toks:=s.toks+n})
  _ ?_ ?_ _ _ ⟨bs,ks,[],0,rfl,hP,rfl,rfl,rfl,rfl⟩
 ·rintro x rest g s' ⟨AE,ks',pre,n,hr,hP',hpre,hg,hn,rfl⟩;cases hP' with
  |nil=>cases hr
  | @cons b k AE ks' r t=>
   simp only[cz,sv]at hr;obtain⟨rfl,rfl⟩:=hr;refine AN (wpAny_pyHash_tuple (s:={s with toks:=s.toks+n}) (A:=A.in1) hu r ?_);have nxt:∃bs'' ks'' pre' n',AE.map h8=(bs'':List gy).map h8/\P2 (λb k=>KAt prog w s.heap k b) bs'' ks''/\pre'++ks''=ks/\(g.push ((Lk.hT prog w) k)).toList=pre'.map (Lk.hT prog w)/\n'=dr1 pre'/\({s with toks:=s.toks+n+(k.length+1)}:h7)={s with toks:=s.toks+n'}:=
    ⟨AE,ks',pre++[k],n+(k.length+1),rfl,t,by rw[aj];exact hpre,by rw[Array.toList_push,hg,cx];rfl,by rw[A81,hn],by rw[Nat.add_assoc]⟩
   first
    |exact AO nxt
    |exact AN (AO (AO nxt))
 ·rintro g s' ⟨AE,ks',pre,n,hr,hP',hpre,hg,hn,rfl⟩;have e:ks'=[]:=by
   cases hP' with
   |nil=>rfl
   |cons _ _=>cases hr
  subst e;rw[ak]at hpre;subst hpre;show ia _ _ (retInt (om g.toList)) _ _ _;rw[hg];refine wpAny_ret_mkInt ?_;subst hn;unfold drN at h;rw[←Nat.add_assoc]at h;unfold hN reduceHash at h;generalize om (pre.map (Lk.hT prog w))=hh at h⊢;show ia _ _ (if (decide (-(2:Int)^63<=hh)&&decide (hh<2^63))=true then _ else _) Q E _;by_cases hr:(decide (-(2:Int)^63<=hh)&&decide (hh<2^63))=true
  ·rw[if_pos hr];rw[if_pos hr]at h;exact AO h
  ·rw[if_neg hr];rw[if_neg hr]at h;exact AN (qw (AO h))
theorem A6a {x y:List (List Key)}{a b:gy}{P:Fin->h7->Prop}(hu:A.units<jt)(hx:IsN prog w s.heap x a)(hy:IsN prog w s.heap y b)(h:P (.done (.ret (.bool (decide (x=y))))) s):
  ia (iu prog w) A (ic.«tuple.__eq__» ⟨[.ref a,.ref b],[]⟩) P E s:=by
 have hTb:=hy.typeIs;obtain⟨oa,xs,na,bs,hoa,_,hda,hia,kx⟩:=hx;obtain⟨ob,ys,nb,cs,hob,_,hdb,hib,ky⟩:=hy;show ia _ _ (isInstance (.ref b) (.type "tuple")>>=_) _ _ s;refine AN (oh hTb qo ?_);simp only[pe,jb,if_false];refine AN (vm hoa hda ?_);refine AN (vm hob hdb ?_);refine AN ?_;rw[hia,hib];refine og _
  (λrest r s'=>r.1=none/\s'=s/\∃AE cs' ks ls pre,rest=((AE:List gy).map h8).zip ((cs':List gy).map h8)/\P2 (λb k=>KAt prog w s.heap k b) AE ks/\P2 (λb k=>KAt prog w s.heap k b) cs' ls/\x=pre++ks/\y=pre++ls)
  _ ?_ ?_ _ _ ⟨rfl,rfl,bs,cs,x,y,[],rfl,kx,ky,rfl,rfl⟩
 ·rintro⟨u,v⟩ rest r s' ⟨hr,rfl,AE,cs',ks,ls,pre,hz,k1,k2,ex,ey⟩;cases k1 with
  |nil=>cases hz
  | @cons b1 k AE ks r1 t1=>
   cases k2 with
   |nil=>cases hz
   | @cons c1 l cs' ls r2 t2=>
    simp only[cz,ft,sv,Ac]at hz;obtain⟨⟨rfl,rfl⟩,rfl⟩:=hz;refine AN (wpAny_eqBool_tuple hu r1 r2 ?_);by_cases hk:k=l
    ·rw[AS hk];simp only[pe,jb,if_false];exact AO ⟨rfl,rfl,AE,cs',ks,ls,pre++[k],rfl,t1,t2,by rw[ex,aj];rfl,by rw[ey,aj,hk];rfl⟩
    ·rw[AU hk];simp only[Bool.not_false,if_true];have hf':decide (x=y)=false:=AU λe=>hk (by
      rw[ex,ey]at e;exact(xa (List.append_cancel_left e)).1)
     rw[hf']at h;exact AN (AO (AO (AO h)))
 ·rintro⟨r1,r2⟩ s' ⟨hr,rfl,AE,cs',ks,ls,pre,hz,k1,k2,ex,ey⟩;simp only at hr;subst hr;refine AO ?_;have z1:xs.size=x.length:=by have:=congrArg kq hia;rw[b8,kx.len]at this;simpa using this
  have z2:ys.size=y.length:=by have:=congrArg kq hib;rw[b8,ky.len]at this;simpa using this
  show P (.done (.ret (.bool (xs.size==ys.size)))) s';rw[z1,z2];have e:(x.length==y.length)=decide (x=y):=by
   rw[iy,beq_iff_eq,decide_eq_true_eq];refine⟨λe=> ?_,λe=>by rw[e]⟩;rw[ex,ey,bz,bz]at e;have e':ks.length=ls.length:=by omega
   have:ks=[]\/ls=[]:=by
    cases k1 with
    |nil=>exact .inl rfl
    |cons _ _=>cases k2 with|nil=>exact .inr rfl|cons _ _=>cases hz
   rcases this with rfl|rfl
   ·rw[ex,ey,kh e'.symm]
   ·rw[ex,ey,kh e']
  rw[e];exact h
theorem B2e {x y:List (List Key)}{a b:gy}{Q:Bool->h7->Prop}(hu:A.units+1<jt)(hx:IsN prog w s.heap x a)(hy:IsN prog w s.heap y b)(h:Q (decide (x=y)) s):
  ia (iu prog w) A (eqBool (.ref a) (.ref b)) Q E s:=by
 unfold eqBool
 try with_reducible refine jw ?_
 show ia _ _ (if (h8 a==h8 b)=true then _ else _) Q E s;by_cases hab:(h8 a==h8 b)=true
 ·rw[if_pos hab];have e:a=b:=by have:=eq_of_beq hab;injection this
  subst e;obtain rfl:=IsN.inj hx hy;exact AN (qw (AO (by simpa using h)))
 ·rw[if_neg hab];exact AN (wpAny_richCompare_same_room (op:=.Eq) hx.typeIs hy.typeIs sy
   (ji sy hx.typeIs F.entry_tuple_eq (A6a hu hx hy ⟨_,rfl,(λe=>nomatch e),j8 h⟩) (F.args_tuple_eq_2 _ _)) (gj hu))
noncomputable def kY (prog:il)(w:i6):HeapKind prog w (List (List Key))where
 is:=IsN prog w
 hash:=hN prog w
 draws:=drN
 room:=λA=>A.units+1<jt
 inj:=λhx hy=>IsN.inj hx hy
 keeps:=λx ho hd hs=>x.keeps ho hd hs
 pyHash:=λhu hk h=>B2v hu hk h
 eqBool:=λhu hx hy h=>B2e hu hx hy h
 quiet:=λhk h=>B19 hk h
noncomputable abbrev kc (c:Int×Int):List Key:=[ie c.1,ie c.2]
theorem A1x:∀{ps:List gy}{i8:List gw},Vals (ps.map V.ref) i8->i8=ps.map h8
 | [],_,.nil=>rfl
 |p::ps,_,.cons r1 r2=>by cases r1;rw[A1x r2];rfl
theorem wP (ok:AZ P w H h)(e:A6 H a L):(kY P w).is h (L.map kc) a:=by
 obtain⟨ps,e1,e2⟩:=e;obtain⟨hz,i8,r,o,h1,h2,n,h3⟩:=(show ObjOk P w H h a (.tup (ps.map V.ref))from ok a _ e1);clear hz;have r':i8=ps.map h8:=A1x r;refine⟨o,_,n,ps,h1,h2,h3,by rw[r'],?_⟩;clear e1 h3 r r'
 induction e2 with
 |nil=>exact .nil
 |cons r _ ih=>exact .cons (kF ok (ks:=kc _) r) ih
noncomputable def nO (P:il)(w:i6)(d:gy)(xs:List (List (List Key)×gy×gw)):HO:=.ext λh=>(d==kj)=false/\∃o es ep,h.get? d=some o/\o.ExactDict/\o.data= .dict es ep/\es.toList=xs.map (Ae (kY P w))
theorem A6u (x:(d==kj)=false/\∃o es ep,h.get? d=some o/\o.ExactDict/\o.data= .dict es ep/\es.toList=xs.map (Ae (kY P w))):ObjOk P w H h d (nO P w d xs):=by refine⟨x,?_,λh1 h2 ⟨z,o,es,ep,ho,r⟩ k=> ⟨z,o,es,ep,k _ ho,r⟩⟩;obtain⟨_,o,_,_,ho,_⟩:=x;exact⟨o,ho⟩
structure A15 (P:il)(w:i6)(H:Hp)(d:gy)(AH:List (Int×Int)->Int)(xs:List (List (List Key)×gy×gw)):Prop where
 e:H d=some (nO P w d xs)
 k:∀x∈xs,∃L,x.1=L.map kc/\A6 H x.2.1 L
 nd:(xs.map (·.1)).Nodup
 v:∀L,(∃t,((zw xs (L.map kc)).map (·.2))=some (.int (AH L) t))\/(zw xs (L.map kc)=none/\AH L=0)
noncomputable def CostA (P:il)(w:i6)(H:Hp)(d:gy)(AH:List (Int×Int)->Int):Prop:=∃xs,A15 P w H d AH xs
theorem CostA.same (h:CostA P w H d AH)(s:Same H H'):CostA P w H' d AH:=
 let ⟨xs,c⟩:=h;⟨xs,s _ _ c.e,λx hx=>let ⟨L,e,q⟩:=c.k x hx;⟨L,e,A6.same q s⟩,c.nd,c.v⟩
noncomputable def A7o (P:il)(w:i6):TE:=λ_ H Q=> ∀p,H p=none->Q (.ref p) (upd H p (nO P w p []))
theorem xQ:PE X (.Dict [] [] pos) (A7o X.prog X.w):=λir s σ H Q I h=>
 xi ⟨.ref s.heap.objs.size,_,I.laid (a:=s.heap.objs.size) (o:=nO X.prog X.w s.heap.objs.size []) (t':=s.toks) (λ_ _ q=>AQ _ q) (AY _)
  (A6u ⟨beq_eq_false_iff_ne.mpr (k6 (gu I.big)),_,#[],0,fu _ rfl,⟨rfl,rfl,rfl⟩,rfl,rfl⟩),rfl,h _ (I.hok.fresh (AY _))⟩
theorem vU:CostA P w (upd H p (nO P w p [])) p λ_=>0:=⟨[],aJ,λx hx=>(by cases hx),fb,λL=> .inr ⟨rfl,rfl⟩⟩
noncomputable def A5k (P:il)(w:i6)(td ty tx:TE):TE:=λσ H Q=>td σ H λx H1=> ∃a AH,x= .ref a/\CostA P w H1 a AH/\ty σ H1 λy H2=>tx σ H2 λz H3=> ∃b L,y= .ref b/\z= .int 0/\CostA P w H3 a AH/\A6 H3 b L/\Q (.int (AH L)) H3
theorem A43 (hu:X.A.units+2<jt)(ho:PE X o td)(he:PE X e ty)(hf:PE X f tx)(m:M2 X o "get" apos e f AK):PE X (.Call (.Attribute o "get" apos) [e,f] [] AK) (A5k X.prog X.w td ty tx):=by
 intro ir s σ H Q I h;refine wpAny_Call_method m.base m.few m.line p9 l8 yq (thn (ho ir s σ H _ I h) λu s1 ⟨x,H1,I1,rx,a,AH,ex,d,q1⟩=> ?_);subst ex;obtain rfl:u=h8 a:=rx;have at':∀{H:Hp}{s:h7},Inv X ir σ H s->CostA X.prog X.w H a AH->(a==kj)=false/\∃xs,s.heap.DictOfH (kY X.prog X.w) a xs/\A15 X.prog X.w H a AH xs:=fun{H s} I c=>by
  obtain⟨xs,c⟩:=c;obtain⟨⟨z,o,es,ep,g,h1,h2,h3⟩,_,_⟩:=(show ObjOk X.prog X.w H s.heap a (nO X.prog X.w a xs)from I.hok _ _ c.e);exact⟨z,xs,⟨o,es,ep,g,h1,h2,h3,λx hx=>(by obtain⟨L,e,q⟩:=c.k x hx;rw[e];exact wP I.hok q),c.nd⟩,c⟩
 obtain⟨hs,xs,dd,_⟩:=at' I1 d;obtain⟨ob,_,_,g1,g2,_⟩:=id dd;refine⟨⟨ob,g1,g2.1⟩,(λc ec=> ⟨ob,(by cases ec;exact g1),g2.2.1⟩),?_⟩;rw[m.trees];refine ni rfl (rq (nc (thn (he ir s1 σ H1 _ I1 q1) λiv s2 ⟨y,H2,I2,ry,q2⟩=>
  nc (thn (hf ir s2 σ H2 _ I2 q2) λfv s3 ⟨z,H3,I3,rz,b,L,ey,ez,c3,sq,q3⟩=>vz ?_))))
 subst ey ez;obtain rfl:iv=h8 b:=ry;obtain⟨t,rfl⟩:=rz;obtain⟨hs3,xs3,dd3,cd⟩:=at' I3 c3;refine Aq l8 dd3.typeIs qi (qa _ _ _) (xp (kY X.prog X.w) a b hs3 _) ⟨hu,L.map kc,xs3,wP I3.hok sq,dd3,_,H3,I3.tok _,?_,q3⟩;rcases cd.v L with⟨t',e⟩| ⟨e,e0⟩
 ·rw[e];exact⟨t',rfl⟩
 ·rw[e,e0];exact⟨t,rfl⟩
end Lk
namespace PySem
open Sem (wp)
open AutoSeq1 (wpAny_loadPart')
set_option maxRecDepth 8000 in
theorem B3f (l:gy)(items:Array gw)(n:Nat)(b:gy)(items2:Array gw)(n2:Nat)(d1:Option gy)(l1:Array (Option gw))(hs0:¬(!items.isEmpty&&k5 (items.size+items2.size))=true)(hs1:items.size<=gz)(hs2:items.size+items2.size<=gz+1):
  Meets (ic.«list.extend» ⟨[.ref l,.ref b],[]⟩) (λ_ R s=>s.heap.get? l=some {cls:=.type "list",dict:=none,data:=.seq items n,slots:=#[]}/\s.heap.get? b=some {cls:=.type "tuple",dict:=d1,data:=.seq items2 n2,slots:=l1}/\R (.ok (.ret jf)) {s with heap:=s.heap.update l (ly λx=>x++items2),toks:=s.toks}):=
 .of_wp λprog w A R s h=>by
  obtain⟨hp,g,d,tk,os⟩:=s;obtain⟨hl,hb,h⟩:=h;have f1:=AutoSeq1.idx_int;have f2:=wu;have f3:=AutoSeq1.sub_list_list;have f4:=AutoSeq1.sub_tuple_list;have f5:=AutoSeq1.sub_list_tuple;have hz':(items++items2).size<=gz+1:=by rw[Array.size_append];exact hs2
  wp_walk using (tj hl rfl (hz:=hs1) (_hz':=hz')),jn hl,jn hb;exact⟨_,rfl,h⟩
end PySem
namespace L2
open PySem PySem.Spec PyProof.Rows
section
variable {X:Cx}
noncomputable def A92:V->List V->Hp->VK->Prop:=λx vs H Q=> ∃l b xs zs,x= .ref l/\vs=[.ref b]/\H l=some (.lst xs)/\H b=some (.tup zs)/\xs.length+zs.length<=gz/\Q .non (upd H l (.lst (xs++zs)))
theorem A42:MtM X "list.extend" A92:=by
 intro ir s σ H x vs v us Q I rx rv h;obtain⟨l,b,xs,zs,rfl,rfl,hH,hB,hz,q⟩:=h;cases rx;obtain⟨u,rfl,ru⟩:=rv.one;cases ru;obtain⟨z,i8,n,r,hl,e⟩:=I.lstM hH;obtain⟨its2,r2,pl,hz2⟩:=I.tuple (A3.of (K:=X.K) hB);obtain⟨⟨c1,d1,t1,l1⟩,ho,hc,n2,hd⟩:=id pl;simp only at hc hd;subst hc hd;have AF:=r2.length;have hsz:i8.toArray.size+its2.toArray.size<=gz:=by rw[fj,fj];omega
 have hlong:¬(!i8.toArray.isEmpty&&k5 (i8.toArray.size+its2.toArray.size))=true:=by
  rw[A1e hsz,yx];exact ib
 refine Ag F.slot_list_extend ⟨_,e,rfl⟩ F.entry_list_extend (F.args_list_extend_2 _ _)
  (B3f l i8.toArray n b its2.toArray n2 d1 l1 hlong (by rw[fj];omega) (by omega)) ⟨e,ho,?_⟩
 refine⟨.non,_,I.lset (its':=i8++its2) hH e (by simp) (r.append r2) ?_,rfl,q⟩;rw[bz];omega
end
end L2
namespace PySem
noncomputable def pW (prog:il)(w:i6)(A:kb)(G:iw->Prop)(P:Nat->gw->Prop)(bt:Nat->Nat->Bool):Prop:=
 ∀i j vi vj (s:h7)(Q E:gw->h7->Prop),G s.heap->P i vi->P j vj->Q (.bool (bt i j)) s->ia (iu prog w) A (richCompare .Lt vi vj) Q E s
noncomputable def A0x (wr:List gy)(S:gy)(G:iw->Prop):Prop:=∀h h':iw,G h->(∀b o,b∉wr->b≠S->h.get? b=some o->h'.get? b=some o)->G h'
noncomputable def mLs (v:gw)(c:Nat):Obj:={cls:=.type "list",dict:=none,data:=.seq #[v,v] c,slots:=#[]}
theorem nA:(toString "min" ++toString ".loop":String)= "min.loop":=by decide
theorem A49 (W:Walks prog w A.in1 I fp wr n P St)(hcmp:pW prog w A.in1 G P bt)(hSf:S∉fp)(hG:A0x wr S G):∀(k j:Nat)(s:h7)(vb:gw)(c:Nat),n=j+1+k->St (j+1) s.heap->G s.heap->P (um bt j) vb->s.heap.get? S=some (mLs vb c)->
   (∀v h' tk,P (um bt (n - 1)) v->(∀b o,b∉wr->b≠S->s.heap.get? b=some o->h'.get? b=some o)->R (.ok (.ret v)) {s with heap:=h',toks:=tk})->qc (iu prog w) A (.builtin "min.loop" ⟨[.ref I,.none,.ref S],[]⟩) R s:=by
 have nw:S∉wr:=λh=>hSf (W.sub _ h);intro k
 induction k with
 |zero=>
  intro j s vb c hn st g pb eS hR;refine ym xq ?_;rw[sh lp _];refine AN (m:=zk (.ref S)) (ki eS rfl (AN (m:=tryCatch (uv (.ref I)) _) (vn (W.done s _ _ (by rw[hn];exact st) λh1 tk k1=> ?_))));refine AN (m:=updateSeq S (λ_=> #[])) (tj (k1 S _ nw eS) rfl (AN (p8 (AO (hR vb _ tk ?_ λb o b1 b2 e=> ?_)))))
  ·rw[show n - 1=j by omega];exact pb
  ·rw[fw _ _ (k6 b2)];exact k1 b o b1 e
 |succ k ih=>
  intro j s vb c hn st g pb eS hR;refine ym xq ?_;rw[sh lp _];refine AN (m:=zk (.ref S)) (ki eS rfl (AN (m:=tryCatch (uv (.ref I)) _) (vn (W.item (j+1) s _ _ (by omega) st λv h1 tk pv st1 k1=> ?_))));have eS1:=k1 S _ nw eS;have g1:G h1:=hG _ _ g λb o b1 _ e=>k1 b o b1 e;refine AN (m:=tryCatch (xv [v,v] (richCompare .Lt v vb>>=_)) _) (vn (jw (AN (hcmp (j+1) (um bt j) v vb _ _ _ g1 pv pb (AN (jw (j8 (AN (p8 (AO ?_))))))))));cases hb:bt (j+1) (um bt j)with
  |true=>
   simp only[if_true];refine AN (m:=updateSeq S _) (tj eS1 rfl (AN (p8 ?_)));rw[nA];have keep:∀b o,b≠S->h1.get? b=some o->(h1.update S (ly λ_=> #[v,v])).get? b=some o:=λb o z e=>by rw[fw _ _ (k6 z)];exact e
   refine AO ⟨xb lp _,ih (j+1) _ v _ (by omega) (W.frame _ _ _ st1 λb z o e=>keep b o (λy=>hSf (y▸z)) e) (hG _ _ g1 λb o _ z e=>keep b o z e) (by simp only[um,hb,if_true];exact pv) (fz _ eS1 rfl) λv' h2 tk2 pv' k2=> ?_⟩;exact hR v' h2 tk2 pv' λb o b1 b2 e=>k2 b o b1 b2 (keep b o b2 (k1 b o b1 e))
  |false=>
   simp only[jb,if_false];refine AN (p8 ?_);rw[nA];refine AO ⟨xb lp _,ih (j+1) _ vb c (by omega) st1 g1 (by simp only[um,hb,jb,if_false];exact pb) eS1 λv' h2 tk2 pv' k2=> ?_⟩;exact hR v' h2 tk2 pv' λb o b1 b2 e=>k2 b o b1 b2 (k1 b o b1 e)
theorem A5d (W:Walks prog w A.in1 I fp wr n P St)(hcmp:pW prog w A.in1 G P bt)(hSf:S∉fp)(hG:A0x wr S G)(h0:0<n)(st:St 0 s.heap)(g:G s.heap)
  (eS:s.heap.get? S=some {cls:=.type "list",dict:=none,data:=.seq #[] c,slots:=#[]})
  (hR:∀v h' tk,P (um bt (n - 1)) v->(∀b o,b∉wr->b≠S->s.heap.get? b=some o->h'.get? b=some o)->R (.ok (.ret v)) {s with heap:=h',toks:=tk}):qc (iu prog w) A (.builtin "min.loop" ⟨[.ref I,.none,.ref S],[]⟩) R s:=by
 have nw:S∉wr:=λh=>hSf (W.sub _ h);refine ym xq ?_;rw[sh lp _];refine AN (m:=zk (.ref S)) (ki eS rfl (AN (m:=tryCatch (uv (.ref I)) _) (vn (W.item 0 s _ _ h0 st λv h1 tk pv st1 k1=> ?_))));have eS1:=k1 S _ nw eS;refine AN (m:=updateSeq S (λ_=> #[v,v])) (tj eS1 rfl ?_);rw[nA];have keep:∀b o,b≠S->h1.get? b=some o->(h1.update S (ly λ_=> #[v,v])).get? b=some o:=λb o z e=>by rw[fw _ _ (k6 z)];exact e
 refine AO ⟨xb lp _,A49 W hcmp hSf hG (n - 1) 0 _ v _ (by omega) (W.frame _ _ _ st1 λb z o e=>keep b o (λy=>hSf (y▸z)) e) (hG _ _ g λb o b1 b2 e=>keep b o b2 (k1 b o b1 e)) pv (fz _ eS1 rfl) λv' h2 tk2 pv' k2=> ?_⟩;exact hR v' h2 tk2 pv' λb o b1 b2 e=>k2 b o b1 b2 (keep b o b2 (k1 b o b1 e))
theorem A8s (hh:A.handled=none)(g:G s.heap)(hG:∀h h':iw,G h->(∀b o,s.heap.get? b≠none->h.get? b=some o->h'.get? b=some o)->G h')
  (hcmp:pW prog w A.in1 G (λi v=>(#[a,b]:Array gw)[i]?=some v) bt)
  (h:∀h' tk,(∀c o,s.heap.get? c=some o->h'.get? c=some o)->Q (if bt 1 0=true then b else a) {s with heap:=h',toks:=tk}):ia (iu prog w) A (call (.builtin "min") [a,b]) Q E s:=by
 refine call_function_tree F.kind_min F.plain_min F.entry_min (F.args_min2 _ _) ?_;refine AN (m:=uo "min" ["key","default"] 0 ⟨[],[]⟩) (y7 (show uo "min" ["key","default"] 0 ⟨[],[]⟩=pure [none,none]from rfl) ?_);have hT:(s.heap.push {cls:=.type "tuple",data:=.seq #[a,b]}).IsTuple s.heap.objs.size #[a,b]:=⟨_,fu _ rfl,rfl,0,rfl⟩;refine AN (m:=newTuple [a,b]) (i9 (AN (kl hT ?_)));have hsz:(s.heap.push {cls:=.type "tuple",data:=.seq #[a,b]}).objs.size=s.heap.objs.size+1:=f6 ..;refine AN (i9 ?_);rw[nA];dsimp only
 generalize eI:(s.heap.push {cls:=.type "tuple",data:=.seq #[a,b]}).objs.size=I at hsz;have W:=Walks.tuple (prog:=prog) (w:=w) (A:=A.in1) hh I s.heap.objs.size (by rw[hsz];exact gu (gq _)) #[a,b];have eit:((s.heap.push {cls:=.type "tuple",data:=.seq #[a,b]}).push {cls:=.type "tuple_iterator",data:=.fields #[.ref s.heap.objs.size,.int 0 0]}).get? (s.heap.push {cls:=.type "tuple",data:=.seq #[a,b]}).objs.size=some {cls:=.type "tuple_iterator",data:=.fields #[.ref s.heap.objs.size,.int 0 0]}:=fu _ rfl;have up:∀{c:gy}{o:Obj},s.heap.get? c=some o->((s.heap.push {cls:=.type "tuple",data:=.seq #[a,b]}).push {cls:=.type "tuple_iterator",data:=.fields #[.ref s.heap.objs.size,.int 0 0]}).get? c=some o:=λe=>AQ _ (AQ _ e);have hT2:=hT.push {cls:=.type "tuple_iterator",data:=.fields #[.ref s.heap.objs.size,.int 0 0]};have sz2:((s.heap.push {cls:=.type "tuple",data:=.seq #[a,b]}).push {cls:=.type "tuple_iterator",data:=.fields #[.ref s.heap.objs.size,.int 0 0]}).objs.size=I+1:=by rw[f6,eI]
 rw[eI]at eit;generalize ((s.heap.push {cls:=.type "tuple",data:=.seq #[a,b]}).push {cls:=.type "tuple_iterator",data:=.fields #[.ref s.heap.objs.size,.int 0 0]})=h2 at eit up hT2 sz2⊢;have lo:∀{c:gy},s.heap.get? c≠none->c<s.heap.objs.size:=fun{c} z=>by
  cases e:s.heap.get? c with
  |none=>exact absurd e z
  |some o=>exact AV e
 have n1:∀{c:gy},s.heap.get? c≠none->c≠I/\c≠h2.objs.size:=fun{c} z=>by
  have:=lo z;rw[sz2,hsz];exact⟨gu (gp this),gu (gp (gp this))⟩
 have nn:∀{c:gy}{o:Obj},s.heap.get? c=some o->s.heap.get? c≠none:=λe z=>by rw[e]at z;cases z
 refine AO ⟨xb lp _,A5d W hcmp (S:=h2.objs.size) ?_ ?_ (Nat.succ_pos 1) ?_ ?_ (fu _ rfl) λv h' tk pv k=> ?_⟩
 ·rw[sz2];intro hm;rcases di.mp hm with z|hm
  ·exact absurd z (xj _)
  ·have z:=d6.mp hm;rw[hsz]at z;exact absurd z (gr (gp (gq _)))
 ·exact λx y gx k=>hG x y gx λc o z e=>k c o (λm=>(n1 z).1 (d6.mp m)) (n1 z).2 e
 ·exact⟨⟨_,AQ _ eit,rfl,rfl⟩,hT2.push _⟩
 ·refine hG _ _ g λc o z e=> ?_;exact AQ _ (up e)
 ·have hq:=h h' tk λc o e=>k c o (λm=>(n1 (nn e)).1 (d6.mp m)) (n1 (nn e)).2 (AQ _ (up e));have hv:v=if bt 1 0=true then b else a:=by
   have pv:(#[a,b]:Array gw)[um bt 1]?=some v:=pv;by_cases z:bt 1 0=true
   ·simp only[um,z,if_true]at pv⊢;simpa using pv.symm
   ·simp only[um,z,if_false]at pv⊢;simpa using pv.symm
  rw[hv];exact hq
end PySem
namespace L2
open PySem PySem.Spec PyProof.Rows
theorem A51 (hc:X.calm=true)(hu:X.A.units+1<jt):eO X (.builtin "min") (λxs H Q=> ∃(p r:gy)(ns ms:List Int),xs=[.ref p,.ref r]/\H p=some (.tup (ns.map V.int))/\H r=some (.tup (ms.map V.int))/\Q (.ref (if HT.lexLt ms ns=true then r else p)) H):=by
 intro ir s σ H xs us Q I r h;obtain⟨p,r',ns,ms,rfl,hp,hr,q⟩:=h;obtain⟨u,v,rfl,ru,rv⟩:=jX r;cases ru;cases rv;obtain⟨i8,r1,p1,_⟩:=I.tuple (A3.of (K:=X.K) hp);obtain⟨its2,r2,p2,_⟩:=I.tuple (A3.of (K:=X.K) hr);have i1:m4 i8.toArray.toList ns:=nB r1;have i2:m4 its2.toArray.toList ms:=nB r2;obtain⟨o1,g1,c1⟩:=id p1;obtain⟨o2,g2,c2⟩:=id p2;refine A8s (G:=λh=>h.get? p=some o1/\h.get? r'=some o2) (bt:=λi j=>HT.lexLt (if i=0 then ns else ms) (if j=0 then ns else ms)) (I.ok.hd hc) ⟨g1,g2⟩ (λh h' g k=> ⟨k _ _ (by rw[g1];simp) g.1,k _ _ (by rw[g2];simp) g.2⟩) ?_ λh' tk k=> ?_
 ·intro i j vi vj s' Q' E' g hi hj hq;have key:∀(i:Nat)(v:gw),(#[h8 p,h8 r']:Array gw)[i]?=some v->∃(b:gy)(i8:Array gw),v= .ref b/\xc s'.heap b i8/\m4 i8.toList (if i=0 then ns else ms):=λi v e=>by
   match i,e with
   |0,e=>exact⟨p,_,by simpa using e.symm,⟨o1,g.1,c1⟩,i1⟩
   |1,e=>exact⟨r',_,by simpa using e.symm,⟨o2,g.2,c2⟩,i2⟩
   |i+2,e=>simp at e
  obtain⟨b,its1,rfl,t1,k1⟩:=key i vi hi;obtain⟨b',its2,rfl,t2,k2⟩:=key j vj hj;exact HT.lt_tupInts (A:=X.A.in1) t1 t2 k1 k2 hu hq
 ·refine⟨.ref _,H,I.kept (h':=h') (t':=tk) λb o e=>k b o e,?_,q⟩;show(if HT.lexLt ms ns=true then h8 r' else h8 p)=_
  split<;>rfl
end L2
namespace Wy
open PySem
theorem snoc_ind {α:Type}{P:List α->Prop}(h0:P [])(h1:∀l a,P l->P (l++[a]))(l:List α):P l:=by
 have:∀r:List α,P r.reverse:=by
  intro r
  induction r with
  |nil=>exact h0
  |cons a r ih=>rw[List.reverse_cons];exact h1 _ _ ih
 have h:=this l.reverse
 rwa [List.reverse_reverse]at h
section
variable {α:Type}
noncomputable def V4 (C:List α)(f:α->Int):Int:=C.foldl (λm c=>m*4+f c) 0
theorem V4_snoc (C:List α)(c:α)(f:α->Int):V4 (C++[c]) f=V4 C f*4+f c:=by unfold V4;rw[bj];rfl
theorem V4_add (f g:α->Int)(C:List α):V4 C (λc=>f c+g c)=V4 C f+V4 C g:=by refine snoc_ind (P:=λC=>V4 C (λc=>f c+g c)=V4 C f+V4 C g) rfl (λC c ih=> ?_) C;rw[V4_snoc,V4_snoc,V4_snoc,ih];omega
theorem V4_mul (h:Int)(f:α->Int)(C:List α):V4 C (λc=>h*f c)=h*V4 C f:=by refine snoc_ind (P:=λC=>V4 C (λc=>h*f c)=h*V4 C f) (Int.mul_zero h).symm (λC c ih=> ?_) C;rw[V4_snoc,V4_snoc,ih,r6,j5]
theorem V4_congr {f g:α->Int}{C:List α}(h:∀c∈C,f c=g c):V4 C f=V4 C g:=by
 revert h
 refine snoc_ind (P:=λC=>(∀c∈C,f c=g c)->V4 C f=V4 C g) (λ_=>rfl) (λC c ih h=> ?_) C;rw[V4_snoc,V4_snoc,ih λd hd=>h d (de _ hd),h c (dh _ AX)]
noncomputable def Fig (C:List α)(f:α->Int):Prop:=∀c∈C,0<=f c/\f c<4
theorem Fig.init (h:Fig (C++[c]) f):Fig C f/\0<=f c/\f c<4:=⟨λd hd=>h d (de _ hd),h c (dh _ AX)⟩
theorem uT {f:α->Int}{C:List α}(h:Fig C f):0<=V4 C f/\V4 C f<4^C.length:=by
 revert h
 refine snoc_ind (P:=λC=>Fig C f->0<=V4 C f/\V4 C f<4^C.length) (λ_=> ⟨m6 _,(by decide:(0:Int)<1)⟩) (λC c ih h=> ?_) C;have h1:=ih h.init.1;have h2:=h.init.2;rw[V4_snoc,bz,cj,Int.pow_succ];omega
theorem A2v {f g:α->Int}{C:List α}(hf:Fig C f)(hg:Fig C g)(e:V4 C f=V4 C g):∀c∈C,f c=g c:=by
 revert hf hg e
 refine snoc_ind (P:=λC=>Fig C f->Fig C g->V4 C f=V4 C g->∀c∈C,f c=g c) (λ_ _ _ c hc=>by cases hc) (λC c ih hf hg e=> ?_) C;rw[V4_snoc,V4_snoc]at e;have h1:=hf.init.2;have h2:=hg.init.2;intro d hd;rcases da.mp hd with z|z
 ·exact ih hf.init.1 hg.init.1 (by omega) d z
 ·rw[d6.mp z];omega
theorem xG (f:α->Int)(c:α)(C:List α):V4 (c::C) f=f c*4^C.length+V4 C f:=by refine snoc_ind (P:=λC=>V4 (c::C) f=f c*4^C.length+V4 C f) (by show 0*4+f c=f c*1+0;omega) (λC d ih=> ?_) C;rw[←List.cons_append,V4_snoc,V4_snoc,ih,bz,cj,Int.pow_succ,←j5];omega
theorem V4_lex:∀{C:List α},Fig C f->Fig C g->(HT.lexLt (C.map f) (C.map g)=true↔V4 C f<V4 C g)
 | [],_,_=>Iff.intro (λh=>by cases h) (λh=>by cases h)
 |c::C,hf,hg=>by
  have hf':Fig C f:=λd hd=>hf d (AW _ hd);have hg':Fig C g:=λd hd=>hg d (AW _ hd);have ih:=V4_lex hf' hg';have r1:=uT hf';have r2:=uT hg';rw[cz,cz,HT.lexLt_cons,xG,xG];generalize (4:Int)^C.length=N at r1 r2;by_cases e:f c=g c
  ·rw[if_pos e,ih,e];omega
  ·rw[if_neg e,decide_eq_true_eq];constructor
   ·intro h;have:f c*N+N<=g c*N:=by
     have:=kd (show f c+1<=g c by omega) (show 0<=N by omega)
     rwa [wo,Int.one_mul]at this
    omega
   ·intro h;by_cases z:f c<g c
    ·exact z
    ·have:g c*N+N<=f c*N:=by
      have:=kd (show g c+1<=f c by omega) (show 0<=N by omega)
      rwa [wo,Int.one_mul]at this
     omega
end
section
variable {α:Type} [DecidableEq α]
noncomputable def ind (A:List α)(c:α):Int:=if c∈A then 1 else 0
noncomputable def mk (C A:List α):Int:=V4 C (ind A)
theorem sE (C A:List α):Fig C (ind A):=λc _=>by unfold ind;split<;>decide
theorem mk_ran (C A:List α):0<=mk C A/\mk C A<4^C.length:=uT (sE C A)
theorem A61 (x y a b:Nat)(ha:a<4)(hb:b<4):(x*4+a)&&&(y*4+b)=(x&&&y)*4+(a&&&b):=by
 have h1:((x*4+a)&&&(y*4+b))/2^2=(x&&&y):=by
  rw[Nat.and_div_two_pow]
  congr 1<;>omega
 have h2:((x*4+a)&&&(y*4+b))%2^2=(a&&&b):=by
  rw[Nat.and_mod_two_pow]
  congr 1<;>omega
 have h3:=Nat.div_add_mod ((x*4+a)&&&(y*4+b)) (2^2);rw[h1,h2]at h3;omega
theorem mk_and (C A B:List α):jg (mk C A) (mk C B)=0↔ ∀c∈C,¬(c∈A/\c∈B):=by
 have key:∀C:List α,((mk C A).toNat&&&(mk C B).toNat)=0↔ ∀c∈C,¬(c∈A/\c∈B):=by
  refine snoc_ind (Iff.intro (λ_ c hc=>by cases hc) λ_=>(by decide:((0:Int).toNat&&&(0:Int).toNat)=0)) λC c ih=> ?_;have r1:=(mk_ran C A).1;have r2:=(mk_ran C B).1;obtain⟨x,ex⟩:=ja r1;obtain⟨y,ey⟩:=ja r2;have e1:mk (C++[c]) A=((x*4+(if c∈A then 1 else 0):Nat):Int):=by
   unfold mk at ex⊢;rw[V4_snoc,ex];unfold ind
   split<;>simp
  have e2:mk (C++[c]) B=((y*4+(if c∈B then 1 else 0):Nat):Int):=by
   unfold mk at ey⊢;rw[V4_snoc,ey];unfold ind
   split<;>simp
  rw[e1,e2,jd,jd,A61 _ _ _ _ (by split<;>decide) (by split<;>decide)];rw[ex,ey,jd,jd]at ih;have h3:((if c∈A then 1 else 0:Nat)&&&(if c∈B then 1 else 0))=0↔ ¬(c∈A/\c∈B):=by
   by_cases z1:c∈A<;>by_cases z2:c∈B<;>simp[z1,z2]
  constructor
  ·intro h d hd;rcases da.mp hd with z|z
   ·exact ih.mp (by omega) d z
   ·rw[d6.mp z];exact h3.mp (by omega)
  ·intro h;have h4:=ih.mpr λd hd=>h d (de _ hd);have h5:=h3.mpr (h c (dh _ AX));omega
 rw[←key C];have r1:=(mk_ran C A).1;have r2:=(mk_ran C B).1;have e:jg (mk C A) (mk C B)=(((mk C A).toNat&&&(mk C B).toNat:Nat):Int):=by simp[jg,r1,r2]
 rw[e];omega
theorem mk_app {C A B:List α}(h:∀c∈C,¬(c∈A/\c∈B)):mk C (A++B)=mk C A+mk C B:=by unfold mk;rw[←V4_add];refine V4_congr λc hc=> ?_;have:=h c hc;unfold ind;by_cases z1:c∈A<;>by_cases z2:c∈B<;>simp_all
theorem mk_whole {C A:List α}:mk C A=mk C C↔ ∀c∈C,c∈A:=by
 constructor
 ·intro h c hc;have:=A2v (sE C A) (sE C C) h c hc;unfold ind at this;rw[if_pos hc]at this;by_cases z:c∈A
  ·exact z
  ·rw[if_neg z]at this;cases this
 ·intro h;refine V4_congr λc hc=> ?_;unfold ind;rw[if_pos hc,if_pos (h c hc)]
end
noncomputable abbrev W:=Int×(Int×Int)
noncomputable def lt2 (a b:Int×Int):Bool:=HT.lexLt [a.1,a.2] [b.1,b.2]
theorem lt2_iff:lt2 a b=true↔a.1<b.1\/(a.1=b.1/\a.2<b.2):=by
 unfold lt2;rw[HT.lexLt_cons,HT.lexLt_cons];by_cases e:a.1=b.1
 ·rw[if_pos e];by_cases e2:a.2=b.2
  ·rw[if_pos e2];exact⟨λh=>(by cases h),λh=>by omega⟩
  ·rw[if_neg e2,decide_eq_true_eq];omega
 ·rw[if_neg e,decide_eq_true_eq];omega
noncomputable def mn2 (a b:Int×Int):Int×Int:=if lt2 b a=true then b else a
noncomputable def le2 (a b:Int×Int):Prop:=lt2 b a=false
theorem le2_iff:le2 a b↔ ¬(b.1<a.1\/(b.1=a.1/\b.2<a.2)):=by unfold le2;rw[←lt2_iff];simp
theorem A0y (a b:Int×Int):(mn2 a b=a\/mn2 a b=b)/\le2 (mn2 a b) a/\le2 (mn2 a b) b:=by
 unfold mn2;by_cases h:lt2 b a=true
 ·rw[if_pos h];have h':=lt2_iff.mp h;exact⟨.inr rfl,le2_iff.mpr (by omega),le2_iff.mpr (by omega)⟩
 ·rw[if_neg h];have h':=mt lt2_iff.mpr h;exact⟨.inl rfl,le2_iff.mpr (by omega),le2_iff.mpr (by omega)⟩
theorem wB (h:le2 a b)(k:le2 b c):le2 a c:=by rw[le2_iff]at*;omega
theorem le2_refl (a:Int×Int):le2 a a:=le2_iff.mpr (by omega)
theorem B0s (x y:Int)(h:le2 a b):le2 (a.1+x,a.2+y) (b.1+x,b.2+y):=by rw[le2_iff]at*;simp only;omega
noncomputable def look (M:List (Int×W))(k:Int):Option W:=(M.find? λe=>decide (e.1=k)).map (·.2)
noncomputable def put (M:List (Int×W))(k:Int)(v:W):List (Int×W):=if (M.any λe=>decide (e.1=k))=true then M.map (λe=>if e.1=k then(e.1,v)else e)else M++[(k,v)]
theorem A8z (k:Int):look [] k=none:=rfl
theorem look_cons (e:Int×W)(M:List (Int×W))(k:Int):look (e::M) k=if e.1=k then some e.2 else look M k:=by
 unfold look;by_cases h:e.1=k
 ·rw[bb (by simpa using h),if_pos h];rfl
 ·rw[ba (by simpa using h),if_neg h]
theorem look_none:look M k=none↔k∉M.map (·.1):=by
 induction M with
 |nil=>exact⟨λ_ h=>(by cases h),λ_=>rfl⟩
 |cons e M ih=>
  rw[look_cons,cz,di];by_cases z:e.1=k
  ·rw[if_pos z];exact⟨λh=>(by cases h),λh=>absurd (.inl z.symm) h⟩
  ·rw[if_neg z,ih];exact⟨λh y=>y.elim (λy=>z y.symm) h,λh y=>h (.inr y)⟩
theorem mem_look (nd:(M.map (·.1)).Nodup)(h:e∈M):look M e.1=some e.2:=by
 induction M with
 |nil=>cases h
 |cons d M ih=>
  rw[cz,d9]at nd;rw[look_cons];rcases di.mp h with rfl|h
  ·rw[if_pos rfl]
  ·rw[if_neg (λz=>nd.1 (by rw[z];exact dv.mpr ⟨e,h,rfl⟩))];exact ih nd.2 h
theorem A0h (M:List (Int×W))(k:Int):(M.any λe=>decide (e.1=k))=(look M k).isSome:=by
 induction M with
 |nil=>rfl
 |cons e M ih=>
  rw[ag,ih,look_cons];by_cases z:e.1=k<;>simp[z]
theorem A1s (M:List (Int×W))(k:Int)(v:W):(put M k v).map (·.1)=if k∈M.map (·.1)then M.map (·.1)else M.map (·.1)++[k]:=by
 unfold put;rw[A0h];by_cases h:k∈M.map (·.1)
 ·have hs:(look M k).isSome=true:=by
   cases e:look M k with
   |none=>exact absurd h (look_none.mp e)
   |some _=>rfl
  rw[if_pos hs,if_pos h,c9];refine cy λe _=> ?_;show(if e.1=k then(e.1,v)else e).1=e.1
  split<;>rfl
 ·rw[look_none.mpr h,if_neg h];simp
theorem A1i (nd:(M.map (·.1)).Nodup):((put M k v).map (·.1)).Nodup:=by
 rw[A1s]
 split
 ·exact nd
 ·rename_i h;rw[d8];exact⟨nd,d9.mpr ⟨by simp,fb⟩,λa ha b hb e=>h (by rw[←d6.mp hb,←e];exact ha)⟩
theorem xY (M:List (Int×W))(k j:Int)(v:W):look (put M k v) j=if j=k then some v else look M j:=by
 unfold put;rw[A0h];cases e:look M k with
 |some u=>
  rw[if_pos (show(some u).isSome=true from rfl)]
  induction M with
  |nil=>cases e
  |cons d M ih=>
   rw[cz,look_cons];rw[look_cons]at e;by_cases z:d.1=k
   ·rw[if_pos z];by_cases y:j=k
    ·rw[if_pos (by rw[y];exact z),if_pos y]
    ·rw[if_neg (show¬d.1=j from λx=>y (by rw[←x,z])),if_neg y,look_cons,if_neg (show¬d.1=j from λx=>y (by rw[←x,z]))];clear ih e
     induction M with
     |nil=>rfl
     |cons d' M ih=>
      rw[cz,look_cons,look_cons,ih];by_cases x:d'.1=k
      ·rw[if_pos x];rw[if_neg (show¬d'.1=j from λw=>y (by rw[←w,x])),if_neg (show¬d'.1=j from λw=>y (by rw[←w,x]))]
      ·rw[if_neg x]
   ·rw[if_neg z]at e⊢;rw[ih e,look_cons];by_cases y:j=k
    ·rw[if_neg (show¬d.1=j from λx=>z (by rw[x,y])),if_pos y,if_pos y]
    ·rw[if_neg y,if_neg y]
 |none=>
  rw[if_neg (by simp)]
  induction M with
  |nil=>
   rw[nil_append,look_cons,A8z];by_cases y:j=k
   ·rw[if_pos y,if_pos y.symm]
   ·rw[if_neg y,if_neg (λx=>y x.symm)]
  |cons d M ih=>
   rw[look_cons]at e;have z:¬d.1=k:=λz=>by rw[if_pos z]at e;cases e
   rw[if_neg z]at e;rw[List.cons_append,look_cons,ih e,look_cons];by_cases y:j=k
   ·rw[if_neg (show¬d.1=j from λx=>z (by rw[x,y])),if_pos y,if_pos y]
   ·rw[if_neg y,if_neg y]
noncomputable abbrev Tr:=Int×(Int×Int)
structure Rep (M:List (Int×W))(T:List Tr):Prop where
 nd:(M.map (·.1)).Nodup
 no:∀k,look M k=none->∀t∈T,t.1≠k
 yes:∀k m cn,look M k=some (m,cn)->m=(T.filter λt=>decide (t.1=k)).length/\(k,cn)∈T/\∀t∈T,t.1=k->le2 cn t.2
theorem Rep.perm (h:Rep M T)(p:T.Perm U):Rep M U:=
 ⟨h.nd,λk e t ht=>h.no k e t (p.mem_iff.mpr ht),λk m cn e=>let ⟨a,b,c⟩:=h.yes k m cn e;⟨a.trans (by rw[(p.filter _).length_eq]),p.mem_iff.mp b,λt ht=>c t (p.mem_iff.mpr ht)⟩⟩
noncomputable def tr (h:Int)(l:Int×Int)(t:Tr):Tr:=(t.1+l.1,(t.2.1+l.2,t.2.2+h*l.1))
noncomputable def step1 (h:Int)(e:Int×W)(acc:List (Int×W))(l:Int×Int):List (Int×W):=
 if jg e.1 l.1=0 then
  put acc (e.1+l.1) ((((look acc (e.1+l.1)).getD (0,(e.2.2.1+l.2,e.2.2.2+h*l.1))).1+e.2.1),mn2 ((look acc (e.1+l.1)).getD (0,(e.2.2.1+l.2,e.2.2.2+h*l.1))).2 (e.2.2.1+l.2,e.2.2.2+h*l.1))
 else acc
structure Lot (d m:Int)(cn:Int×Int)(G:List Tr):Prop where
 al:∀t∈G,t.1=d
 ln:m=G.length
 mm:(d,cn)∈G
 le:∀t∈G,le2 cn t.2
theorem A6h (r:Rep acc U)(g:Lot e.1 e.2.1 e.2.2 G):Rep (step1 h e acc l) (U++if jg e.1 l.1=0 then G.map (tr h l)else []):=by
 unfold step1;by_cases hb:jg e.1 l.1=0
 ·rw[if_pos hb,if_pos hb];generalize hk:e.1+l.1=k0;generalize hw:(e.2.2.1+l.2,e.2.2.2+h*l.1)=way;have gk:∀t∈G.map (tr h l),t.1=k0:=λt ht=>by
   obtain⟨u,hu,rfl⟩:=dv.mp ht;show u.1+l.1=k0;rw[g.al u hu,hk]
  have gm:(k0,way)∈G.map (tr h l):=by
   refine dv.mpr ⟨_,g.mm,?_⟩;rw[←hk,←hw];rfl
  have gl:∀t∈G.map (tr h l),le2 way t.2:=λt ht=>by
   obtain⟨u,hu,rfl⟩:=dv.mp ht;rw[←hw];exact B0s _ _ (g.le u hu)
  have gf:((G.map (tr h l)).filter λt=>decide (t.1=k0))=G.map (tr h l):=ug.mpr λt ht=>AS (gk t ht);have gn:∀k,k≠k0->((G.map (tr h l)).filter λt=>decide (t.1=k))=[]:=λk hk'=>ay.mpr λt ht=>by rw[decide_eq_true_eq,gk t ht];exact λz=>hk' z.symm
  refine⟨A1i r.nd,λk hn t ht=> ?_,λk m cn hs=> ?_⟩
  ·rw[xY]at hn;by_cases z:k=k0
   ·rw[if_pos z]at hn;cases hn
   ·rw[if_neg z]at hn;rcases da.mp ht with y|y
    ·exact r.no k hn t y
    ·rw[gk t y];exact λx=>z x.symm
  ·rw[xY]at hs;by_cases z:k=k0
   ·rw[if_pos z]at hs;have hs:=ig hs;subst z;cases hl:look acc k with
    |none=>
     rw[hl]at hs;simp only[xh]at hs;have e1:=congrArg vd hs;have e2:=congrArg Prod.snd hs;simp only at e1 e2;have hu:(U.filter λt=>decide (t.1=k))=[]:=ay.mpr λt ht=>by simpa using r.no k hl t ht
     have ew:mn2 way way=way:=(A0y way way).1.elim id id;rw[ew]at e2;refine⟨?_,?_,λt ht hk'=> ?_⟩
     ·rw[au,hu,gf,nil_append,b8,←g.ln];omega
     ·rw[←e2];exact dh _ gm
     ·rcases da.mp ht with y|y
      ·exact absurd hk' (r.no k hl t y)
      ·rw[←e2];exact gl t y
    |some v=>
     rw[hl]at hs;simp only[Option.getD_some]at hs;have e1:=congrArg vd hs;have e2:=congrArg Prod.snd hs;simp only at e1 e2;obtain⟨y1,y2,y3⟩:=r.yes k v.1 v.2 hl;obtain⟨m1,m2,m3⟩:=A0y v.2 way;rw[e2]at m1 m2 m3;refine⟨?_,?_,λt ht hk'=> ?_⟩
     ·rw[au,gf,bz,b8];have:=g.ln;omega
     ·rcases m1 with m1|m1
      ·rw[m1];exact de _ y2
      ·rw[m1];exact dh _ gm
     ·rcases da.mp ht with y|y
      ·exact wB m2 (y3 t y hk')
      ·exact wB m3 (gl t y)
   ·rw[if_neg z]at hs;obtain⟨y1,y2,y3⟩:=r.yes k m cn hs;refine⟨?_,de _ y2,λt ht hk'=> ?_⟩
    ·rw[au,gn k z,ak];exact y1
    ·rcases da.mp ht with y|y
     ·exact y3 t y hk'
     ·exact absurd ((gk t y).symm.trans hk') (λx=>z x.symm)
 ·rw[if_neg hb,if_neg hb,ak];exact r
theorem A1u (g:Lot e.1 e.2.1 e.2.2 G):∀(lands:List (Int×Int)){acc:List (Int×W)}{U:List Tr},Rep acc U->Rep (lands.foldl (step1 h e) acc) (U++lands.flatMap λl=>if jg e.1 l.1=0 then G.map (tr h l)else [])
 | [],acc,U,r=>by simpa using r
 |l::lands,acc,U,r=>by
  have:=A1u (h:=h) g lands (A6h (h:=h) (l:=l) r g);rw[aj]at this;exact this
noncomputable def more1 (h:Int)(lands:List (Int×Int))(acc:List (Int×W))(e:Int×W):List (Int×W):=lands.foldl (step1 h e) acc
noncomputable def more (h:Int)(M:List (Int×W))(lands:List (Int×Int)):List (Int×W):=M.foldl (more1 h lands) []
theorem vL (rM:Rep M T):∀(es:List (Int×W)){acc:List (Int×W)}{U:List Tr},(∀e∈es,e∈M)->Rep acc U->Rep (es.foldl (more1 h lands) acc) (U++es.flatMap λe=>lands.flatMap λl=>if jg e.1 l.1=0 then(T.filter λt=>decide (t.1=e.1)).map (tr h l)else [])
 | [],acc,U,_,r=>by simpa using r
 |e::es,acc,U,hm,r=>by
  have he:=hm e AX;obtain⟨y1,y2,y3⟩:=rM.yes e.1 e.2.1 e.2.2 (mem_look rM.nd he);have g:Lot e.1 e.2.1 e.2.2 (T.filter λt=>decide (t.1=e.1)):=⟨λt ht=>of_decide_eq_true (dj.mp ht).2,y1,dj.mpr ⟨y2,AS rfl⟩,λt ht=>y3 t (dj.mp ht).1 (of_decide_eq_true (dj.mp ht).2)⟩;have:=vL (h:=h) (lands:=lands) rM es (λd hd=>hm d (AW _ hd)) (A1u (h:=h) g lands r);rw[aj]at this;exact this
theorem yA {α β γ:Type}(f:α->β->List γ):∀(xs:List α)(ys:List β),(xs.flatMap λx=>ys.flatMap λy=>f x y).Perm (ys.flatMap λy=>xs.flatMap λx=>f x y)
 | [],ys=>by
  have:(ys.flatMap λy=>([]:List α).flatMap λx=>f x y)=[]:=by induction ys<;>simp
  rw[this];exact .refl _
 |x::xs,ys=>by
  have ih:=yA f xs ys;have app:∀ys:List β,((ys.flatMap λy=>f x y)++ys.flatMap λy=>xs.flatMap λx=>f x y).Perm (ys.flatMap λy=>(x::xs).flatMap λx=>f x y):=by
   intro ys
   induction ys with
   |nil=>exact .refl _
   |cons y ys ihy=>
    simp only[bg,aj]at ihy⊢;refine n4 _ ?_;refine lj.trans ?_ (n4 _ ihy);rw[←aj,←aj];exact lj.append_right _ List.perm_append_comm
  exact(n4 _ ih).trans (app ys)
theorem A93 (p:Int->Bool)(f:Tr->β):∀(ks:List Int){T:List Tr},ks.Nodup->(∀t∈T,t.1∈ks)->(ks.flatMap λk=>if p k=true then(T.filter λt=>decide (t.1=k)).map f else []).Perm ((T.filter λt=>p t.1).map f):=by
 intro ks
 induction ks with
 |nil=>
  intro T _ h;have:T=[]:=List.eq_nil_iff_forall_not_mem.mpr λt ht=>by cases h t ht
  subst this;exact .refl _
 |cons k ks ih0=>
  intro T nd h;rw[d9]at nd;have ih:=ih0 (T:=T.filter λt=> !decide (t.1=k)) nd.2 λt ht=>by
   obtain⟨h1,h2⟩:=dj.mp ht;rcases di.mp (h t h1)with z|z
   ·rw[z]at h2;simp at h2
   ·exact z
  have e1:(ks.flatMap λk'=>if p k'=true then(T.filter λt=>decide (t.1=k')).map f else [])=ks.flatMap λk'=>if p k'=true then((T.filter λt=> !decide (t.1=k)).filter λt=>decide (t.1=k')).map f else []:=by
   have cg:∀(F G:Int->List β)(l:List Int),(∀x∈l,F x=G x)->l.flatMap F=l.flatMap G:=by
    intro F G l
    induction l with
    |nil=>intro _;rfl
    |cons x l ihl=>intro hx;rw[bg,bg,hx x AX,ihl λy hy=>hx y (AW _ hy)]
   refine cg _ _ ks λk' hk'=> ?_;have:(T.filter λt=>decide (t.1=k'))=(T.filter λt=> !decide (t.1=k)).filter λt=>decide (t.1=k'):=by
    rw[List.filter_filter];refine av λt _=> ?_;by_cases z:t.1=k'
    ·have:¬k'=k:=λy=>nd.1 (y▸hk');simp[z,this]
    ·simp[z]
   rw[this]
  have e2:(if p k=true then(T.filter λt=>decide (t.1=k)).map f else [])=((T.filter λt=>decide (t.1=k)).filter λt=>p t.1).map f:=by
   by_cases z:p k=true
   ·rw[if_pos z]
    congr 1
    symm
    exact ug.mpr λt ht=>by rw[of_decide_eq_true (dj.mp ht).2];exact z
   ·rw[if_neg z]
    symm
    rw[List.map_eq_nil_iff];exact ay.mpr λt ht=>by rw[of_decide_eq_true (dj.mp ht).2];exact z
  rw[bg,e1,e2];refine(n4 _ ih).trans ?_;rw[←cx,←au];exact((xr _ T).filter _).map _
theorem rep_more (r:Rep M T):Rep (more h M lands) (lands.flatMap λl=>(T.filter λt=>decide (jg t.1 l.1=0)).map (tr h l)):=by
 have r0:Rep [] []:=⟨fb,λ_ _ t ht=>(by cases ht),λk m cn e=>(by cases e)⟩;have r1:=vL (h:=h) (lands:=lands) r M (λ_ he=>he) r0;rw[nil_append]at r1;refine Rep.perm (M:=M.foldl (more1 h lands) []) r1 ((yA _ M lands).trans ?_);have pc:∀(F G:Int×Int->List Tr)(l:List (Int×Int)),(∀x∈l,(F x).Perm (G x))->(l.flatMap F).Perm (l.flatMap G):=by
  intro F G l
  induction l with
  |nil=>intro _;exact .refl _
  |cons x l ihl=>intro hx;exact lj.append (hx x AX) (ihl λy hy=>hx y (AW _ hy))
 refine pc _ _ lands λl _=> ?_;have key:=A93 (λk=>decide (jg k l.1=0)) (tr h l) (M.map (·.1)) (T:=T) r.nd λt ht=>by
  by_cases z:t.1∈M.map (·.1)
  ·exact z
  ·exact absurd rfl (r.no t.1 (look_none.mpr z) t ht)
 rw[List.flatMap_map]at key;simpa using key
theorem step1_keys (nd:(acc.map (·.1)).Nodup)(hk:∀k∈acc.map (·.1),0<=k/\k<2*B)(he:0<=e.1/\e.1<B)(hl:0<=l.1/\l.1<B):((step1 h e acc l).map (·.1)).Nodup/\∀k∈(step1 h e acc l).map (·.1),0<=k/\k<2*B:=by
 unfold step1
 split
 ·refine⟨A1i nd,λk hk'=> ?_⟩;rw[A1s]at hk'
  split at hk'
  ·exact hk k hk'
  ·rcases da.mp hk' with z|z
   ·exact hk k z
   ·rw[d6.mp z];omega
 ·exact⟨nd,hk⟩
end Wy
namespace L2
open PySem PySem.Spec PyProof.Rows
noncomputable def iV (xs:List V):List V:=(iq xs.length).filterMap λ(k:Nat)=>xs[(((xs.length:Int) - 1)+(k:Int)*(-1)).toNat]?
theorem A8v (xs:List V):(iV xs).length<=xs.length:=by have:=pf (λk:Nat=>xs[(((xs.length:Int) - 1)+(k:Int)*(-1)).toNat]?) (iq xs.length);rw[cb]at this;exact this
theorem nY (r:Vals xs us)(f:Nat->Nat):∀ks:List Nat,Vals (ks.filterMap λk=>xs[f k]?) (ks.filterMap λk=>us[f k]?)
 | []=> .nil
 |k::ks=>by
  rw[ar,ar];cases e:xs[f k]? with
  |none=>rw[r.none_of e];exact nY r f ks
  |some x=>
   obtain⟨u,hu,ru⟩:=r.get e;rw[hu];exact .cons ru (nY r f ks)
namespace HTr
open HT
theorem A4k (n:Nat):jy ((n:Int) - 1) (-1) (-1)=n:=by
 unfold jy;rw[if_neg (by decide)];by_cases h:(n:Int) - 1> -1
 ·rw[if_pos h];have:-(-1:Int)=1:=by decide
  rw[this,Ak];omega
 ·rw[if_neg h];omega
theorem getItem_tuple_rev (ht:xc s.heap t items)(hs:s.heap.IsSliceOf sl .none .none vs)(ps:wx vs (some (-1)))
  (h:Q (.ref s.heap.objs.size) {s with heap:=s.heap.push {cls:=.type "tuple",data:=.seq ((iq items.size).filterMap λ(k:Nat)=>items[(((items.size:Int) - 1)+(k:Int)*(-1)).toNat]?).toArray}})
  (hsz:items.size<=gz):ia (iu prog w) A (qe (.ref t) (.ref sl)) Q E s:=by
 have htake:sizeOk (.seq ((iq items.size).filterMap λ(k:Nat)=>items[(((items.size:Int) - 1)+(k:Int)*(-1)).toNat]?).toArray):=by
  show((iq items.size).filterMap λ(k:Nat)=>items[(((items.size:Int) - 1)+(k:Int)*(-1)).toNat]?).toArray.size<=gz;rw[fj];have:=pf (λk:Nat=>items[(((items.size:Int) - 1)+(k:Int)*(-1)).toNat]?) (iq items.size);rw[cb]at this;omega
 obtain⟨os,hos,hcs,hds⟩:=id hs;have hTs:s.TypeIs (.ref sl) "slice":=⟨os,hos,hcs⟩;unfold qe
 try with_reducible refine jw ?_
 first|refine AN (AO ?_)|skip
 refine AN (wa ht.typeIs (by decide) ?_);refine AN (jv (name:=k8 "__getitem__") ht.typeIs jc
  (ji jc ht.typeIs tq ?_ (u7 _ _)))
 show ia _ _ (lu (.ref t)>>=_) _ _ s;refine AN (zq ht ?_);refine AN (Al hTs ?_);rw[if_pos (by decide)];have happ:∀Q':Int×Int×Nat->h7->Prop,Q' ((items.size:Int) - 1,-1,items.size) s->ia (iu prog w) A.in1 (lq (.ref sl) (pure (items.size:Int))) Q' E s:=λQ' q'=>by
  unfold lq vp;refine AN (AN (jq hos hds (x:=.none) rfl (AN (jq hos hds (x:=.none) rfl (AN (jq hos hds (x:=vs) rfl (AO ?_)))))));refine AN (rS ps ?_);show ia _ _ (if ((-1:Int)==0)=true then _ else _) _ _ s;rw[if_neg (by decide)];refine AN (u5 (AN (u5 (AN (AO ?_)))));show ia _ _ (pure ((items.size:Int) - 1,(-1:Int),jy ((items.size:Int) - 1) (-1) (-1))) _ _ s;rw[A4k];exact AO q'
 refine AN (happ _ ?_);dsimp only
 rw[show((((items.size:Int) - 1)==0&&(-1:Int)==1&&items.size==items.size))=false by simp];simp only[jb,if_false];refine AN (i9 ?_ htake);exact AO ⟨_,rfl,AO h⟩
end HTr
section
variable {X:Cx}{e st:j7}{te ts:TE}{pos p2:Pos}
theorem B1s (he:PE X e te)(hst:PE X st ts):PE X (.Subscript e (.Slice none none (some st) p2) pos) (λσ H Q=>te σ H λx H1=>ts σ H1 λy H2=>y= .int (-1)/\∃a xs,x= .ref a/\H2 a=some (.tup xs)/\∀p,H2 p=none->Q (.ref p) (upd H2 p (.tup (iV xs)))):=by
 intro ir s σ H Q I h;refine xx (thn (he ir s σ H _ I h) λv s1 ⟨x,H1,I1,r1,q1⟩=> ?_);refine wpAny_Slice ?_;rw[wy];refine AO ?_;refine AO ?_;rw[zr];refine thn (hst ir s1 σ H1 _ I1 q1) λvs s3 ⟨y,H3,I3,ry,q3⟩=> ?_;obtain⟨rfl,a,xs,rfl,ha,q⟩:=q3;obtain⟨t,rfl⟩:=ry;cases (show v=h8 a from r1);have I4:Inv X ir σ H3 {s3 with heap:=s3.heap.push {cls:=.type "slice",data:=.fields #[.none,.none,.int (-1) t]}}:=I3.kept (t':=s3.toks) λb ob q=>AQ _ q;obtain⟨i8,r,ht,hz⟩:=I4.tuple (A3.of (K:=X.K) ha);have rg:i8.length=xs.length:=r.length.symm;show ia (iu X.prog X.w) X.A (rj e (.Slice none none (some st) p2) (.ref a) (.ref s3.heap.objs.size)) (EP X ir σ Q) X.xe {s3 with heap:=s3.heap.push {cls:=.type "slice",data:=.fields #[.none,.none,.int (-1) t]}};refine tail_any (ops:=[.ref a,.ref s3.heap.objs.size]) ht.typeIs jc.lookup ?_ (by with_unfolding_all rfl);refine HTr.getItem_tuple_rev (vs:=.int (-1) t) ht (u9 ..) (.int _ t) ?_ (by rw[fj,rg];exact hz);have e:((iq i8.toArray.size).filterMap λ(k:Nat)=>i8.toArray[(((i8.toArray.size:Int) - 1)+(k:Int)*(-1)).toNat]?)=(iq xs.length).filterMap λ(k:Nat)=>i8[(((xs.length:Int) - 1)+(k:Int)*(-1)).toNat]?:=by
  rw[fj,rg];simp only[yr]
 rw[e];refine⟨.ref _,_,I4.laid (t':=s3.toks) (o:=.tup (iV xs)) (λb ob q=>AQ _ q) (AY _) ⟨gc (A8v xs) hz,_,?_,Av _ _⟩,rfl,q _ (I4.hok.fresh (AY _))⟩;exact nY r (λk=>(((xs.length:Int) - 1)+(k:Int)*(-1)).toNat) _
end
noncomputable def jW (xs:List V):List V:=(Ai ((xs.length:Int) - 1) (-1) (-1)).filterMap λk=>xs[k]?
theorem A8a (xs:List V):(jW xs).length<=xs.length:=by
 unfold jW;refine gc (pf _ _) ?_;unfold Ai;rw[b8,cb,if_neg (by decide)]
 split
 ·have:-(-1:Int)=1:=by decide
  rw[this,Ak];omega
 ·simp
section
variable {X:Cx}{e st:j7}{te ts:TE}{pos p2:Pos}
theorem B0g (he:PE X e te)(hst:PE X st ts):PE X (.Subscript e (.Slice none none (some st) p2) pos) (λσ H Q=>te σ H λx H1=>ts σ H1 λy H2=>y= .int (-1)/\∃a xs,x= .ref a/\H2 a=some (.lst xs)/\∀p,H2 p=none->Q (.ref p) (upd H2 p (.lst (jW xs)))):=by
 intro ir s σ H Q I h;refine xx (thn (he ir s σ H _ I h) λv s1 ⟨x,H1,I1,r1,q1⟩=> ?_);refine wpAny_Slice ?_;rw[wy];refine AO ?_;refine AO ?_;rw[zr];refine thn (hst ir s1 σ H1 _ I1 q1) λvs s3 ⟨y,H3,I3,ry,q3⟩=> ?_;obtain⟨rfl,a,xs,rfl,ha,q⟩:=q3;obtain⟨t,rfl⟩:=ry;cases (show v=h8 a from r1);have I4:Inv X ir σ H3 {s3 with heap:=s3.heap.push {cls:=.type "slice",data:=.fields #[.none,.none,.int (-1) t]}}:=I3.kept (t':=s3.toks) λb ob q=>AQ _ q;obtain⟨i8,r,ht,hz⟩:=I4.list (A2.of (K:=X.K) ha);have rg:i8.length=xs.length:=r.length.symm;show ia (iu X.prog X.w) X.A (rj e (.Slice none none (some st) p2) (.ref a) (.ref s3.heap.objs.size)) (EP X ir σ Q) X.xe {s3 with heap:=s3.heap.push {cls:=.type "slice",data:=.fields #[.none,.none,.int (-1) t]}};refine tail_any (ops:=[.ref a,.ref s3.heap.objs.size]) ht.isList.typeIs wc.lookup ?_ (by with_unfolding_all rfl);refine wz (vs:=.int (-1) t) (lo:=none) (hi:=none) (st:=some (-1)) ht.isList (u9 ..) .none .none (.int _ t) (by decide) ?_ (by rw[fj,rg];exact hz);have e:Ay i8.toArray none none (some (-1))=((Ai ((xs.length:Int) - 1) (-1) (-1)).filterMap λk=>i8[k]?).toArray:=by
  unfold Ay;show((Ai ((i8.toArray.size:Int) - 1) (-1) (-1)).filterMap (i8.toArray[·]?)).toArray=_;rw[fj,rg];simp only[yr]
 rw[e];refine⟨.ref _,_,I4.laid (t':=s3.toks) (o:=.lst (jW xs)) (λb ob q=>AQ _ q) (AY _) ⟨gc (A8a xs) hz,_,0,?_,fu _ rfl⟩,rfl,q _ (I4.hok.fresh (AY _))⟩;exact nY r (λk=>k) _
end
theorem B22 (xs:List V):jW xs=xs.reverse:=by
 unfold jW;rw[W.krv_sliceRange,List.filterMap_map];have key:∀n,n<=xs.length->(iq n).filterMap ((λk=>xs[k]?)∘λk=>xs.length - 1 - k)=xs.reverse.take n:=by
  intro n
  induction n with
  |zero=>intro _;rfl
  |succ n ih=>
   intro h;have e:xs.reverse[n]?=xs[xs.length - 1 - n]?:=qp (by omega);rw[fi,qm,ih (by omega),fq,e]
   congr 1
 rw[key _ (AY _),fo (by rw[cf];exact AY _)]
noncomputable def tM:TE:=λ_ H Q=> ∀dw a b H',H dw=none->(∀c o,H c=some o->H' c=some o)->H' dw=some (.dK [(ie 0,.ref a)])->H' a=some (.tup [.int 1,.ref b])->H' b=some (.tup [.int 0,.int 0])->Q (.ref dw) H'
noncomputable def lT:TE:=jZ (cD (tC (.int 1)) (cD (jZ (cD (tC (.int 0)) (cD (tC (.int 0)) iF))) iF))
theorem B2d:PEq X (.Tuple [.Constant (.int 1) k1 p1,.Tuple [.Constant (.int 0) j1 p2,.Constant (.int 0) j2 p3] k2 p4] k3 p5) lT:=tupq (bM (lO (tupq (bM (bM cT))) cT))
theorem B3c (hv:PEq X v tv):PEq X (.Dict [some (.Constant (.int 0) j1 p1)] [v] pd) (jU [(tC (.int 0),tv)]):=by unfold PEq at*;exact A9c (B3n aV hv A33) rfl rfl (by simp) (by simp)
theorem A4l (hq:PEq X e (jU [(tC (.int 0),lT)])):PE X e tM:=by
 have hd:PE X e (jU [(tC (.int 0),lT)]):=by unfold PEq at hq;exact hq
 intro ir s σ H Q I h;refine hd ir s σ H Q I ?_;clear hd;intro dw hdw;refine⟨by show 2<=gz;decide,λb hb=> ?_⟩;refine⟨by show 2<=gz;decide,λa ha=> ?_⟩;have e1:(upd (upd (upd H dw (.dK [])) b (.tup [.int 0,.int 0])) a (.tup [.int 1,.ref b])) dw=some (.dK []):=by
  have nb:dw≠b:=λz=>by rw[←z,aJ]at hb;cases hb
  have na:dw≠a:=λz=>by rw[←z,bA nb,aJ]at ha;cases ha
  rw[bA na,bA nb,aJ]
 have nd:∀c o,c≠dw->(upd (upd (upd H dw (.dK [])) b (.tup [.int 0,.int 0])) a (.tup [.int 1,.ref b])) c=some o->(upd (upd (upd (upd H dw (.dK [])) b (.tup [.int 0,.int 0])) a (.tup [.int 1,.ref b])) dw (.dK (kP [] [(ie 0,.ref a)]))) c=some o:=λc o n e=>by rw[bA n];exact e
 have ndb:b≠dw:=λz=>by rw[z,aJ]at hb;cases hb
 have nab:b≠a:=λz=>by rw[←z,aJ]at ha;cases ha
 have nda:a≠dw:=λz=>by
  rw[z,bA (k6 ndb),aJ]at ha;cases ha
 refine⟨e1,[(ie 0,.ref a)],rfl,(by show 1<=15;decide),h dw a b _ hdw (λc o e=> ?_) aJ (nd _ _ nda aJ) (nd _ _ ndb ?_)⟩
 ·have n1:c≠dw:=λz=>by rw[z,hdw]at e;cases e
  have f1:(upd H dw (.dK [])) c=some o:=by rw[bA n1];exact e
  have n2:c≠b:=λz=>by rw[z,hb]at f1;cases f1
  have f2:(upd (upd H dw (.dK [])) b (.tup [.int 0,.int 0])) c=some o:=by rw[bA n2];exact f1
  have n3:c≠a:=λz=>by rw[z,ha]at f2;cases f2
  exact nd c o n1 (by rw[bA n3];exact f2)
 ·rw[bA nab];exact aJ
theorem A6s:PEq X (.Dict [some (.Constant (.int 0) j0 p0)] [.Tuple [.Constant (.int 1) k1 p1,.Tuple [.Constant (.int 0) j1 p2,.Constant (.int 0) j2 p3] k2 p4] k3 p5] pd) (jU [(tC (.int 0),lT)]):=B3c B2d
theorem A2n (hN:X.N.Nodup)(hi:X.N[i]?=some x)(hx:Loc X.env.scope x)(h:PEq X e (jU [(tC (.int 0),lT)]))(hs:Au e (some (.Name x pos')) pos.line X.env=pure false:=by rfl)(hf:X.fn x=true\/X.env.scope.names.lookup x=some .local:=by first|exact .inl rfl|exact .inr rfl|assumption):
  PSq X (.Assign [.Name x pos'] e pos) (lU tM (dL i)):=by
 unfold PSq;exact bP hN hi hx (A4l h) hs hf
end L2
namespace M12
open PySem L2 PyProof.Rows Grd Wlk Cyc Srt Set4 Lk
noncomputable def top (i:Nat):je:=PySem.Challenge.pw_meadshares_k12_whole_all_at_once_or_none.main.body.getD i (.Pass ⟨0,0,0,0⟩)
noncomputable abbrev xI:je:=top 10
noncomputable abbrev yB:je:=top 11
noncomputable abbrev xT:je:=top 12
noncomputable abbrev rC:je:=top 13
noncomputable abbrev iY:je:=top 14
noncomputable abbrev qO:je:=top 15
noncomputable abbrev qG:je:=top 22
noncomputable abbrev zM:je:=top 23
noncomputable abbrev oJ:je:=top 24
noncomputable abbrev yT:je:=top 25
noncomputable abbrev A1j:je:=top 26
noncomputable abbrev vC:je:=top 27
noncomputable abbrev yV:je:=top 28
noncomputable abbrev qX:je:=top 29
noncomputable abbrev wD:je:=top 30
noncomputable abbrev sC:je:=top 31
noncomputable abbrev rN:je:=top 32
noncomputable abbrev uM:je:=top 33
noncomputable abbrev A1p:je:=top 34
noncomputable abbrev A2c:je:=top 35
noncomputable abbrev uL:je:=top 43
noncomputable abbrev oH:je:=top 44
noncomputable abbrev wO:je:=top 45
noncomputable abbrev rH:je:=top 46
noncomputable abbrev A16:je:=top 47
noncomputable abbrev sY:je:=top 48
noncomputable abbrev wY:je:=top 49
noncomputable abbrev lN:je:=top 50
noncomputable abbrev A0a:je:=top 51
noncomputable abbrev A1n:je:=top 52
noncomputable abbrev tJ:je:=top 54
noncomputable abbrev A2e:je:=top 55
noncomputable abbrev oX:je:=top 56
noncomputable abbrev vH:je:=top 57
noncomputable abbrev yC:je:=top 58
noncomputable abbrev rE:je:=top 59
noncomputable abbrev pH:je:=top 60
noncomputable abbrev A0m:je:=top 61
noncomputable abbrev zH:je:=top 64
noncomputable abbrev A0s:je:=top 65
noncomputable abbrev xZ:je:=top 66
noncomputable abbrev A2g:je:=top 67
noncomputable abbrev wV:je:=top 68
noncomputable abbrev A1m:je:=top 69
noncomputable abbrev uQ:je:=top 70
noncomputable abbrev uI:je:=top 71
noncomputable abbrev yX:je:=top 72
noncomputable abbrev yZ:je:=top 73
noncomputable abbrev mY:je:=top 74
noncomputable abbrev sLW:je:=top 77
noncomputable abbrev nS:je:=top 78
noncomputable abbrev wU:je:=top 79
noncomputable abbrev A00:je:=top 80
noncomputable abbrev yD:je:=top 81
noncomputable abbrev A0w:je:=top 82
noncomputable abbrev mI:je:=top 83
noncomputable abbrev gE:je:=top 84
noncomputable abbrev zL:je:=top 85
noncomputable abbrev yK:je:=top 86
noncomputable abbrev vR:je:=top 87
noncomputable abbrev nK:je:=top 89
noncomputable abbrev pE:je:=top 90
noncomputable abbrev tO:je:=top 91
noncomputable abbrev rP:je:=top 92
noncomputable abbrev wK:je:=top 93
noncomputable abbrev wJ:je:=top 94
noncomputable abbrev zV:je:=top 96
noncomputable abbrev yQ:je:=top 97
noncomputable abbrev pC:je:=top 98
noncomputable abbrev A0l:je:=top 99
noncomputable abbrev zW:je:=top 100
noncomputable abbrev kN:je:=top 101
noncomputable abbrev pM:je:=top 102
noncomputable abbrev oC:je:=top 103
noncomputable abbrev A1y:je:=top 104
noncomputable abbrev tD:je:=top 105
noncomputable abbrev A14:je:=top 106
noncomputable abbrev qV:je:=top 107
noncomputable abbrev jS:je:=top 108
structure Txt (mg:Str->Option gw):Prop where
 isinstance:mg "isinstance" =none
 int:mg "int" =none
 bool:mg "bool" =none
 tuple:mg "tuple" =none
 len:mg "len" =none
 all:mg "all" =none
 enumerate:mg "enumerate" =none
 rows:∃t,mg "MOST_ROWS" =some (.int 4 t)
 cols:∃t,mg "MOST_COLUMNS" =some (.int 6 t)
 cells:∃t,mg "MOST_CELLS" =some (.int 10 t)
 worth:∃t,mg "MOST_WORTH" =some (.int 99 t)
 water:∃t,mg "WATER" =some (.int (-2) t)
noncomputable def nL:Sp:=λvs H Q _=> ∃v,vs=[v]/\Kn H 1 v/\Q (.bl (isInt v)) H
noncomputable def kW:Sp:=λvs H Q _=> ∃v lo hi,vs=[v,.int lo,.int hi]/\Kn H 1 v/\Q (.bl (fA lo hi v)) H
noncomputable def dA (H:Hp)(lo hi:Int)(v:V):Bool:=match tupOf H v with|some xs=>decide (lo<=xs.length)&&decide ((xs.length:Int)<=hi)|none=>false
noncomputable def gW:Sp:=λvs H Q _=> ∃v lo hi,vs=[v,.int lo,.int hi]/\Kn H 1 v/\Q (.bl (dA H lo hi v)) H
section
variable {P:il}{w:i6}{K:W.Frag}{mg:Str->Option gw}{base:iw}
theorem A9t (F:D1 K mg "is_number" xI ["thing"])(T:Txt mg):A1 P w K mg base 1 "is_number" nL:=by
 refine F.k ["thing"] ?_;ac_nf
 ·obtain⟨v,rfl,k,q⟩:=h;refine⟨_,bB (bF (gH (bJ mG rfl T.isinstance pj (bG (pv 0) (bG (kX (v:=.ty "int") rfl T.int boot_int rfl) aB)))
   (gI (B0m (bJ mG rfl T.isinstance pj (bG (pv 0) (bG (kX (v:=.ty "bool") rfl T.bool boot_bool rfl) aB))))))),?_⟩
  obtain⟨t,ty,k1,k2,_⟩:=oN (K:=K) k;refine⟨_,rfl,_,"int",t,_,rfl,ty,k1,_,rfl,cU (λe=> ?_) λe=> ?_⟩
  ·refine⟨_,rfl,_,"bool",t,_,rfl,ty,k2,_,rfl,?_⟩;have:(!uD v)=isInt v:=by cases v<;>first|rfl|cases e
   rw[this];exact q
  ·have:isInt v=false:=(Bool.or_eq_false_iff.mp e).1;rw[this]at q;exact q
theorem A59 (F:D1 K mg "is_number_within" yB ["thing","least","most"])(a1:A1 P w K mg base 1 "is_number" nL):A1 P w K mg base 2 "is_number_within" kW:=by
 refine F.k ["thing","least","most"] ?_;ac_nf
 ·obtain⟨v,lo,hi,rfl,k,q⟩:=h;refine⟨_,bB (bF (gH (a1.c hr (bG (pv 0) aB)) (gI (tN jF jF (pv 1) (pv 0) (pv 2))))),?_⟩;refine⟨_,rfl,v,rfl,k,_,rfl,cU (λe=> ?_) λe=> ?_⟩
  ·cases v with
   |int i=>
    refine⟨_,rfl,_,rfl,_,_,rfl,rfl,_,rfl,eZ (λh1=> ?_) λh1=> ?_⟩
    ·refine⟨_,rfl,_,_,rfl,rfl,?_⟩;have:fA lo hi (.int i)=decide (i<=hi):=by simp[fA,h1]
     rw[this]at q;exact q
    ·have:fA lo hi (.int i)=false:=by simp[fA,h1]
     rw[this]at q;exact q
   |_=>cases e
  ·have:fA lo hi v=false:=by cases v<;>first|rfl|cases e
   rw[this]at q;exact q
theorem B28 (F:D1 K mg "is_tuple_within" xT ["thing","least","most"])(T:Txt mg):A1 P w K mg base 1 "is_tuple_within" gW:=by
 refine F.k ["thing","least","most"] ?_;ac_nf
 ·obtain⟨v,lo,hi,rfl,k,q⟩:=h;refine⟨_,bB (bF (gH (bJ mG rfl T.isinstance pj (bG (pv 0) (bG (kX (v:=.ty "tuple") rfl T.tuple k7 rfl) aB)))
   (gI (tN jF jF (pv 1) (bJ eK rfl T.len jm (bG (pv 0) aB)) (pv 2))))),?_⟩
  obtain⟨t,ty,_,_,k3⟩:=oN (K:=K) k;refine⟨_,rfl,_,"tuple",t,_,rfl,ty,k3,_,rfl,cU (λe=> ?_) λe=> ?_⟩
  ·obtain⟨xs,ex⟩:=j3.mp e;obtain⟨a,rfl,ha⟩:=gU ex;refine⟨_,rfl,_,rfl,a,xs,rfl,.inr (A3.of ha),_,_,rfl,rfl,_,rfl,eZ (λh1=> ?_) λh1=> ?_⟩
   ·refine⟨_,rfl,_,_,rfl,rfl,?_⟩;have:dA H lo hi (.ref a)=decide ((xs.length:Int)<=hi):=by simp[dA,ex,h1]
    rw[this]at q;exact q
   ·have:dA H lo hi (.ref a)=false:=by simp[dA,ex,h1]
    rw[this]at q;exact q
  ·have:dA H lo hi v=false:=by
    unfold dA;cases z:tupOf H v with
    |none=>rfl
    |some xs=>rw[z]at e;cases e
   rw[this]at q;exact q
theorem nd4:(["at","row","k","mark"]:List Str).Nodup:=by decide +kernel
structure eN (mg:Str->Option gw):Prop where
 range:mg "range" =none
 list:mg "list" =none
 zip:mg "zip" =none
 sum:mg "sum" =none
 dict:mg "dict" =none
 set:mg "set" =none
 sorted:mg "sorted" =none
 any:mg "any" =none
 abs:mg "abs" =none
 road:∃t,mg "ROAD" =some (.int (-1) t)
noncomputable def dS (f:Int->Bool):Sp:=λvs H Q _=> ∃a g w,vs=[.ref a]/\GridAt H a g/\cR g w/\∀H' l ps,H l=none->Same H H'->H' l=some (.lst (ps.map V.ref))->PlAt H' ps (bD f g)->Q (.ref l) H'
noncomputable def A1a:Sp:=λvs H Q _=> ∃b xs,vs=[.ref b]/\H b=some (.tup ((xs:List Int).map V.int))/\1<=xs.length/\xs.length<=6/\(∀n∈xs,-2<=n/\n<=99)/\∀H',Same H H'->Q (.bl true) H'
noncomputable def rQ:Sp:=λvs H Q _=> ∃a g w,vs=[.ref a]/\GridAt H a g/\cR g w/\∀H',Same H H'->Q (.bl true) H'
theorem wQ {H:Hp}{a:gy}{xs:List V}{lo hi:Int}(h:H a=some (.tup xs))(h1:lo<=xs.length)(h2:(xs.length:Int)<=hi):dA H lo hi (.ref a)=true:=by
 unfold dA;rw[gK h];dsimp only
 rw[AS h1,AS h2];rfl
theorem pY (xs:List α):(xs.map λ_=>true).all id=true:=by simp
noncomputable def pB:Sp:=λvs H Q _=> ∃a g w,vs=[.ref a]/\GridAt H a g/\cR g w/\∀H',Same H H'->Q .non H'
noncomputable def dJ (H:Hp)(v:V):Option (Int×Int):=match tupOf H v with
 |some [.int r,.int c]=>some (r,c)
 |_=>none
noncomputable def isCell (H:Hp)(g:bE)(v:V):Bool:=match dJ H v with
 |some c=>decide (c∈bD pos g)
 |none=>false
noncomputable def yS:Sp:=λvs H Q _=> ∃a g w v,vs=[.ref a,v]/\GridAt H a g/\cR g w/\Kn H 2 v/\∀H',Same H H'->Q (.bl (isCell H g v)) H'
theorem A96 (F:D1 K mg "places_of_cells" rH ["mead"])(T:Txt mg):A1 P w K mg base 1 "places_of_cells" (dS pos):=by
 refine F.k ["mead"] ?_;ac_nf
 ·obtain⟨a,g,w',rfl,⟨bs,ha,hG⟩,G,q⟩:=h;refine⟨_,bB (bF (A2a (bH rH).names ["mead"] ["at","row","k","mark"] [] rfl (mV rfl rfl T.enumerate (bG (pv 0) aB)) rfl rfl rfl (by decide +kernel)
   (λZ=>bN rfl (bC (A4 0 nd4) (bC (A4 1 nd4) bO))) (λZ=>cB)
   (λZ=>mV rfl rfl T.enumerate (bG (pv 1) aB)) (λZ=>bN rfl (bC (A4 2 nd4) (bC (A4 3 nd4) bO)))
   (λZ=>fP (cI mN (pv 3) aV (nomark _))) (λZ=>cL (bG (pv 0) (bG (pv 2) aB))))),?_⟩
  refine⟨_,rfl,a,_,rfl,A3.of ha,λZ l hl=> ?_⟩;exact A1v (f:=pos) ha hG hl G.h4 (λxs hx=>by have:=G.len xs hx;have:=G.w5;omega) (λat' k r i H' Q' hq=> ⟨_,rfl,_,_,rfl,rfl,_,rfl,hq⟩) λσ H' ps hs zl hP=>q H' l ps hl hs zl hP
theorem B0c (F:D1 K mg "is_row" uL ["thing"])(T:Txt mg)(a1:A1 P w K mg base 1 "is_tuple_within" gW)(a2:A1 P w K mg base 2 "is_number_within" kW):A1 P w K mg base 3 "is_row" A1a:=by
 obtain⟨t1,mCol⟩:=T.cols;obtain⟨t2,mWa⟩:=T.water;obtain⟨t3,mWo⟩:=T.worth;refine F.k ["thing"] ?_;ac_nf
 ·obtain⟨b,xs,rfl,hb,h1,h6,hn,q⟩:=h;refine⟨_,aU (bS (bV (bL (a1.c hr (bG (pv 0) (bG aV (bG (eJ (v:=.int 6) rfl mCol ⟨_,rfl⟩) aB)))))) (bB (bF fD)) bT)
   (bB (bF (bJ (fE rfl) rfl T.all m5 (bG (bU (bH uL).names ["thing"] ["mark"] [] rfl (dM (pv 0)) rfl rfl rfl (by decide +kernel)
    (λZ=>aQ (i:=0) (show(["mark"]:List Str).Nodup by decide +kernel) rfl (jr rfl)) (λZ=>cB)
    (λZ=>a2.c hr (bG (pv 0) (bG (eJ (v:=.int (-2)) rfl mWa ⟨_,rfl⟩) (bG (eJ (v:=.int 99) rfl mWo ⟨_,rfl⟩) aB))))) aB)))),?_⟩
  have hz:(xs.map V.int).length<=1000:=by rw[b8];omega
  refine⟨_,rfl,.ref b,1,6,rfl,.inr (.inr ⟨_,hb,hz,λ_ _=>trivial⟩),_,rfl,?_⟩;rw[wQ hb (by rw[b8];omega) (by rw[b8];omega)];refine bR ⟨_,rfl,b,rfl,⟨_,A3.of hb⟩,λZ l hl=> ?_⟩;refine iG (λ_=> .bl true) hb hl hz (λx H' Q' hm hs hq=> ?_) λσ H' hs zl=> ?_
  ·obtain⟨n,hn',rfl⟩:=dv.mp hm;have:=hn n hn';refine⟨_,rfl,.int n,-2,99,rfl,trivial,?_⟩;rw[show fA (-2) 99 (.int n)=true by simp[fA,this]];exact hq _ (Same.refl _)
  ·refine⟨l,(xs.map V.int).map λ_=>true,rfl,A2.of (by rw[zl];simp only[c9];rfl),?_⟩;rw[pY];exact q H' hs
theorem A3u (F:D1 K mg "is_mead" oH ["thing"])(T:Txt mg)(a1:A1 P w K mg base 1 "is_tuple_within" gW)(a2:A1 P w K mg base 3 "is_row" A1a)(a3:A1 P w K mg base 1 "places_of_cells" (dS pos)):A1 P w K mg base 4 "is_mead" rQ:=by
 obtain⟨t1,mRow⟩:=T.rows;obtain⟨t2,mCel⟩:=T.cells;refine F.k ["thing"] ?_;ac_nf
 ·obtain⟨a,g,w',rfl,hA,G,q⟩:=h;refine⟨_,aU (bS (bV (bL (a1.c hr (bG (pv 0) (bG aV (bG (eJ (v:=.int 4) rfl mRow ⟨_,rfl⟩) aB)))))) (bB (bF fD)) bT)
   (aU (bS (bV (bL (bJ (fE rfl) rfl T.all m5 (bG (bU (bH oH).names ["thing"] ["row"] [] rfl (dM (pv 0)) rfl rfl rfl (by decide +kernel)
    (λZ=>aQ (i:=0) (show(["row"]:List Str).Nodup by decide +kernel) rfl (jr rfl)) (λZ=>cB) (λZ=>a2.c hr (bG (pv 0) aB))) aB)))) (bB (bF fD)) bT)
   (aU (bS (bV (bL (bJ (fE rfl) rfl T.all m5 (bG (bU (bH oH).names ["thing"] ["row"] [("thing",0)] rfl (dM (pv 0)) rfl rfl rfl (by decide +kernel)
    (λZ=>aQ (i:=0) (show(["row","thing"]:List Str).Nodup by decide +kernel) rfl (jr rfl)) (λZ=>cB)
    (λZ=>dE gB (bJ eK rfl T.len jm (bG (pv 0) aB)) (bJ eK rfl T.len jm (bG (cA cZ (pv 1) aV (λ_ _=>rfl)) aB)) (nomark _))) aB)))) (bB (bF fD)) bT)
   (bB (bF (tN jF jF aV (bJ eK rfl T.len jm (bG (a3.c hr (bG (pv 0) aB)) aB)) (eJ (v:=.int 10) rfl mCel ⟨_,rfl⟩)))))),?_⟩
  obtain⟨bs,ha,hG⟩:=id hA;have hbl:bs.length=g.length:=Paired.length hG;have h4:=G.h4;have h1:=G.h1;have w5:=G.w5;have hz:(bs.map V.ref).length<=1000:=by rw[b8];omega
  refine⟨_,rfl,.ref a,1,4,rfl,.inr (.inr ⟨_,ha,hz,λ_ _=>trivial⟩),_,rfl,?_⟩;rw[wQ ha (by rw[b8];omega) (by rw[b8];omega)];refine bR ⟨_,rfl,a,rfl,⟨_,A3.of ha⟩,λZ l hl=> ?_⟩;have row:∀x∈bs.map V.ref,∃b xs,x= .ref b/\H b=some (.tup ((xs:List Int).map V.int))/\xs∈g:=λx hx=>by
   obtain⟨b,hb,rfl⟩:=dv.mp hx;obtain⟨i,hi⟩:=du.mp hb;obtain⟨xs,h1,h2⟩:=hG.row hi;exact⟨b,xs,rfl,h2,d3 h1⟩
  refine iG (λ_=> .bl true) ha hl hz (λx H' Q' hm hs hq=> ?_) λσ H1 s1 hl1=> ?_
  ·obtain⟨b,xs,rfl,hb,hx⟩:=row x hm;have:=G.len xs hx;have:=G.w1;exact⟨_,rfl,b,xs,rfl,hs _ _ hb,by omega,by omega,G.num xs hx,λH3 s3=>hq H3 s3⟩
  ·refine⟨l,(bs.map V.ref).map λ_=>true,rfl,A2.of (by rw[hl1];simp only[c9];rfl),_,rfl,?_⟩;rw[pY];refine bR ⟨_,rfl,a,rfl,⟨_,A3.of (s1 _ _ ha)⟩,λZ2 l2 AF=> ?_⟩;refine iG (rest:=[some (.ref a)]) (λ_=> .bl true) (s1 _ _ ha) AF hz (λx H' Q' hm hs hq=> ?_) λσ H2 s2 hl2'=> ?_
   ·obtain⟨b,xs,rfl,hb,hx⟩:=row x hm;obtain⟨xs0,e0⟩:∃xs0,g[0]?=some xs0:=⟨g[0],bq (by omega)⟩;obtain⟨b0,hb0,eb0⟩:=hG.get e0;have sH:=s1.trans hs;refine⟨_,rfl,b,_,rfl,.inr (A3.of (sH _ _ hb)),_,rfl,a,_,0,.ref b0,rfl,rfl,A3.of (sH _ _ ha),dO (j:=0) (by rw[br,hb0];rfl),b0,_,rfl,.inr (A3.of (sH _ _ eb0)),rfl,?_⟩;rw[AS (by rw[b8,b8,G.len xs hx,G.len xs0 (d3 e0)])];exact hq _ (Same.refl _)
   ·refine⟨l2,(bs.map V.ref).map λ_=>true,rfl,A2.of (by rw[hl2'];simp only[c9];rfl),_,rfl,?_⟩;rw[pY];have s12:=s1.trans s2;refine bR ⟨_,rfl,a,g,w',rfl,hA.same s12,G,λH3 l3 ps hl3' s3 hl3 hP=> ?_⟩;have hp:ps.length=_:=Paired.length hP;rw[fL]at hp;have c1:=G.c1;have c10:=G.c10;refine⟨l3,_,rfl,.inl (A2.of hl3),_,_,rfl,rfl,_,rfl,eZ (λz=> ?_) λz=>absurd ?_ z⟩
    ·refine⟨_,_,rfl,rfl,?_⟩;dsimp only
     rw[AS (show(((ps.map V.ref).length:Nat):Int)<=10 by rw[b8];omega)];exact q H3 (s12.trans s3)
    ·rw[b8];omega
theorem A68 (F:D1 K mg "check_mead" wO ["mead"])(aI:A1 P w K mg base 4 "is_mead" rQ):A1 P w K mg base 5 "check_mead" pB:=by
 refine F.k ["mead"] ?_;ac_nf
 ·obtain⟨a,g,w',rfl,hA,G,q⟩:=h;refine⟨_,bB (bS (bV (bL (aI.c hr (aG (pv 0) aB)))) dR bT),?_⟩;exact⟨_,rfl,a,g,w',rfl,hA,G,λH' hs=> ⟨_,rfl,bR (q H' hs)⟩⟩
theorem A9h (F:D1 K mg "cells_of" A16 ["mead"])(aC:A1 P w K mg base 5 "check_mead" pB)(aP:A1 P w K mg base 1 "places_of_cells" (dS pos)):A1 P w K mg base 6 "cells_of" (dS pos):=by
 refine F.k ["mead"] ?_;ac_nf
 ·obtain⟨a,g,w',rfl,hA,G,q⟩:=h;refine⟨_,aU (cP (aC.c hr (aG (pv 0) aB)))<|bB (bF (aP.c hr (aG (pv 0) aB))),?_⟩;refine⟨_,rfl,a,g,w',rfl,hA,G,λH1 s1=> ?_⟩;exact⟨_,rfl,a,g,w',rfl,hA.same s1,G,λH2 l ps hl s2 zl hP=>q H2 l ps (s1.free hl) (s1.trans s2) zl hP⟩
theorem A4m (F:D1 K mg "roads_of" sY ["mead"])(T:Txt mg)(T2:eN mg)(aC:A1 P w K mg base 5 "check_mead" pB):A1 P w K mg base 6 "roads_of" (dS road):=by
 obtain⟨tR,mR⟩:=T2.road;refine F.k ["mead"] ?_;ac_nf
 ·obtain⟨a,g,w',rfl,hA,G,q⟩:=h;refine⟨_,aU (cP (aC.c hr (aG (pv 0) aB)))<|bB (bF (A2a (bH sY).names ["mead"] ["at","row","k","mark"] [] rfl (mV rfl rfl T.enumerate (bG (pv 0) aB)) rfl rfl rfl (by decide +kernel)
   (λZ=>bN rfl (bC (A4 0 nd4) (bC (A4 1 nd4) bO))) (λZ=>cB)
   (λZ=>mV rfl rfl T.enumerate (bG (pv 1) aB)) (λZ=>bN rfl (bC (A4 2 nd4) (bC (A4 3 nd4) bO)))
   (λZ=>fP (cI gB (pv 3) (eJ (v:=.int (-1)) rfl mR ⟨_,rfl⟩) (nomark _))) (λZ=>cL (bG (pv 0) (bG (pv 2) aB))))),?_⟩
  refine⟨_,rfl,a,g,w',rfl,hA,G,λH1 s1=> ?_⟩;obtain⟨bs,ha,hG⟩:=hA.same s1;refine⟨_,rfl,a,_,rfl,A3.of ha,λZ l hl=> ?_⟩;refine A1v (f:=road) ha hG hl G.h4 (λxs hx=>by have:=G.len xs hx;have:=G.w5;omega) (λat' k r i H' Q' hq=> ⟨_,rfl,rfl,_,rfl,?_⟩) λσ H' ps hs zl hP=>q H' l ps (s1.free hl) (s1.trans hs) zl hP;have e:decide (V.int i=V.int (-1))=road i:=by
   unfold road;rw[iy];simp
  rw[e];exact hq
noncomputable def yI:Sp:=λvs H Q _=> ∃v,vs=[v]/\Kn H 2 v/\∀H',Same H H'->Q (.bl (dJ H v).isSome) H'
theorem A2m (F:D1 K mg "is_pair_of_numbers" rC ["thing"])(T:Txt mg)(aT:A1 P w K mg base 1 "is_tuple_within" gW)(aN:A1 P w K mg base 1 "is_number" nL):A1 P w K mg base 2 "is_pair_of_numbers" yI:=by
 refine F.k ["thing"] ?_;ac_nf
 ·obtain⟨v,rfl,k,q⟩:=h;refine⟨_,bB (bF (gH (aT.c hr (aG (pv 0) (cO aV (cO aV aB)))) (gI (bJ (fE rfl) rfl T.all m5 (cM (bU (bH rC).names ["thing"] ["number"] [] rfl (dM (pv 0)) rfl rfl rfl (by decide +kernel)
    (λZ=>aQ (i:=0) (show(["number"]:List Str).Nodup by decide +kernel) rfl (jr rfl)) (λZ=>cB) (λZ=>aN.c hr (aG (pv 0) aB))) aB))))),?_⟩
  refine⟨_,rfl,v,2,2,rfl,k.le (by decide),_,rfl,cU (λe'=> ?_) λe'=> ?_⟩
  ·unfold dA at e';cases z:tupOf H v with
   |none=>rw[z]at e';cases e'
   |some xs=>
    rw[z]at e';obtain⟨p,rfl,hp⟩:=gU z;obtain⟨hz,hk⟩:=k.items hp;have rg:xs.length=2:=by
     simp only[i4,decide_eq_true_eq]at e';omega
    refine⟨_,rfl,p,rfl,⟨xs,A3.of hp⟩,λZ l hl=> ?_⟩;refine iG (λx=> .bl (isInt x)) hp hl hz (λx H' Q' hm hs hq=> ?_) λσ H1 s1 hl1=> ?_
    ·exact⟨_,rfl,x,rfl,(hk x hm).ext hs.ext,hq _ (Same.refl _)⟩
    ·refine⟨l,xs.map isInt,rfl,A2.of (by rw[hl1,c9];rfl),?_⟩;have:(dJ H (.ref p)).isSome=(xs.map L2.isInt).all id:=by
      unfold dJ;rw[z]
      match xs,rg with
      | [x,y],_=>cases x<;>cases y<;>rfl
     have q':=q H1 s1;rw[this]at q';exact q'
  ·have:(dJ H v).isSome=false:=by
    unfold dA at e';unfold dJ;cases z:tupOf H v with
    |none=>rfl
    |some xs=>
     rw[z]at e'
     match xs,e' with
     | [x,y],e'=>simp at e'
     | [],_=>rfl
     | [x],_=>cases x<;>rfl
     |x::y::u::t,_=>cases x<;>cases y<;>rfl
   have q':=q H (Same.refl H);rw[this]at q';exact q'
theorem B38 (F:D1 K mg "is_cell" wY ["mead","thing"])(aT:A1 P w K mg base 2 "is_pair_of_numbers" yI)(aP:A1 P w K mg base 1 "places_of_cells" (dS pos)):A1 P w K mg base 3 "is_cell" yS:=by
 refine F.k ["mead","thing"] ?_;ac_nf
 ·obtain⟨a,g,w',v,rfl,hA,G,k,q⟩:=h;refine⟨_,bB (bF (gH (aT.c hr (aG (pv 1) aB)) (gI (dE (A5m (kA hr)) (pv 1) (aP.c hr (aG (pv 0) aB)) rfl)))),?_⟩;refine⟨_,rfl,v,rfl,k,λH1 s1=> ⟨_,rfl,cU (λe=> ?_) λe=> ?_⟩⟩
  ·obtain⟨⟨r,c⟩,z⟩:=j3.mp e;have zt:tupOf H v=some [.int r,.int c]:=by
    unfold dJ at z
    split at z
    ·rename_i r2 c2 hz;injection z with z;injection z with z1 z2
     subst z1 z2;exact hz
    ·cases z
   obtain⟨p,rfl,hp⟩:=gU zt;refine⟨_,rfl,_,rfl,a,g,w',rfl,hA.same s1,G,λH2 l2 ps AF s2 hl2' hP=> ?_⟩;refine⟨p,l2,ps,bD pos g,(r,c),rfl,rfl,s2 _ _ (s1 _ _ hp),hl2',hP,?_⟩;have:isCell H g (.ref p)=decide ((r,c)∈bD pos g):=by unfold isCell;rw[z]
   have q':=q H2 (s1.trans s2);rw[this]at q';exact q'
  ·have:isCell H g v=false:=by
    unfold isCell;cases z:dJ H v with
    |none=>rfl
    |some c=>rw[z]at e;cases e
   have q':=q H1 s1;rw[this]at q';exact q'
noncomputable def wE:Sp:=λvs H Q _=> ∃a l g w ps,vs=[.ref a,.ref l]/\GridAt H a g/\cR g w/\H l=some (.lst ((ps:List gy).map V.ref))/\PlAt H ps (bD pos g)/\∀H',Same H H'->Q (.int (totG g)) H'
theorem mK:(["row","column","mead"]:List Str).Nodup:=by decide +kernel
theorem A2w (F:D1 K mg "worth_together" lN ["mead","places"])(T2:eN mg):A1 P w K mg base 1 "worth_together" wE:=by
 refine F.k ["mead","places"] λnd f cdv A outer s H2 vs Q E hr h=> ?_
 ·obtain⟨a,l,g,w',ps,rfl,hA,G,zl,hP,q⟩:=h;refine⟨_,bB (bF (bJ (wW rfl) rfl T2.sum boot_sum (cM (bU (bH lN).names ["mead","places"] ["row","column"] [("mead",0)] rfl (dH (pv 1)) rfl rfl rfl (by decide +kernel)
    (λZ=>bN rfl (bC (A4 0 mK) (bC (A4 1 mK) bO))) (λZ=>cB) (λZ=>cA cZ (cA cZ (pv 2) (pv 0) (λ_ _=>rfl)) (pv 1) (λ_ _=>rfl))) aB))),?_⟩
  have s12:Same H2 H2:=Same.refl H2;refine⟨_,rfl,?_⟩;have hpl:ps.length=(bD pos g).length:=Paired.length hP;have h20:ps.length<=10:=by rw[hpl,fL];exact G.c10
  refine⟨l,rfl,⟨_,A2.of zl⟩,λZ l3 hl3=> ?_⟩;refine eW (K:=K) (a:=l) (xs:=ps.map V.ref) (λi σ H'=>(∃o1 o2,σ=[o1,o2,some (.ref a)])/\Same H2 H'/\H' l3=some (.lst ((((bD pos g).take i).map (atG g)).map V.int))) ⟨⟨_,_,rfl⟩,aY hl3,by rw[aJ];rfl⟩ (λi σ H' _ h=>A2.of (h.2.1 _ _ zl)) ?_ ?_
  ·rintro i x σ H' hi ⟨⟨o1,o2,rfl⟩,hs,hl3'⟩;obtain⟨p,hpi,rfl⟩:∃p,ps[i]?=some p/\V.ref p=x:=by
    rw[br]at hi;cases e:ps[i]? with
    |none=>rw[e]at hi;cases hi
    |some p=>rw[e]at hi;exact⟨p,rfl,ig hi⟩
   have hil:i<ps.length:=(AR.mp hpi).1;obtain⟨cc,hci,hpc⟩:∃cc,(bD pos g)[i]?=some cc/\H2 p=some (.tup [.int cc.1,.int cc.2]):=by
    have go:∀{ps:List gy}{cs:List (Int×Int)}{i:Nat}{p:gy},PlAt H2 ps cs->ps[i]?=some p->∃cc,cs[i]?=some cc/\H2 p=some (.tup [.int cc.1,.int cc.2]):=by
     intro ps cs i p h
     induction h generalizing i with
     |nil=>intro z;simp at z
     |cons r t ih=>
      intro z;cases i with
      |zero=>cases z;exact⟨_,rfl,r⟩
      |succ i=>exact ih (by simpa using z)
    exact go hP hpi
   obtain⟨i',j',xs,n,rfl,hg,hx,hf⟩:=mem_gridF.mp (d3 hci);obtain⟨bs,b,h1,h2,h3,h4⟩:=(hA.same (s12.trans hs)).ix hg hx;refine⟨p,_,rfl,A3.of (hs _ _ hpc),rfl,_,_,rfl,_,_,rfl,rfl,?_⟩;refine gV ?_;refine⟨_,rfl,_,rfl,a,_,_,_,rfl,rfl,A3.of h1,h2,_,rfl,b,_,_,_,rfl,rfl,A3.of h3,h4,?_⟩;refine⟨_,hl3',cG (by rw[b8,b8,cm];omega),⟨_,_,rfl⟩,λb' u e'=> ?_,?_⟩
   ·rw[bA (bK e' hl3)];exact hs _ _ e'
   ·rw[aJ,fq,hci,cx,cx];show some (HO.lst (_++[V.int n]))=some (HO.lst (_++[V.int (atG g ((i':Int),(j':Int)))]));rw[iZ hg hx]
  ·rintro σ H' ⟨_,hs,hl3'⟩;rw[b8,hpl,fo (AY _)]at hl3';refine⟨l3,_,rfl,A2.of hl3',by rw[b8,←hpl];omega,λn hn=> ?_,?_⟩
   ·rw[qU]at hn;obtain⟨ys,hy,hny⟩:=dq.mp hn;obtain⟨xs,hxg,rfl⟩:=dv.mp hy;have:=G.num xs hxg n (dj.mp hny).1;omega
   ·rw[A5a];exact q H' (s12.trans hs)
noncomputable def qJ:Sp:=λvs H Q _=> ∃p c,vs=[.ref p]/\PlA H p c/\∀l qs H',H l=none->Same H H'->H' l=some (.lst ((qs:List gy).map V.ref))->PlAt H' qs (beside c)->Q (.ref l) H'
noncomputable abbrev nBs:List Str:=["place","row","column"]
theorem B1a (F:D1 K mg "places_beside" A1n ["place"]):A1 P w K mg base 1 "places_beside" qJ:=by
 refine F.k nBs ?_;ac_nf
 ·obtain⟨p,c,rfl,hp,q⟩:=h;refine⟨_,B1r (cK (pv 0) (bN rfl (bC (A4 1 nd) (bC (A4 2 nd) bO))))<|
   A8b (lstq (lO (tupq (jT (bI jO (pv 1) aV) (nH (pv 2) cT))) (lO (tupq (nH (pv 1) (jT (bI jO (pv 2) aV) cT))) (lO (tupq (nH (pv 1) (jT (bI dG (pv 2) aV) cT))) (lO (tupq (jT (bI dG (pv 1) aV) (nH (pv 2) cT))) cT))))),?_⟩
  refine⟨_,rfl,p,_,rfl,A3.of hp,rfl,_,_,rfl,_,_,rfl,rfl,?_⟩;dsimp only
  refine B2s ?_;refine⟨_,rfl,_,_,rfl,rfl,_,rfl,by show 2<=gz;decide,λp1 h1=> ?_⟩;have s1:=aY (o:=.tup [.int (c.1 - 1),.int c.2]) h1;refine⟨_,rfl,_,rfl,_,_,rfl,rfl,by show 2<=gz;decide,λp2 h2=> ?_⟩;have s2:=aY (o:=.tup [.int c.1,.int (c.2 - 1)]) h2;refine⟨_,rfl,_,rfl,_,_,rfl,rfl,by show 2<=gz;decide,λp3 h3=> ?_⟩;have s3:=aY (o:=.tup [.int c.1,.int (c.2+1)]) h3;refine⟨_,rfl,_,_,rfl,rfl,_,rfl,by show 2<=gz;decide,λp4 h4=> ?_⟩;have s4:=aY (o:=.tup [.int (c.1+1),.int c.2]) h4;refine⟨by show 4<=gz;decide,λl hl=> ?_⟩;have s5:=aY (o:=.lst [.ref p1,.ref p2,.ref p3,.ref p4]) hl;have s14:=((s1.trans s2).trans s3).trans s4;exact q l [p1,p2,p3,p4] _ (s14.free hl) (s14.trans s5) aJ (.cons (s5 _ _ (s4 _ _ (s3 _ _ (s2 _ _ aJ)))) (.cons (s5 _ _ (s4 _ _ (s3 _ _ aJ))) (.cons (s5 _ _ (s4 _ _ aJ)) (.cons (s5 _ _ aJ) .nil))))
theorem A38 (h:PlAt H ps cs)(h':PlAt H qs ds):PlAt H (ps++qs) (cs++ds):=by
 induction h with
 |nil=>exact h'
 |cons r t ih=>exact .cons r ih
end
theorem LandOf.len (G:cR g w)(h:LandOf g cs):cs.length<=10:=by have:=yf.length_le h;rw[fL]at this;have:=G.c10;omega
noncomputable def unP (l:List Int):Pl:=(l.getD 0 0,l.getD 1 0)
theorem xL {X:Cx}{H:Hp}{l:gy}{qs:List gy}{R:List Pl}{Q:VK}(hl:H l=some (.lst (qs.map V.ref)))(hP:PlAt H qs R)(h40:R.length<=40)(q:∀l9 qs' R' H',H l9=none->Same H H'->H' l9=some (.lst ((qs':List gy).map V.ref))->PlAt H' qs' R'->R'.Perm R->R'.Pairwise (λa b=>HT.lexLt [b.1,b.2] [a.1,a.2]=false)->Q (.ref l9) H'):
  ∃(p:gy)(zs:List (gy×List Int)),[V.ref l]=[.ref p]/\A2 X.K H p (zs.map λz=>V.ref z.1)/\(∀z∈zs,H z.1=some (.tup (z.2.map V.int))/\z.2≠[])/\zs.length<64/\∀l AD,H l=none->qM zs AD->Q (.ref l) (upd H l (.lst (AD.map λz=>V.ref z.1))):=by
 have hzz:∀{qs:List gy}{R:List Pl},PlAt H qs R->∃zs:List (gy×List Int),(zs.map λz=>z.1)=qs/\(zs.map λz=>z.2)=R.map (λs=> [s.1,s.2])/\∀z∈zs,H z.1=some (.tup (z.2.map V.int))/\z.2≠[]:=fun{qs R} h=>by
  induction h with
  |nil=>exact⟨[],rfl,rfl,λz hz=>by cases hz⟩
  |cons r t ih=>
   rename_i q s _ _;obtain⟨zs,i1,i2,i3⟩:=ih;refine⟨(q,[s.1,s.2])::zs,by rw[cz,i1],by rw[cz,i2];rfl,λz hz=> ?_⟩;rcases di.mp hz with e|e
   ·rw[e];exact⟨r,by simp⟩
   ·exact i3 z e
 obtain⟨zs,i1,i2,i3⟩:=hzz hP;have un:∀z∈zs,∃s:Pl,z.2=[s.1,s.2]/\unP z.2=s:=λz hz=>by
  have e2:z.2∈zs.map λz=>z.2:=dv.mpr ⟨z,hz,rfl⟩;rw[i2]at e2;obtain⟨s,_,es⟩:=dv.mp e2;exact⟨s,es.symm,by rw[←es];rfl⟩
 have hzl:zs.length<=40:=by
  have h1:=congrArg kq i2;rw[b8,b8]at h1;omega
 refine⟨l,zs,rfl,A2.of (by rw[hl,←i1,c9];rfl),i3,by omega,λl9 AD hl9 so=> ?_⟩;have s9:=aY (o:=.lst (AD.map λz=>V.ref z.1)) hl9;refine q l9 (AD.map λz=>z.1) (AD.map λz=>unP z.2) _ hl9 s9 (by rw[aJ,c9];rfl) ?_ ?_ ?_
 ·have key:∀ys:List (gy×List Int),(∀z∈ys,z∈zs)->PlAt (upd H l9 (.lst (AD.map λz=>V.ref z.1))) (ys.map λz=>z.1) (ys.map λz=>unP z.2):=λys=>by
   induction ys with
   |nil=>intro _;exact .nil
   |cons z ys ih=>
    intro hm;refine .cons ?_ (ih λy hy=>hm y (AW _ hy));have hz:=hm z AX;obtain⟨s,e1,e2⟩:=un z hz;show PlA _ z.1 (unP z.2);rw[e2];have:=(i3 z hz).1;rw[e1]at this;exact s9 _ _ this
  exact key AD λz hz=>so.1.mem_iff.mp hz
 ·have h1:=(so.1.map λz=>z.2).map unP;rw[i2,c9,c9]at h1;refine h1.trans (lj.of_eq ?_);have:(unP∘λs:Pl=> [s.1,s.2])=id:=rfl;rw[this,c8]
 ·rw[fh];refine so.2.imp_of_mem fun{a b} ha hb hab=> ?_;obtain⟨s,e1,e2⟩:=un a (so.1.mem_iff.mp ha);obtain⟨s',e1',e2'⟩:=un b (so.1.mem_iff.mp hb);rw[e1,e1']at hab;rw[e2,e2'];exact hab
noncomputable def A0u:Sp:=λvs H Q _=> ∃t p cs c,vs=[.ref t,.ref p]/\A6 H t cs/\cs.length<=10/\PlA H p c/\c∈cs/\∀t' P H',Same H H'->A6 H' t' P->sG cs c P->Q (.ref t') H'
section
variable {P:il}{w:i6}{K:W.Frag}{mg:Str->Option gw}{base:iw}
noncomputable abbrev nPr:List Str:=["land","start","reached","at","beside"]
theorem B2k:(["place","land","reached"]:List Str).Nodup:=by decide +kernel
theorem B4i (F:D1 K mg "piece_round" oX ["land","start"])(T:Txt mg)(T2:eN mg)(a1:A1 P w K mg base 1 "places_beside" qJ):A1 P w K mg base 2 "piece_round" A0u:=by
  refine F.k nPr ?_;ac_nf
  · obtain⟨t,pa,cs,c,rfl,hT,h10,hp,hc,q⟩:=h
    refine⟨_,aU (bP (i:=2) nd rfl (nz rfl) (eG (aG (pv 1) aB)))<|
      aU (bP (i:=3) nd rfl (jr rfl) aV)<|
      aU (nC jk (cI iM (pv 3) (bJ eK rfl T.len jm (aG (pv 2) aB)) (nomark _))
        (aU (bP (i:=4) nd rfl (jr rfl) (a1.c hr (eF (cA fT (pv 2) (pv 3) (λ_ _=>rfl)) aB)))<|
         aU (cP (jB ka w6 w8 B3q (pv 2) (cM (bU (bH oX).names nPr ["place"] [("land",0),("reached",2)] rfl (dH (pv 4)) rfl rfl rfl (by decide +kernel)
            (λZ=>A4 0 B2k) (λZ=>fP (PW.pt (lD (cI (jV 1 (dX hr)) (pv 0) (pv 1) rfl) (lA (cI (A2l 1 (dX hr)) (pv 0) (pv 2) rfl))))) (λZ=>pv 0)) aB)))<|
         bB (A7y (i:=3) nd rfl (jr rfl) aV B2z)))<|
      bB (bF (fK gM rfl T.tuple k7 (bQ (bJ oK rfl T2.sorted za (aG (pv 2) aB)) aB))),?_⟩
    obtain⟨ts,ht,hP⟩:=hT;refine⟨_,rfl,by show 1<=gz;decide,λlr hlr=> ?_⟩;have s0:=aY (o:=.lst [.ref pa]) hlr;refine⟨λm σ H'=> ∃k o qs R,m+k=10/\σ=[some (.ref t),some (.ref pa),some (.ref lr),some (.int (k:Nat)),o]/\Same H H'/\H' lr=some (.lst ((qs:List gy).map V.ref))/\PlAt H' qs R/\Rch cs c R k,
      ⟨10,0,_,[pa],[c],rfl,rfl,s0,aJ,.cons (s0 _ _ hp) .nil,Rch.start hc⟩,?_⟩
    rintro m σ H' ⟨k,o,qs,R,hm,rfl,hs,hlr',hR,rc⟩;have hqR:qs.length=R.length:=Paired.length hR;have hRl:=rc.len;refine⟨_,rfl,_,rfl,lr,_,rfl,.inl (A2.of hlr'),_,_,rfl,rfl,_,rfl,eZ (λz=> ?_) λz=> ?_⟩
    · rw[b8,hqR]at z
      have hk:k<R.length:=by omega
      have hkq:k<qs.length:=by omega
      have hqk:qs[k]?=some (qs[k]):=bq hkq;obtain⟨x,hx,he⟩:=hR.at hqk;refine⟨λσ' H2=> ∃o qs',σ'=[some (.ref t),some (.ref pa),some (.ref lr),some (.int ((k+1:Nat):Int)),o]/\Same H H2/\H2 lr=some (.lst ((qs':List gy).map V.ref))/\PlAt H2 qs' (R++nb cs R x),
        λσ' H2 ⟨o,qs',h1,h2,h3,h4⟩=> ⟨m - 1,by omega,k+1,o,qs',_,by omega,h1,h2,h3,h4,rc.step hx⟩,?_⟩
      refine⟨_,rfl,_,rfl,lr,_,_,_,rfl,rfl,A2.of hlr',dO (v:=V.ref qs[k]) (by rw[br,hqk];rfl),?_⟩;refine⟨qs[k],x,rfl,he,λlb bs H2 hlb s2 hlb2 hB=> ?_⟩;have hR2:=hR.same s2;have hlr2:=s2 _ _ hlr';have hP2:=(hP.same hs).same s2;have ht2:=s2 _ _ (hs _ _ ht);have hb4:bs.length=4:=Paired.length hB;refine⟨_,rfl,.inl ⟨rfl,_,A2.of hlr2⟩,?_⟩;refine⟨_,rfl,lb,rfl,⟨_,A2.of hlb2⟩,λZ ln hln=> ?_⟩;refine eW (K:=K) (a:=lb) (xs:=bs.map V.ref) (λj σ H3=>(∃o,σ=[o,some (.ref t),some (.ref lr)])/\Same H2 H3/\∃ns,H3 ln=some (.lst ((ns:List gy).map V.ref))/\PlAt H3 ns (((beside x).take j).filter λy=>decide (y∈cs)&& !decide (y∈R)))
        ⟨⟨_,rfl⟩,aY hln,[],by rw[aJ];rfl,.nil⟩ (λj σ H3 _ h=>A2.of (h.2.1 _ _ hlb2)) ?_ ?_
      · rintro j y σ H3 hy ⟨⟨o',rfl⟩,hs3,ns,hn,hN⟩
        obtain⟨b,hbj,rfl⟩:=eY hy;obtain⟨d,hd,hbd⟩:=hB.at hbj;have hj:j<4:=(AR.mp hd).1;have hbd3:=hs3 _ _ hbd;have hnl:ns.length<=4:=by
          have h1:ns.length=_:=Paired.length hN;have h2:=b7 (λy=>decide (y∈cs)&& !decide (y∈R)) ((beside x).take j);rw[cm]at h2;omega
        have et:((beside x).take (j+1)).filter (λy=>decide (y∈cs)&& !decide (y∈R))=((beside x).take j).filter (λy=>decide (y∈cs)&& !decide (y∈R))++(if (decide (d∈cs)&& !decide (d∈R))=true then [d]else []):=by
          rw[fq,hd,au]
          congr 1
          cases e:(decide (d∈cs)&& !decide (d∈R))
          · simp[e]
          · simp[e]
        rw[et];show cS _ _ _ [some (.ref b),some (.ref t),some (.ref lr)] H3;refine⟨_,rfl,_,rfl,t,_,_,rfl,.inl (hs3 _ _ ht2),jG hbd3 (hP2.same hs3),_,rfl,?_⟩;rw[A0b];refine cU (λz1'=> ?_) λz1'=> ?_
        · have z1:d∈cs:=by simpa using z1'
          refine⟨_,rfl,_,rfl,lr,_,_,rfl,.inr (hs3 _ _ hlr2),jG hbd3 (hR2.same hs3),_,rfl,?_⟩;rw[A0b];refine cU (λz2'=> ?_) λz2'=> ?_
          · have z2:d∉R:=by simpa using z2'
            rw[if_pos (by rw[AS z1,AU z2];rfl)];refine⟨_,rfl,_,hn,cG (by rw[b8];omega),⟨_,rfl⟩,λb' u e'=> ?_,ns++[b],?_,?_⟩
            · rw[bA (bK e' hln)];exact hs3 _ _ e'
            · rw[aJ,cx];rfl
            · exact PlAt.snoc (Paired.mapP hN λ_ _ z=>PlA.put hn z) (PlA.put hn hbd3)
          · have z2:d∈R:=by simpa using z2'
            rw[if_neg (by rw[AS z2];simp),ak];exact⟨⟨_,rfl⟩,hs3,ns,hn,hN⟩
        · have z1:d∉cs:=by simpa using z1'
          rw[if_neg (by rw[AU z1];simp),ak];exact⟨⟨_,rfl⟩,hs3,ns,hn,hN⟩
      · rintro σ H3 ⟨⟨o',rfl⟩,hs3,ns,hn,hN⟩
        rw[b8,hb4]at hN;have hN':PlAt H3 ns (nb cs R x):=hN;have hnl:ns.length<=4:=by
          have h1:ns.length=(nb cs R x).length:=Paired.length hN';have h2:(nb cs R x).length<=(beside x).length:=b7 _ _;have h3:(beside x).length=4:=rfl;omega
        have hlr3:=hs3 _ _ hlr2;refine⟨lr,ln,_,_,rfl,rfl,hlr3,hn,by rw[b8,b8,jh];omega,?_⟩;refine⟨_,rfl,_,_,rfl,rfl,⟨_,qs++ns,rfl,λb' u e'=> ?_,by rw[aJ,cx],?_⟩⟩
        · rw[bA (bK e' hlr)];exact hs3 _ _ (s2 _ _ (hs _ _ e'))
        · exact A38 (Paired.mapP (hR2.same hs3) λ_ _ z=>PlA.put hlr3 z) (Paired.mapP hN' λ_ _ z=>PlA.put hlr3 z)
    · rw[b8,hqR]at z
      refine⟨_,rfl,?_⟩;refine xL (X:=(fC CX0 P w K mg base nPr (k8 "piece_round") (bH oX) f cdv A outer s H E).nox) (Q:=λv H1=> ∃p ys,[v]=[V.ref p]/\((A2 K H1 p ys/\∀l,H1 l=none->Q (.ref l) (upd H1 l (.tup ys)))\/(A3 K H1 p ys/\Q (.ref p) H1))) hlr' hR (by omega) λl9 qs' R' H9 h9 s9 hl9 hR9 pm up=> ?_;refine⟨l9,_,rfl,.inl ⟨A2.of hl9,λt' ht'=> ?_⟩⟩;have s10:=aY (o:=.tup (qs'.map V.ref)) ht';exact q t' R' _ ((hs.trans s9).trans s10) ⟨qs',aJ,hR9.same s10⟩ (rc.fin (by omega) pm up)
noncomputable def upP (cs:List Pl):Bool:=decide (cs.Pairwise λc d=>HT.lexLt [c.1,c.2] [d.1,d.2]=true)
noncomputable def eP (H:Hp)(xs:List V):List Pl:=xs.filterMap (dJ H)
noncomputable def landV (H:Hp)(g:bE)(v:V):Bool:=match tupOf H v with
 |some xs=>xs.all (isCell H g)&&upP (eP H xs)
 |none=>false
theorem B2b (h:dJ H v=some c):∃p,v= .ref p/\PlA H p c:=by
 unfold dJ at h
 split at h
 ·rename_i r2 c2 hz;injection h with h
  subst h;obtain⟨p,rfl,hp⟩:=gU hz;exact⟨p,rfl,hp⟩
 ·cases h
theorem B0n (h:PlA H p c):dJ H (.ref p)=some c:=by unfold dJ;rw[gK h]
theorem tH:∀{xs:List V},xs.all (isCell H g)=true->∃ps:List gy,xs=ps.map V.ref/\PlAt H ps (eP H xs)/\∀c∈eP H xs,c∈bD pos g
 | [],_=> ⟨[],rfl,.nil,λc hc=>by cases hc⟩
 |x::xs,h=>by
  rw[aa,i4]at h;obtain⟨ps,e,hP,hc⟩:=tH h.2;have h1:=h.1;unfold isCell at h1;cases z:dJ H x with
  |none=>rw[z]at h1;cases h1
  |some c=>
   rw[z]at h1;obtain⟨p,rfl,hp⟩:=B2b z;have e2:eP H (.ref p::xs)=c::eP H xs:=by unfold eP;rw[ar,z]
   rw[e2];refine⟨p::ps,by rw[e];rfl,.cons hp hP,λd hd=> ?_⟩;rcases di.mp hd with rfl|hd
   ·exact of_decide_eq_true h1
   ·exact hc d hd
theorem B0k (hm:∀c∈cs,c∈bD pos g)(hu:cs.Pairwise A8):LandOf g cs:=by
 have key:∀(L cs:List Pl),L.Pairwise A8->cs.Pairwise A8->(∀c∈cs,c∈L)->cs.Sublist L:=by
  intro L
  induction L with
  |nil=>intro cs _ _ h;cases cs with|nil=>exact .slnil|cons c _=>exact absurd (h c AX) (by simp)
  |cons d L ih=>
   intro cs hL hc h;rw[ff]at hL;cases cs with
   |nil=>exact List.nil_sublist _
   |cons c cs=>
    rw[ff]at hc;have irr:∀a:Pl,¬A8 a a:=λa z=>by unfold A8 at z;rw[gZ]at z;cases z
    have tr:∀a b e:Pl,A8 a b->A8 b e->A8 a e:=λa b e h1 h2=>jH h1 h2;by_cases e:c=d
    ·subst e;refine .cons₂ _ (ih cs hL.2 hc.2 λx hx=> ?_);rcases di.mp (h x (AW _ hx))with z|z
     ·subst z;exact absurd (hc.1 x hx) (irr x)
     ·exact z
    ·refine .cons _ (ih (c::cs) hL.2 (ff.mpr hc) λx hx=> ?_);have hcL:c∈L:=by
      rcases di.mp (h c AX)with z|z
      ·exact absurd z e
      ·exact z
     rcases di.mp (h x hx)with z|z
     ·subst z;rcases di.mp hx with y|y
      ·exact absurd y.symm e
      ·exact absurd (tr _ _ _ (hL.1 c hcL) (hc.1 x y)) (irr x)
     ·exact z
 exact key _ _ (lY pos g) hu hm
theorem A4z (h:landV H g v=true):∃t cs,v= .ref t/\A6 H t cs/\LandOf g cs:=by
 unfold landV at h;cases z:tupOf H v with
 |none=>rw[z]at h;cases h
 |some xs=>
  rw[z]at h;rw[i4]at h;obtain⟨t,rfl,ht⟩:=gU z;obtain⟨ps,e,hP,hc⟩:=tH h.1;rw[e]at ht;have hu:(eP H xs).Pairwise λc d=>HT.lexLt [c.1,c.2] [d.1,d.2]=true:=by have h2:=h.2;unfold upP at h2;exact of_decide_eq_true h2
  exact⟨t,_,rfl,⟨ps,ht,hP⟩,B0k hc hu⟩
theorem Same.isCell (s:Same H H')(k:Kn H 1 v):M12.isCell H' g v=M12.isCell H g v:=by unfold M12.isCell dJ;rw[s.tupOf k]
theorem Same.landV (s:Same H H')(k:Kn H 2 v):M12.landV H' g v=M12.landV H g v:=by
 unfold M12.landV;rw[s.tupOf (k.le (by omega))];cases e:L2.tupOf H v with
 |none=>rfl
 |some xs=>
  obtain⟨a,rfl,ha⟩:=gU e;obtain⟨_,hx⟩:=k.items ha;have h1:xs.all (M12.isCell H' g)=xs.all (M12.isCell H g):=by
   rw[iy,ae,ae];exact⟨λh x hm=>by rw[←Same.isCell s (hx x hm)];exact h x hm,λh x hm=>by rw[Same.isCell s (hx x hm)];exact h x hm⟩
  have h2:eP H' xs=eP H xs:=by
   unfold eP;have:∀l:List V,(∀x∈l,x∈xs)->l.filterMap (dJ H')=l.filterMap (dJ H):=λl=>by
    induction l with
    |nil=>intro _;rfl
    |cons x l ih=>
     intro hl;have e2:dJ H' x=dJ H x:=by unfold dJ;rw[s.tupOf (hx x (hl x AX))]
     rw[ar,ar,e2,ih λy hy=>hl y (AW _ hy)]
   exact this xs λ_ h=>h
  dsimp only
  rw[h1,h2]
theorem A95 (cs:List Pl):((cs.zip (cs.drop 1)).map λp=>HT.lexLt [p.1.1,p.1.2] [p.2.1,p.2.2]).all id=upP cs:=by
 induction cs with
 |nil=>rfl
 |cons a cs ih=>
  cases cs with
  |nil=>simp[upP]
  |cons b cs=>
   have e:((a::b::cs).zip ((a::b::cs).drop 1)).map (λp:Pl×Pl=>HT.lexLt [p.1.1,p.1.2] [p.2.1,p.2.2])=HT.lexLt [a.1,a.2] [b.1,b.2]::((b::cs).zip ((b::cs).drop 1)).map λp:Pl×Pl=>HT.lexLt [p.1.1,p.1.2] [p.2.1,p.2.2]:=rfl;rw[e,aa,ih];unfold upP;rw[iy,i4,decide_eq_true_eq,decide_eq_true_eq];show A8 a b/\_↔_;rw[ff (a:=a)];constructor
   ·rintro⟨h1,h2⟩;refine⟨λx hx=> ?_,h2⟩;rcases di.mp hx with rfl|hx
    ·exact h1
    ·exact jH h1 ((ff.mp h2).1 x hx)
   ·rintro⟨h1,h2⟩;exact⟨h1 b AX,h2⟩
noncomputable def A13:Sp:=λvs H Q _=> ∃a cs,vs=[.ref a]/\A6 H a cs/\cs.length<=1000/\∀H',Same H H'->Q (.bl (upP cs)) H'
noncomputable def uK:Sp:=λvs H Q _=> ∃a g w v,vs=[.ref a,v]/\GridAt H a g/\cR g w/\Kn H 3 v/\∀H',Same H H'->Q (.bl (landV H g v)) H'
theorem kO:(["one","other"]:List Str).Nodup:=by decide +kernel
theorem B1b (F:D1 K mg "is_rising" iY ["things"])(T:Txt mg)(T2:eN mg):A1 P w K mg base 1 "is_rising" A13:=by
 refine F.k ["things"] ?_;ac_nf
 ·obtain⟨a,cs,rfl,⟨ps,ha,hP⟩,hz,q⟩:=h;have rg:ps.length=cs.length:=Paired.length hP;refine⟨_,bB (bF (bJ (fE rfl) rfl T.all m5 (cM (bU (bH iY).names ["things"] ["one","other"] [] rfl (rK kT_ok rfl T2.zip (aG (pv 0) (eF (gC jM (pv 0) (fY aV) gX) aB))) rfl rfl rfl (by decide +kernel)
   (λZ=>bN rfl (bC (A4 0 kO) (bC (A4 1 kO) bO))) (λZ=>cB) (λZ=>dE (A05 (gj (kA hr))) (pv 0) (pv 1) (nomark _))) aB))),?_⟩
  refine⟨_,rfl,_,rfl,_,rfl,a,_,rfl,ha,λt H1 s1 ht=> ?_⟩;rw[B4h]at ht;refine⟨a,t,ps.map V.ref,(ps.drop 1).map V.ref,rfl,A3.of (s1 _ _ ha),A3.of ht,λZ r hr'=> ?_⟩;refine nZ (xs:=ps.map V.ref) (ys:=(ps.drop 1).map V.ref) (by rw[b8,b8,b5];omega) (λi σ H'=>σ.length=2/\Same H1 H'/\H' r=some (.lst ((((cs.zip (cs.drop 1)).map λp=>HT.lexLt [p.1.1,p.1.2] [p.2.1,p.2.2]).take i).map V.bl))) ⟨rfl,aY hr',by rw[aJ];rfl⟩
   (λi σ H' h=> ⟨A3.of (h.2.1 _ _ (s1 _ _ ha)),A3.of (h.2.1 _ _ ht)⟩) ?_ ?_
  ·rintro i x y p3 σ H' hx hy ⟨hσ,hs,zl⟩ hp3
   match σ,hσ with
   | [x0,x1],_=>
   obtain⟨b,hb,rfl⟩:=eY hx;obtain⟨b2,hb2,rfl⟩:=eY hy;have hb2':ps[i+1]?=some b2:=by rw[bp]at hb2;rw[show i+1=1+i by omega];exact hb2
   obtain⟨c,hc,he⟩:=hP.at hb;obtain⟨c2,hc2,he2⟩:=hP.at hb2';have s3:=aY (o:=.tup [.ref b,.ref b2]) hp3;refine⟨p3,_,rfl,A3.of aJ,rfl,_,_,rfl,_,_,rfl,rfl,?_⟩;refine gV ?_;refine⟨_,rfl,_,rfl,b,b2,[c.1,c.2],[c2.1,c2.2],rfl,rfl,A3.of (s3 _ _ (hs _ _ (s1 _ _ he))),A3.of (s3 _ _ (hs _ _ (s1 _ _ he2))),?_⟩;have hz1:(cs.zip (cs.drop 1))[i]?=some (c,c2):=by
    rw[bu];refine⟨hc,?_⟩;rw[bp,show 1+i=i+1 by omega];exact hc2
   have hi:i<cs.length:=(AR.mp hc).1;refine⟨_,s3 _ _ zl,cG (by rw[b8,cm];omega),rfl,λb' u e'=> ?_,?_⟩
   ·rw[bA (bK e' hr')];exact s3 _ _ (hs _ _ e')
   ·rw[aJ,fq,br,hz1,cx];rfl
  ·rintro σ H' ⟨_,hs,zl⟩;have hle:((cs.zip (cs.drop 1)).map λp=>HT.lexLt [p.1.1,p.1.2] [p.2.1,p.2.2]).length<=((ps.drop 1).map V.ref).length:=by
    rw[b8,cp,b5,b8,b5];omega
   rw[fo hle]at zl;refine⟨r,_,rfl,A2.of zl,?_⟩;rw[A95];exact q H' (s1.trans hs)
theorem A74:(["place","mead"]:List Str).Nodup:=by decide +kernel
theorem A87 (F:D1 K mg "is_land" tJ ["mead","thing"])(T:Txt mg)(a1:A1 P w K mg base 5 "check_mead" pB)(a2:A1 P w K mg base 3 "is_cell" yS)(a3:A1 P w K mg base 1 "is_rising" A13):A1 P w K mg base 6 "is_land" uK:=by
 refine F.k ["mead","thing"] ?_;ac_nf
 ·obtain⟨a,g,w',v,rfl,hA,G,k,q⟩:=h;refine⟨_,aU (cP (a1.c hr (aG (pv 0) aB)))<|
   aU (bS (PW.pt (fH (bV (bL (bJ mG rfl T.isinstance pj (aG (pv 1) (aG (kX (v:=.ty "tuple") rfl T.tuple k7 rfl) aB))))) (gJ (bV (bL (bJ (fE rfl) rfl T.all m5 (cM (bU (bH tJ).names ["mead","thing"] ["place"] [("mead",0)] rfl (dM (pv 1)) rfl rfl rfl (by decide +kernel)
    (λZ=>A4 0 A74) (λZ=>cB) (λZ=>a2.c hr (aG (pv 1) (aG (pv 0) aB)))) aB))))))) (bB (bF fD)) bT)<|
   bB (bF (a3.c hr (aG (pv 1) aB))),?_⟩
  refine⟨_,rfl,a,g,w',rfl,hA,G,λH1 s1=> ?_⟩;have k1:=k.ext s1.ext;have q1:∀H',Same H1 H'->Q (.bl (landV H1 g v)) H':=λH' s'=>by rw[Same.landV s1 (k.le (by decide))];exact q H' (s1.trans s')
  obtain⟨ty,hty,_,_,k3⟩:=oN (K:=K) (k1.le (show 1<=3 by decide));refine⟨_,rfl,_,"tuple",ty,_,rfl,hty,k3,_,rfl,cU (λe=> ?_) λe=> ?_⟩
  ·refine dW ?_;have:landV H1 g v=false:=by
    unfold landV;cases z:tupOf H1 v with
    |none=>rfl
    |some xs=>rw[z]at e;cases e
   have q':=q1 H1 (Same.refl _);rw[this]at q';exact q'
  ·cases z:tupOf H1 v with
   |none=>rw[z]at e;cases e
   |some xs=>
   obtain⟨t,rfl,ht⟩:=gU z;obtain⟨hz,hk⟩:=k1.items ht;have hV:landV H1 g (.ref t)=(xs.all (isCell H1 g)&&upP (eP H1 xs)):=by unfold landV;rw[z]
   refine⟨_,rfl,t,rfl,⟨xs,A3.of ht⟩,λZ l hl=> ?_⟩;refine iG (λx=> .bl (isCell H1 g x)) ht hl hz (λx H' Q' hm hs hq=> ?_) λσ H2 s2 AF=> ?_
   ·refine⟨_,rfl,_,rfl,a,g,w',x,rfl,hA.same (s1.trans hs),G,(hk x hm).ext hs.ext,λH3 s3=> ?_⟩;rw[Same.isCell hs ((hk x hm).le (by decide))];exact hq H3 s3
   ·refine⟨l,xs.map (isCell H1 g),rfl,A2.of (by rw[AF,c9];rfl),_,rfl,?_⟩;have ea:(xs.map (isCell H1 g)).all id=xs.all (isCell H1 g):=by rw[af];rfl
    rw[ea];refine cU (λe2=> ?_) λe2=> ?_
    ·have q':=q1 H2 s2;have e2':xs.all (isCell H1 g)=false:=by simpa using e2
     rw[hV,e2']at q';exact q'
    ·have e2':xs.all (isCell H1 g)=true:=by simpa using e2
     obtain⟨ps,ex,hP,hc⟩:=tH e2';have hl1000:(eP H1 xs).length<=1000:=by
      have h1:=Paired.length hP;have h2:=congrArg kq ex;rw[b8]at h2;omega
     refine⟨_,rfl,t,eP H1 xs,rfl,⟨ps,s2 _ _ (by rw[←ex];exact ht),hP.same s2⟩,hl1000,λH3 s3=> ?_⟩;have q':=q1 H3 (s2.trans s3);rw[hV,e2']at q';exact q'
theorem lB:mq "any" =some (.builtin "any"):=by decide +kernel
theorem lV (l:List (Int×Int))(x:Int×Int):(l.map λc=>decide (c=x)).any id=decide (x∈l):=by rw[iy,ai];simp
noncomputable def sI:Sp:=λvs H Q _=> ∃t cs,vs=[.ref t]/\A6 H t cs/\cs.length<=10/\∀b H',Same H H'->wM cs b->Q (.bl b) H'
theorem B44 (F:D1 K mg "is_one_piece" vH ["land"])(a1:A1 P w K mg base 2 "piece_round" A0u):A1 P w K mg base 3 "is_one_piece" sI:=by
 refine F.k ["land"] ?_;ac_nf
 ·obtain⟨t,cs,rfl,hT,h10,q⟩:=h;obtain⟨ps,ht,hP⟩:=id hT;have rg:ps.length=cs.length:=Paired.length hP;refine⟨_,bB (bF (gH (dE (A3h (gj (dX hr))) (pv 0) (cL aB) (nomark _)) (gI (dE (B3r (dX hr)) (a1.c hr (aG (pv 0) (eF (cA cZ (pv 0) aV (λ_ _=>rfl)) aB))) (pv 0) (nomark _))))),?_⟩;refine⟨_,rfl,by show 0<=gz;decide,λz hz=> ?_⟩;have s1:=aY (o:=.tup []) hz;refine⟨t,z,_,rfl,rfl,s1 _ _ ht,aJ,_,rfl,?_⟩;cases hc:cs with
  |nil=>
   have e:ps=[]:=kh (by rw[rg,hc];rfl);subst e;exact q false _ s1 (.inl ⟨hc,rfl⟩)
  |cons c0 tl=>
   rw[hc]at hP;cases hP with
   |cons r0 t0=>
    rename_i p0 ps0;refine dW ?_;refine⟨_,rfl,_,rfl,t,_,0,.ref p0,rfl,rfl,A3.of (s1 _ _ ht),dO (j:=0) rfl,?_⟩;refine⟨t,p0,cs,c0,rfl,hT.same s1,h10,s1 _ _ r0,by rw[hc];exact AX,λt' P0 H2 s2 hP0 p0=> ?_⟩;refine⟨_,rfl,t',t,P0,cs,rfl,rfl,hP0,hT.same (s1.trans s2),?_⟩;exact q _ H2 (s1.trans s2) (.inr ⟨c0,tl,P0,hc,p0,rfl⟩)
noncomputable def cX (g:bE)(cs:List Pl):Int:=(cs.map (atG g)).sum
noncomputable def eX (g:bE)(c:Pl):Bool:=(beside c).any λd=>decide (d∈bD road g)
noncomputable def oD:Sp:=λvs H Q _=> ∃a g w,vs=[.ref a]/\GridAt H a g/\cR g w/\∀H' l ps,H l=none->Same H H'->H' l=some (.lst ((ps:List gy).map V.ref))->PlAt H' ps ((bD pos g).filter (eX g))->Q (.ref l) H'
noncomputable def rO:Sp:=λvs H Q _=> ∃t l cs ps ds,vs=[.ref t,.ref l]/\A6 H t cs/\cs.length<=1000/\H l=some (.lst ((ps:List gy).map V.ref))/\PlAt H ps ds/\∀H',Same H H'->Q (.bl (cs.any λc=>decide (c∈ds))) H'
noncomputable def pI:Sp:=λvs H Q _=> ∃a t g w cs,vs=[.ref a,.ref t]/\GridAt H a g/\cR g w/\A6 H t cs/\LandOf g cs/\∀H',Same H H'->Q (.int (cX g cs)) H'
theorem A90:(["cell","cells"]:List Str).Nodup:=by decide +kernel
theorem A83 (F:D1 K mg "has_some_of" pH ["land","cells"])(T2:eN mg):A1 P w K mg base 1 "has_some_of" rO:=by
 refine F.k ["land","cells"] ?_;ac_nf
 ·obtain⟨t,lc,cs,qs,ds,rfl,⟨ps,ht,hP⟩,hz,hlc,hD,q⟩:=h;have rg:ps.length=cs.length:=Paired.length hP;refine⟨_,bB (bF (bJ (lC rfl) rfl T2.any lB (cM (bU (bH pH).names ["land","cells"] ["cell"] [("cells",1)] rfl (dM (pv 0)) rfl rfl rfl (by decide +kernel)
   (λZ=>A4 0 A90) (λZ=>cB) (λZ=>dE (jV 1 (dX hr)) (pv 0) (pv 1) rfl)) aB))),?_⟩
  refine⟨_,rfl,t,rfl,⟨_,A3.of ht⟩,λZ l hl=> ?_⟩;refine iK (K:=K) (a:=t) (xs:=ps.map V.ref) (λi σ H'=>(∃o,σ=[o,some (.ref lc)])/\Same H H'/\H' l=some (.lst ((cs.take i).map λc=>V.bl (decide (c∈ds))))) ⟨⟨_,rfl⟩,aY hl,by rw[aJ];rfl⟩ (λi σ H' _ h=>A3.of (h.2.1 _ _ ht)) ?_ ?_
  ·rintro i x σ H' hx ⟨⟨o,rfl⟩,hs,zl⟩;obtain⟨p,hp,rfl⟩:=eY hx;obtain⟨c,hc,he⟩:=hP.at hp;have hi:i<cs.length:=(AR.mp hc).1;show cS _ _ _ [some (.ref p),some (.ref lc)] H';refine⟨_,rfl,_,rfl,lc,_,_,rfl,.inr (hs _ _ hlc),jG (hs _ _ he) (hD.same hs),?_⟩;rw[lV];refine⟨_,zl,cG (by rw[b8,cm];omega),⟨_,rfl⟩,λb' u e'=> ?_,?_⟩
   ·rw[bA (bK e' hl)];exact hs _ _ e'
   ·rw[aJ,fq,hc,cx];rfl
  ·rintro σ H' ⟨_,hs,zl⟩;rw[b8,rg,fo (AY _)]at zl;refine⟨l,cs.map λc=>decide (c∈ds),rfl,A2.of (by rw[zl,c9];rfl),?_⟩;have e:(cs.map λc=>decide (c∈ds)).any id=cs.any λc=>decide (c∈ds):=by rw[ai];rfl
   rw[e];exact q H' hs
theorem A60:(["cell","roads"]:List Str).Nodup:=by decide +kernel
theorem B3j:(["place","roads"]:List Str).Nodup:=by decide +kernel
theorem A2u (F:D1 K mg "cells_at_road" rE ["mead"])(T2:eN mg)(a1:A1 P w K mg base 6 "roads_of" (dS road))(a2:A1 P w K mg base 6 "cells_of" (dS pos))(a3:A1 P w K mg base 1 "places_beside" qJ):A1 P w K mg base 7 "cells_at_road" oD:=by
 refine F.k ["mead","roads"] ?_;ac_nf
 ·obtain⟨a,g,w',rfl,hA,G,q⟩:=h;refine⟨_,aU (bP (i:=1) nd rfl (nz rfl) (a1.c hr (aG (pv 0) aB)))<|
   bB (bF (bU (bH rE).names ["mead","roads"] ["cell"] [("roads",1)] rfl (dH (a2.c hr (aG (pv 0) aB))) rfl rfl rfl (by decide +kernel)
    (λZ=>A4 0 A60) (λZ=>fP (bL (bJ (lC rfl) rfl T2.any lB (cM (bU [(".0",.local),("cell",.local),("any",.globalImplicit),("places_beside",.globalImplicit),("roads",.cell)] ["cell","roads"] ["place"] [("roads",1)] rfl (dH (a3.c hr (aG (pv 0) aB))) rfl rfl rfl (by decide +kernel)
      (λZ=>A4 0 B3j) (λZ=>cB) (λZ=>dE (jV 1 (dX hr)) (pv 0) (pv 1) rfl)) aB)))) (λZ=>pv 0))),?_⟩
  refine⟨_,rfl,a,g,w',rfl,hA,G,λH1 lr rs hlr s1 hlr' hR=> ?_⟩;refine⟨_,rfl,a,g,w',rfl,hA.same s1,G,λH2 lc cs hlc s2 hlc' hC=> ?_⟩;refine⟨lc,rfl,⟨_,A2.of hlc'⟩,λZ l hl=> ?_⟩;have hcl:cs.length=(bD pos g).length:=Paired.length hC;have h10:(bD pos g).length<=10:=by rw[fL];exact G.c10
  have hlr2:=s2 _ _ hlr';have hR2:=hR.same s2;refine eW (K:=K) (a:=lc) (xs:=cs.map V.ref) (λi σ H'=>(∃o,σ=[o,some (.ref lr)])/\Same H2 H'/\∃ns,H' l=some (.lst ((ns:List gy).map V.ref))/\PlAt H' ns (((bD pos g).take i).filter (eX g))) ⟨⟨_,rfl⟩,aY hl,[],by rw[aJ];rfl,.nil⟩ (λi σ H' _ h=>A2.of (h.2.1 _ _ hlc')) ?_ ?_
  ·rintro i x σ H' hx ⟨⟨o,rfl⟩,hs,ns,hn,hN⟩;obtain⟨p,hp,rfl⟩:=eY hx;obtain⟨c,hc,he⟩:=hC.at hp;have hi:i<(bD pos g).length:=(AR.mp hc).1;have hnl:ns.length<=10:=by
    have h1:ns.length=_:=Paired.length hN;have h2:=b7 (eX g) ((bD pos g).take i);rw[cm]at h2;omega
   have et:((bD pos g).take (i+1)).filter (eX g)=((bD pos g).take i).filter (eX g)++(if eX g c=true then [c]else []):=by
    rw[fq,hc,au]
    congr 1
    cases e:eX g c
    ·simp[e]
    ·simp[e]
   rw[et];show cS _ _ _ [some (.ref p),some (.ref lr)] H';refine⟨_,rfl,p,c,rfl,hs _ _ he,λlb bs H3 hlb s3 hlb3 hB=> ?_⟩;have hb4:bs.length=(beside c).length:=Paired.length hB;refine⟨lb,rfl,⟨_,A2.of hlb3⟩,λZ l2 AF=> ?_⟩;refine eW (K:=K) (a:=lb) (xs:=bs.map V.ref) (λj σ H4=>(∃o,σ=[o,some (.ref lr)])/\Same H3 H4/\H4 l2=some (.lst (((beside c).take j).map λd=>V.bl (decide (d∈bD road g))))) ⟨⟨_,rfl⟩,aY AF,by rw[aJ];rfl⟩ (λj σ H4 _ h=>A2.of (h.2.1 _ _ hlb3)) ?_ ?_
   ·rintro j y σ H4 hy ⟨⟨o',rfl⟩,hs4,hl24⟩;obtain⟨b,hbj,rfl⟩:=eY hy;obtain⟨d,hd,hbd⟩:=hB.at hbj;have hj:j<4:=(AR.mp hd).1;show cS _ _ _ [some (.ref b),some (.ref lr)] H4;refine⟨_,rfl,_,rfl,lr,_,_,rfl,.inr (hs4 _ _ (s3 _ _ (hs _ _ hlr2))),jG (hs4 _ _ hbd) (((hR2.same hs).same s3).same hs4),?_⟩;rw[lV];refine⟨_,hl24,cG (by rw[b8,cm];omega),⟨_,rfl⟩,λb' u e'=> ?_,?_⟩
    ·rw[bA (bK e' AF)];exact hs4 _ _ e'
    ·rw[aJ,fq,hd,cx];rfl
   ·rintro σ H4 ⟨_,hs4,hl24⟩;rw[b8,hb4,fo (AY _)]at hl24;refine⟨l2,(beside c).map λd=>decide (d∈bD road g),rfl,A2.of (by rw[hl24,c9];rfl),_,rfl,?_⟩;have e:((beside c).map λd=>decide (d∈bD road g)).any id=eX g c:=by unfold eX;rw[ai];rfl
    rw[e];have s34:=s3.trans hs4;refine cU (λz=> ?_) λz=> ?_
    ·rw[if_pos z];have hn4:=s34 _ _ hn;refine⟨_,rfl,_,hn4,cG (by rw[b8];omega),⟨_,rfl⟩,λb' u e'=> ?_,ns++[p],?_,?_⟩
     ·rw[bA (bK e' hl)];exact s34 _ _ (hs _ _ e')
     ·rw[aJ,cx];rfl
     ·exact PlAt.snoc (Paired.mapP (hN.same s34) λ_ _ z=>PlA.put hn4 z) (PlA.put hn4 (s34 _ _ (hs _ _ he)))
    ·rw[if_neg (by rw[z];decide),ak];exact⟨⟨_,rfl⟩,hs.trans s34,ns,s34 _ _ hn,hN.same s34⟩
  ·rintro σ H' ⟨_,hs,ns,hn,hN⟩;rw[b8,hcl,fo (AY _)]at hN;exact q H' l ns (s1.free (s2.free hl)) ((s1.trans s2).trans hs) hn hN
theorem A73 {K:W.Frag}{a t l:gy}{g:bE}{w':Nat}{cs:List Pl}{ps:List gy}{H:Hp}{Q:VK}(hA:GridAt H a g)(G:cR g w')(ht:H t=some (.tup (ps.map V.ref)))(hP:PlAt H ps cs)(hL:LandOf g cs)(hl:H l=none)(q:∀H',Same H H'->Q (.int (cX g cs)) H'):
  dF (Itt K t) (kG K 2 (fJ (dL 0) (fJ (dL 1) jN))) (cS iE (fG l (tOp (nU K) (tOp (nU K) (dY 2) (dY 0)) (dY 1)))) (eC λ_ H'=> ∃(p:gy)(ns:List Int),[V.ref l]=[.ref p]/\A2 K H' p (ns.map V.int)/\ns.length<=1000/\(∀n∈ns,-1000<=n/\n<=1000)/\Q (.int ns.sum) H') [none,none,some (.ref a)] (upd H l (.lst [])):=by
 have hpl:ps.length=cs.length:=Paired.length hP;have h10:=LandOf.len G hL;refine iK (K:=K) (a:=t) (xs:=ps.map V.ref) (λi σ H'=>(∃o1 o2,σ=[o1,o2,some (.ref a)])/\Same H H'/\H' l=some (.lst (((cs.take i).map (atG g)).map V.int))) ⟨⟨_,_,rfl⟩,aY hl,by rw[aJ];rfl⟩ (λi σ H' _ h=>A3.of (h.2.1 _ _ ht)) ?_ ?_
 ·rintro i x σ H' hi ⟨⟨o1,o2,rfl⟩,hs,zl⟩;obtain⟨p,hpi,rfl⟩:=eY hi;obtain⟨cc,hci,hpc⟩:=hP.at hpi;have hil:i<cs.length:=(AR.mp hci).1;obtain⟨i',j',xs,n,rfl,hg,hx,hf⟩:=mem_gridF.mp (hL.subset (d3 hci));obtain⟨bs,b,h1,h2,h3,h4⟩:=(hA.same hs).ix hg hx;refine⟨p,_,rfl,A3.of (hs _ _ hpc),rfl,_,_,rfl,_,_,rfl,rfl,?_⟩;refine gV ?_;refine⟨_,rfl,_,rfl,a,_,_,_,rfl,rfl,A3.of h1,h2,_,rfl,b,_,_,_,rfl,rfl,A3.of h3,h4,?_⟩;refine⟨_,zl,cG (by rw[b8,b8,cm];omega),⟨_,_,rfl⟩,λb' u e'=> ?_,?_⟩
  ·rw[bA (bK e' hl)];exact hs _ _ e'
  ·rw[aJ,fq,hci,cx,cx];show some (HO.lst (_++[V.int n]))=some (HO.lst (_++[V.int (atG g ((i':Int),(j':Int)))]));rw[iZ hg hx]
 ·rintro σ H' ⟨_,hs,zl⟩;rw[b8,hpl,fo (AY _)]at zl;refine⟨l,_,rfl,A2.of zl,by rw[b8];omega,λn hn=> ?_,q H' hs⟩;obtain⟨c,hc,rfl⟩:=dv.mp hn;obtain⟨i',j',xs,n,rfl,hg,hx,hf⟩:=mem_gridF.mp (hL.subset hc);rw[iZ hg hx];have:=G.num xs (d3 hg) n (d3 hx);omega
theorem A30 (F:D1 K mg "worth_together" lN ["mead","places"])(T2:eN mg):A1 P w K mg base 1 "worth_together" pI:=by
 refine F.k ["mead","places"] ?_;ac_nf
 ·obtain⟨a,t,g,w',cs,rfl,hA,G,⟨ps,ht,hP⟩,hL,q⟩:=h;refine⟨_,bB (bF (bJ (wW rfl) rfl T2.sum boot_sum (cM (bU (bH lN).names ["mead","places"] ["row","column"] [("mead",0)] rfl (dM (pv 1)) rfl rfl rfl (by decide +kernel)
    (λZ=>bN rfl (bC (A4 0 mK) (bC (A4 1 mK) bO))) (λZ=>cB) (λZ=>cA cZ (cA cZ (pv 2) (pv 0) (λ_ _=>rfl)) (pv 1) (λ_ _=>rfl))) aB))),?_⟩
  refine⟨_,rfl,t,rfl,⟨_,A3.of ht⟩,λZ l hl=> ?_⟩;exact A73 hA G ht hP hL hl q
structure TxC (mg:Str->Option gw):Prop where
 isinstance:mg "isinstance" =none
 int:mg "int" =none
 bool:mg "bool" =none
 tuple:mg "tuple" =none
 len:mg "len" =none
 all:mg "all" =none
 any:mg "any" =none
 zip:mg "zip" =none
 range:mg "range" =none
 sum:mg "sum" =none
 list:mg "list" =none
 set:mg "set" =none
 sorted:mg "sorted" =none
 sorts:∃t,mg "MOST_SORTS" =some (.int 6 t)
 counted:∃t,mg "MOST_COUNTED" =some (.int 100 t)
 holders:∃t,mg "MOST_HOLDERS" =some (.int 4 t)
 rights:∃t,mg "MOST_RIGHTS" =some (.int 20 t)
 claims:∃t,mg "MOST_CLAIMS" =some (.int 12 t)
noncomputable def wH:Sp:=λvs H Q _=> ∃l ps prs,vs=[.ref l]/\H l=some (.lst (ps.map V.ref))/\PlAt H ps prs/\1<=prs.length/\prs.length<=100/\(prs.Pairwise λa b=>lt2 a b=true)/\∀H',Same H H'->Q (.bl true) H'
noncomputable def qS:Sp:=λvs H Q _=> ∃a cs,vs=[.ref a]/\fW H a cs/\fV cs/\∀H',Same H H'->Q (.bl true) H'
noncomputable def A0d:Sp:=λvs H Q _=> ∃(b:gy)(c:C3),vs=[.ref b]/\H b=some (.tup [.int c.1,.int c.2.1,.int c.2.2])/\((0<=c.1/\c.1<=3)/\(0<=c.2.1/\c.2.1<=5)/\1<=c.2.2/\c.2.2<=20)/\Q (.bl true) H
noncomputable def sQ:Sp:=λvs H Q _=> ∃a cl,vs=[.ref a]/\ClT H a cl/\cN cl/\∀H',Same H H'->Q (.bl true) H'
noncomputable def A03:Sp:=λvs H Q _=> ∃a cs,vs=[.ref a]/\fW H a cs/\fV cs/\∀H',Same H H'->Q .non H'
noncomputable def uV:Sp:=λvs H Q _=> ∃a cl,vs=[.ref a]/\ClT H a cl/\cN cl/\∀H',Same H H'->Q .non H'
theorem A24 (ps:List gy)(h:1<=ps.length):cJ (ps.map V.ref) (some 1) none=(ps.drop 1).map V.ref:=by have e1:HT.sIx (ps.map V.ref).length 0 (some 1)=min 1 (ps.map V.ref).length:=HT.sIx_nat _ _ 1;have e2:HT.sIx (ps.map V.ref).length (ps.map V.ref).length none=(ps.map V.ref).length:=rfl;unfold cJ;rw[e1,e2,b8,show min 1 ps.length=1 by omega,fo (by rw[b5,b8];omega),c5]
theorem PlAt.get2:∀{ps:List gy}{cs:List (Int×Int)}{i:Nat}{p:gy},PlAt H ps cs->ps[i]?=some p->∃c,cs[i]?=some c/\H p=some (.tup [.int c.1,.int c.2]):=λh e=>kD h e
theorem A8q (F:D1 K mg "is_rising" iY ["things"])(T:TxC mg):A1 P w K mg base 1 "is_rising" wH:=by
 refine F.k ["things"] ?_;ac_nf
 ·obtain⟨l,ps,prs,rfl,hl,hP,h1,h100,hup,q⟩:=h;have rg:ps.length=prs.length:=Paired.length hP;refine⟨_,bB (bF (bJ (fE rfl) rfl T.all m5 (cM (bU (bH iY).names ["things"] ["one","other"] [] rfl (rK kL_ok rfl T.zip (aG (pv 0) (eF (gC mL (pv 0) (fY aV) gX) aB))) rfl rfl rfl (by decide +kernel)
   (λZ=>bN rfl (bC (A4 0 kO) (bC (A4 1 kO) bO))) (λZ=>cB) (λZ=>dE (A05 (gj (kA hr))) (pv 0) (pv 1) (nomark _))) aB))),?_⟩
  refine⟨_,rfl,_,rfl,_,rfl,l,_,rfl,A2.of hl,λt ht=> ?_⟩;rw[A24 ps (by omega)];have s1:=aY (o:=.lst ((ps.drop 1).map V.ref)) ht;refine⟨l,t,ps.map V.ref,(ps.drop 1).map V.ref,rfl,A2.of (s1 _ _ hl),A2.of aJ,λZ r hr'=> ?_⟩;have sH:Same H (upd H t (.lst ((ps.drop 1).map V.ref))):=s1;refine nZ (xs:=ps.map V.ref) (ys:=(ps.drop 1).map V.ref) (by rw[b8,b8,b5];omega) (λi σ H'=>σ.length=2/\Same (upd H t (.lst ((ps.drop 1).map V.ref))) H'/\H' r=some (.lst (((ps.drop 1).take i).map λ_=>V.bl true))) ⟨rfl,aY hr',by rw[aJ];rfl⟩
   (λi σ H' h=> ⟨A2.of (h.2.1 _ _ (s1 _ _ hl)),A2.of (h.2.1 _ _ aJ)⟩) ?_ ?_
  ·rintro i x y p3 σ H' hx hy ⟨hσ,hs,zl⟩ hp3;obtain⟨x0,x1,rfl⟩:=tF hσ;rw[br]at hx hy;cases hb:ps[i]? with
   |none=>rw[hb]at hx;cases hx
   |some b=>
   cases hb2:(ps.drop 1)[i]? with
   |none=>rw[hb2]at hy;cases hy
   |some b2=>
   rw[hb]at hx;cases hx;rw[hb2]at hy;cases hy;have hb2':ps[i+1]?=some b2:=by rw[bp]at hb2;rw[show i+1=1+i by omega];exact hb2
   obtain⟨c,hc,he⟩:=PlAt.get2 hP hb;obtain⟨c2,hc2,he2⟩:=PlAt.get2 hP hb2';have s3:=aY (o:=.tup [.ref b,.ref b2]) hp3;refine⟨p3,_,rfl,A3.of aJ,rfl,_,_,rfl,_,_,rfl,rfl,?_⟩;refine gV ?_;refine⟨_,rfl,_,rfl,b,b2,[c.1,c.2],[c2.1,c2.2],rfl,rfl,A3.of (s3 _ _ (hs _ _ (s1 _ _ he))),A3.of (s3 _ _ (hs _ _ (s1 _ _ he2))),?_⟩;have AG:HT.lexLt [c.1,c.2] [c2.1,c2.2]=true:=by
    obtain⟨g1,e1⟩:=AR.mp hc;obtain⟨g2,e2⟩:=AR.mp hc2;have:=mf.mp hup i (i+1) g1 g2 (by omega);rw[e1,e2]at this;exact this
   rw[AG];have hi:i<(ps.drop 1).length:=(AR.mp hb2).1;rw[b5]at hi;refine⟨_,s3 _ _ zl,cG (by rw[b8,cm];omega),rfl,λb' u e'=> ?_,?_⟩
   ·rw[bA (bK e' hr')];exact s3 _ _ (hs _ _ e')
   ·rw[aJ,fq,hb2,cx];rfl
  ·rintro σ H' ⟨_,hs,zl⟩;rw[b8,fo (AY _)]at zl;refine⟨r,(ps.drop 1).map λ_=>true,rfl,A2.of (by rw[zl,c9];rfl),?_⟩;rw[show((ps.drop 1).map λ_=>true).all id=true by rw[af];exact ae.mpr λ_ _=>rfl];exact q H' (s1.trans hs)
theorem A8l (F:D1 K mg "is_custom" qG ["thing"])(T:TxC mg)(a1:A1 P w K mg base 1 "is_tuple_within" gW)(a2:A1 P w K mg base 2 "is_number_within" kW):A1 P w K mg base 3 "is_custom" qS:=by
 obtain⟨t1,mS⟩:=T.sorts;obtain⟨t2,mC⟩:=T.counted;refine F.k ["thing"] ?_;ac_nf
 ·obtain⟨a,cs,rfl,ha,G,q⟩:=h;have ha':H a=some (.tup (cs.map V.int)):=ha;have hz:(cs.map V.int).length<=1000:=by rw[b8];have:=G.l6;omega
  have kn:Kn H 2 (.ref a):=KnA.tup ha' hz (λx hx=>by obtain⟨i,_,rfl⟩:=dv.mp hx;exact KnA.int i) 2;refine⟨_,aU (bS (bV (bL (a1.c hr (bG (pv 0) (bG aV (bG (eJ (v:=.int 6) rfl mS ⟨_,rfl⟩) aB)))))) dR bT)
   (bB (bF (bJ (fE rfl) rfl T.all m5 (bG (bU (bH qG).names ["thing"] ["counted"] [] rfl (dM (pv 0)) rfl rfl rfl (by decide +kernel)
    (λZ=>aQ (i:=0) (show(["counted"]:List Str).Nodup by decide +kernel) rfl (jr rfl)) (λZ=>cB)
    (λZ=>a2.c hr (bG (pv 0) (bG aV (bG (eJ (v:=.int 100) rfl mC ⟨_,rfl⟩) aB))))) aB)))),?_⟩
  refine⟨_,rfl,_,1,6,rfl,kn.le (by decide),_,rfl,?_⟩;have ht:dA H 1 6 (.ref a)=true:=by
   unfold dA;rw[gK ha'];have h1:=G.l1;have h6:=G.l6;simp only[b8,i4,decide_eq_true_eq];omega
  rw[ht];refine bR ?_;refine⟨_,rfl,a,rfl,⟨_,A3.of ha'⟩,λZ l hl=> ?_⟩;refine iG (λx=> .bl (fA 1 100 x)) ha' hl hz (λx H' Q' hm hs hq=> ?_) λσ H' hs zl=> ?_
  ·obtain⟨i,_,rfl⟩:=dv.mp hm;exact⟨_,rfl,_,1,100,rfl,KnA.int i 1,hq _ (Same.refl _)⟩
  ·refine⟨l,(cs.map V.int).map (fA 1 100),rfl,A2.of (by rw[zl];simp only[c9];rfl),?_⟩;have:((cs.map V.int).map (fA 1 100)).all id=true:=by
    rw[af,af,ae];intro i hi;have:=G.num i hi;show(decide (1<=i)&&decide (i<=100))=true;simp only[i4,decide_eq_true_eq];exact this
   rw[this];exact q H' hs
theorem uU {lo hi i:Int}(h1:lo<=i)(h2:i<=hi):fA lo hi (.int i)=true:=by simp[fA,h1,h2]
theorem B4u (F:D1 K mg "is_claim" zM ["thing"])(T:TxC mg)(a1:A1 P w K mg base 1 "is_tuple_within" gW)(a2:A1 P w K mg base 2 "is_number_within" kW):A1 P w K mg base 3 "is_claim" A0d:=by
 obtain⟨t1,mS⟩:=T.sorts;obtain⟨t2,mH⟩:=T.holders;obtain⟨t3,mR⟩:=T.rights;refine F.k ["thing","holder","sort","many"] ?_;ac_nf
 ·obtain⟨b,c,rfl,hb,⟨n1,n2,n3⟩,q⟩:=h;have kn:Kn H 1 (.ref b):=.inr (.inr ⟨_,hb,by show 3<=1000;decide,λx _=>kf⟩);refine⟨_,aU (bS (bV (bL (a1.c hr (bG (pv 0) (bG aV (bG aV aB)))))) dR bT)<|
   aU (cK (pv 0) (bN rfl (bC (A4 1 nd) (bC (A4 2 nd) (bC (A4 3 nd) bO)))))<|
   aU (bS (PW.pt (fH (bV (bL (a2.c hr (bG (pv 1) (bG aV (bG (bI jO (eJ (v:=.int 4) rfl mH ⟨_,rfl⟩) aV) aB))))))
    (gJ (bV (bL (a2.c hr (bG (pv 2) (bG aV (bG (bI jO (eJ (v:=.int 6) rfl mS ⟨_,rfl⟩) aV) aB))))))))) dR bT)<|
   bB (bF (a2.c hr (bG (pv 3) (bG aV (bG (eJ (v:=.int 20) rfl mR ⟨_,rfl⟩) aB))))),?_⟩
  refine⟨_,rfl,_,3,3,rfl,kn,_,rfl,?_⟩;have ht:dA H 3 3 (.ref b)=true:=by unfold dA;rw[gK hb];rfl
  rw[ht];refine bR ?_;refine⟨_,rfl,b,_,rfl,A3.of hb,rfl,_,_,rfl,_,_,rfl,_,_,rfl,rfl,?_⟩;refine⟨_,rfl,_,_,rfl,rfl,_,0,3,rfl,KnA.int _ 1,_,rfl,?_⟩;rw[uU n1.1 n1.2];refine bR ?_;refine⟨_,rfl,_,_,rfl,rfl,_,0,5,rfl,KnA.int _ 1,_,rfl,?_⟩;rw[uU n2.1 n2.2];refine bR ?_;refine⟨_,rfl,_,1,20,rfl,KnA.int _ 1,?_⟩;rw[uU n3.1 n3.2];exact q
noncomputable def bY (cl:List C3)(i:Int):Bool:=cl.any λc=>decide (c.1=i)
noncomputable def holdS (cl:List C3):Nat->Bool:=λk=>bY cl (k:Int)
noncomputable def qF:Sp:=λvs H Q _=> ∃c a cs cl,vs=[.ref c,.ref a]/\fW H c cs/\ClT H a cl/\cl.length<=12/\iL cs cl/\∀H',Same H H'->Q (.bl true) H'
noncomputable def xC:Sp:=λvs H Q _=> ∃c a cs cl,vs=[.ref c,.ref a]/\fW H c cs/\fV cs/\ClT H a cl/\cN cl/\iL cs cl/\∀H',Same H H'->Q .non H'
noncomputable def eB (cl:List C3):V->Bool| .int i=>bY cl i|_=>false
noncomputable def mD:Sp:=λvs H Q _=> ∃a cl u,vs=[.ref a,u]/\ClT H a cl/\cl.length<=12/\Kn H 1 u/\∀H',Same H H'->Q (.bl (eB cl u)) H'
noncomputable def nR:Sp:=λvs H Q _=> ∃a cl i,vs=[.ref a,.int i]/\ClT H a cl/\cl.length<=12/\bY cl i=true/\∀H',Same H H'->Q .non H'
noncomputable def jY:Sp:=λvs H Q _=> ∃a cl,vs=[.ref a]/\ClT H a cl/\cN cl/\∀l H',H l=none->Same H H'->H' l=some (.lst ((cH (holdS cl)).map λk:Nat=>V.int (k:Int)))->Q (.ref l) H'
theorem ClT.kn (h:ClT H a cl)(hz:cl.length<=12)(n:Nat):Kn H n (.ref a):=by obtain⟨bs,h1,h2⟩:=h;have hl:bs.length=cl.length:=Paired.length h2;refine KnA.tup h1 (by rw[b8];omega) (λx hx=> ?_) n;obtain⟨b,hb,rfl⟩:=dv.mp hx;obtain⟨i,hi⟩:=List.getElem?_of_mem hb;obtain⟨c,hc,he⟩:=h2.get hi;refine KnA.tup he (by show 3<=1000;decide) λy hy=> ?_;simp only[di,fc,or_false]at hy;rcases hy with rfl|rfl|rfl<;>exact KnA.int _
theorem nd3:(["holder","sort","many"]:List Str).Nodup:=by decide +kernel
theorem A5y (F:D1 K mg "are_claims" oJ ["thing"])(T:TxC mg)(a1:A1 P w K mg base 1 "is_tuple_within" gW)(a2:A1 P w K mg base 3 "is_claim" A0d)(a3:A1 P w K mg base 1 "is_rising" wH):A1 P w K mg base 4 "are_claims" sQ:=by
 obtain⟨t1,mC⟩:=T.claims;refine F.k ["thing"] ?_;ac_nf
 ·obtain⟨a,cl,rfl,hA,G,q⟩:=h;have kn:=ClT.kn hA G.l12 1;obtain⟨bs,ha,hC⟩:=hA;have hl:bs.length=cl.length:=Paired.length hC;have hz:(bs.map V.ref).length<=1000:=by rw[b8];have:=G.l12;omega
  refine⟨_,aU (bS (PW.pt (fH (bV (bL (a1.c hr (bG (pv 0) (bG aV (bG (eJ (v:=.int 12) rfl mC ⟨_,rfl⟩) aB))))))
    (gJ (bV (bL (bJ (fE rfl) rfl T.all m5 (bG (bU (bH oJ).names ["thing"] ["claim"] [] rfl (dM (pv 0)) rfl rfl rfl (by decide +kernel)
     (λZ=>aQ (i:=0) (show(["claim"]:List Str).Nodup by decide +kernel) rfl (jr rfl)) (λZ=>cB) (λZ=>a2.c hr (bG (pv 0) aB))) aB))))))) dR bT)<|
   bB (bF (a3.c hr (cM (bU (bH oJ).names ["thing"] ["holder","sort","many"] [] rfl (dM (pv 0)) rfl rfl rfl (by decide +kernel)
     (λZ=>bN rfl (bC (A4 0 nd3) (bC (A4 1 nd3) (bC (A4 2 nd3) bO)))) (λZ=>cB) (λZ=>cL (bG (pv 0) (bG (pv 1) aB)))) aB))),?_⟩
  refine⟨_,rfl,_,1,12,rfl,kn,_,rfl,?_⟩;have ht:dA H 1 12 (.ref a)=true:=by
   unfold dA;rw[gK ha];have h1:=G.l1;have h6:=G.l12;simp only[b8,i4,decide_eq_true_eq];omega
  rw[ht];refine bR ?_;refine⟨_,rfl,a,rfl,⟨_,A3.of ha⟩,λZ l zl=> ?_⟩;refine iG (λ_=> .bl true) ha zl hz (λx H' Q' hm hs hq=> ?_) λσ H1 hs1 hl1=> ?_
  ·obtain⟨b,hb,rfl⟩:=dv.mp hm;obtain⟨i,hi⟩:=List.getElem?_of_mem hb;obtain⟨c,hc,he⟩:=hC.get hi;exact⟨_,rfl,b,c,rfl,hs _ _ he,G.num c (d3 hc),hq _ (Same.refl _)⟩
  ·refine⟨l,(bs.map V.ref).map λ_=>true,rfl,A2.of (by rw[hl1];simp only[c9];rfl),_,rfl,?_⟩;rw[show((bs.map V.ref).map λ_=>true).all id=true by rw[af];exact ae.mpr λ_ _=>rfl];refine bR ?_;refine⟨_,rfl,a,rfl,⟨_,A3.of (hs1 _ _ ha)⟩,λZ2 l2 AF=> ?_⟩;refine B1x lI (λH' hs=>A3.of (hs _ _ (hs1 _ _ ha))) (hC.ext hs1.ext) AF (by have:=G.l12;omega) λσ H2 ps hs2 hl2' hP=> ?_;have hpl:=Paired.length hP;rw[b8]at hpl;refine⟨l2,ps,_,rfl,hl2',hP,by rw[b8];exact G.l1,by rw[b8];have:=G.l12;omega,G.up,λH3 hs3=>q H3 ((hs1.trans hs2).trans hs3)⟩
theorem A69 (F:D1 K mg "check_custom" yT ["custom"])(a1:A1 P w K mg base 3 "is_custom" qS):A1 P w K mg base 4 "check_custom" A03:=by
 refine F.k ["custom"] ?_;ac_nf
 ·obtain⟨a,cs,rfl,hA,G,q⟩:=h;refine⟨_,bB (bS (bV (bL (a1.c hr (aG (pv 0) aB)))) dR bT),?_⟩;exact⟨_,rfl,a,cs,rfl,hA,G,λH' hs=> ⟨_,rfl,bR (q H' hs)⟩⟩
theorem B06 (F:D1 K mg "check_claims" A1j ["claims"])(a1:A1 P w K mg base 4 "are_claims" sQ):A1 P w K mg base 5 "check_claims" uV:=by
 refine F.k ["claims"] ?_;ac_nf
 ·obtain⟨a,cl,rfl,hA,G,q⟩:=h;refine⟨_,bB (bS (bV (bL (a1.c hr (aG (pv 0) aB)))) dR bT),?_⟩;exact⟨_,rfl,a,cl,rfl,hA,G,λH' hs=> ⟨_,rfl,bR (q H' hs)⟩⟩
theorem kB:(["holder","sort","many","custom"]:List Str).Nodup:=by decide +kernel
theorem A2y (F:D1 K mg "stand_under" vC ["custom","claims"])(T:TxC mg):A1 P w K mg base 1 "stand_under" qF:=by
 refine F.k ["custom","claims"] ?_;ac_nf
 ·obtain⟨c,a,cs,cl,rfl,hc,⟨bs,ha,hC⟩,h12,hU,q⟩:=h;have hl:bs.length=cl.length:=Paired.length hC;refine⟨_,bB (bF (bJ (fE rfl) rfl T.all m5 (cM (bU (bH vC).names ["custom","claims"] ["holder","sort","many"] [("custom",0)] rfl (dM (pv 1)) rfl rfl rfl (by decide +kernel)
   (λZ=>bN rfl (bC (A4 0 kB) (bC (A4 1 kB) (bC (A4 2 kB) bO)))) (λZ=>cB)
   (λZ=>dE iM (pv 1) (bJ eK rfl T.len jm (bG (pv 3) aB)) (nomark _))) aB))),?_⟩
  refine⟨_,rfl,a,rfl,⟨_,A3.of ha⟩,λZ l zl=> ?_⟩;refine nD (rest:=[some (.ref c)]) lI (λH' hs=>A3.of (hs _ _ ha)) hC zl (by omega) (λ_=> .bl true) (λx H' Q' hm hs hq=> ?_) λσ H1 hs1 hl1=> ?_
  ·refine⟨_,rfl,_,rfl,c,_,rfl,.inr (A3.of (hs _ _ hc)),_,_,rfl,rfl,?_⟩;show Q' (.bl (decide (x.2.1<((cs.map V.int).length:Int)))) H';rw[b8,AS (hU x hm)];exact hq _ (Same.refl _)
  ·refine⟨l,cl.map λ_=>true,rfl,A2.of (by rw[hl1];simp only[c9];rfl),?_⟩;rw[show(cl.map λ_=>true).all id=true by rw[af];exact ae.mpr λ_ _=>rfl];exact q _ hs1
theorem B4n (F:D1 K mg "check_claims_under" yV ["custom","claims"])(a1:A1 P w K mg base 4 "check_custom" A03)(a2:A1 P w K mg base 5 "check_claims" uV)(a3:A1 P w K mg base 1 "stand_under" qF):A1 P w K mg base 6 "check_claims_under" xC:=by
 refine F.k ["custom","claims"] ?_;ac_nf
 ·obtain⟨c,a,cs,cl,rfl,hc,Gc,hA,G,hU,q⟩:=h;refine⟨_,aU (cP (a1.c hr (aG (pv 0) aB)))<|aU (cP (a2.c hr (aG (pv 1) aB)))<|
   bB (bS (bV (bL (a3.c hr (aG (pv 0) (aG (pv 1) aB))))) dR bT),?_⟩
  refine⟨_,rfl,c,cs,rfl,hc,Gc,λH1 s1=> ?_⟩;refine⟨_,rfl,a,cl,rfl,hA.ext s1.ext,G,λH2 s2=> ?_⟩;exact⟨_,rfl,_,rfl,c,a,cs,cl,rfl,s2 _ _ (s1 _ _ hc),(hA.ext s1.ext).ext s2.ext,G.l12,hU,λH3 s3=> ⟨_,rfl,bR (q H3 ((s1.trans s2).trans s3))⟩⟩
theorem sV:(["holder","sort","many","thing"]:List Str).Nodup:=by decide +kernel
theorem B33 (F:D1 K mg "is_holder" qX ["claims","thing"])(T:TxC mg)(a1:A1 P w K mg base 1 "is_number" nL):A1 P w K mg base 2 "is_holder" mD:=by
 refine F.k ["claims","thing"] ?_;ac_nf
 ·obtain⟨a,cl,u,rfl,⟨bs,ha,hC⟩,h12,ku,q⟩:=h;have hl:bs.length=cl.length:=Paired.length hC;refine⟨_,bB (bF (gH (a1.c hr (bG (pv 1) aB)) (gI (bJ (lC rfl) rfl T.any lB (cM (bU (bH qX).names ["claims","thing"] ["holder","sort","many"] [("thing",1)] rfl (dM (pv 0)) rfl rfl rfl (by decide +kernel)
   (λZ=>bN rfl (bC (A4 0 sV) (bC (A4 1 sV) (bC (A4 2 sV) bO)))) (λZ=>cB)
   (λZ=>dE gB (pv 0) (pv 3) (nomark _))) aB))))),?_⟩
  refine⟨_,rfl,_,rfl,ku,_,rfl,cU (λe=> ?_) λe=> ?_⟩
  ·obtain⟨i,rfl⟩:∃i,u= .int i:=by cases u<;>first|exact⟨_,rfl⟩|cases e
   refine⟨_,rfl,a,rfl,⟨_,A3.of ha⟩,λZ l zl=> ?_⟩;refine nD (rest:=[some (.int i)]) lI (λH' hs=>A3.of (hs _ _ ha)) hC zl (by omega) (λc=> .bl (decide (c.1=i))) (λx H' Q' hm hs hq=> ?_) λσ H1 hs1 hl1=> ?_
   ·refine⟨_,rfl,_,rfl,rfl,?_⟩;have:decide (V.int x.1=V.int i)=decide (x.1=i):=decide_eq_decide.mpr ⟨λz=>V.int.inj z,λz=>by rw[z]⟩;rw[this];exact hq _ (Same.refl _)
   ·refine⟨l,cl.map λc=>decide (c.1=i),rfl,A2.of (by rw[hl1];simp only[c9];rfl),?_⟩;have:(cl.map λc=>decide (c.1=i)).any id=eB cl (.int i):=by unfold eB bY;rw[ai];rfl
    rw[this];exact q _ hs1
  ·have:eB cl u=false:=by cases u<;>first|rfl|cases e
   rw[←this];exact q _ (Same.refl _)
theorem A6m (F:D1 K mg "check_holder" wD ["claims","holder"])(a1:A1 P w K mg base 2 "is_holder" mD):A1 P w K mg base 3 "check_holder" nR:=by
 refine F.k ["claims","holder"] ?_;ac_nf
 ·obtain⟨a,cl,i,rfl,hA,h12,hh,q⟩:=h;refine⟨_,bB (bS (bV (bL (a1.c hr (aG (pv 0) (aG (pv 1) aB))))) dR bT),?_⟩;refine⟨_,rfl,_,rfl,a,cl,.int i,rfl,hA,h12,trivial,λH' hs=> ⟨_,rfl,?_⟩⟩;rw[show eB cl (.int i)=true from hh];exact bR (q H' hs)
theorem A79:(["holder","claims"]:List Str).Nodup:=by decide +kernel
noncomputable def iN (S:Nat->Bool)(n:Nat):List Nat:=(iq n).filter S
theorem A8j (S:Nat->Bool):iN S 4=cH S:=by unfold iN cH L;show filter S [0,1,2,3]=_;cases h0:S 0<;>cases h1:S 1<;>cases h2:S 2<;>cases h3:S 3<;>simp[filter,h0,h1,h2,h3]
theorem A4o (F:D1 K mg "holders_of" sC ["claims"])(T:TxC mg)(a1:A1 P w K mg base 5 "check_claims" uV)(a2:A1 P w K mg base 2 "is_holder" mD):A1 P w K mg base 6 "holders_of" jY:=by
 obtain⟨t1,mH⟩:=T.holders;refine F.k ["claims"] ?_;ac_nf
 ·obtain⟨a,cl,rfl,hA,G,q⟩:=h;refine⟨_,aU (cP (a1.c hr (aG (pv 0) aB)))<|
   bB (bF (bU (bH sC).names ["claims"] ["holder"] [("claims",0)] rfl (lX rfl T.range (bG (eJ (v:=.int 4) rfl mH ⟨_,rfl⟩) aB)) rfl rfl rfl (by decide +kernel)
    (λZ=>A4 0 A79) (λZ=>fP (bL (a2.c hr (aG (pv 1) (aG (pv 0) aB))))) (λZ=>pv 0))),?_⟩
  refine⟨_,rfl,a,cl,rfl,hA,G,λH1 s1=> ?_⟩;refine⟨4,rfl,by decide,by decide,λZ l hl=> ?_⟩;refine lF (lo:=0) (n:=4) (λi σ H'=>(∃o,σ=[o,some (.ref a)])/\Same H1 H'/\H' l=some (.lst ((iN (holdS cl) i).map λk:Nat=>V.int (k:Int)))) ⟨⟨_,rfl⟩,aY hl,by rw[aJ];rfl⟩ ?_ ?_
  ·rintro i σ H' hi ⟨⟨o,rfl⟩,hs,zl⟩;show cS _ _ _ [some (.int (0+(i:Int))),some (.ref a)] H';refine⟨_,rfl,_,rfl,a,cl,_,rfl,hA.ext (s1.trans hs).ext,G.l12,trivial,λH2 s2=> ⟨_,rfl,?_⟩⟩;have e0:(0:Int)+(i:Int)=(i:Int):=by omega
   rw[e0];have ep:iN (holdS cl) (i+1)=iN (holdS cl) i++(if holdS cl i=true then [i]else []):=by
    unfold iN;rw[fi,au]
    congr 1
    by_cases hh:holdS cl i=true
    ·rw[if_pos hh,ax hh];rfl
    ·rw[if_neg hh,aw hh];rfl
   have hz:((iN (holdS cl) i).map λk:Nat=>V.int (k:Int)).length<=1000:=by
    rw[b8];have:=b7 (holdS cl) (iq i);rw[cb]at this;unfold iN;omega
   refine cU (λhh=> ?_) λhh=> ?_
   ·refine⟨_,rfl,_,s2 _ _ zl,cG hz,⟨_,rfl⟩,λb u e=> ?_,?_⟩
    ·rw[bA (bK e hl)];exact s2 _ _ (hs _ _ e)
    ·rw[aJ,ep,if_pos (show holdS cl i=true from hh),cx];rfl
   ·refine⟨⟨_,rfl⟩,hs.trans s2,?_⟩;rw[ep,if_neg (by show¬holdS cl i=true;unfold holdS;rw[show bY cl (i:Int)=false from hh];decide),ak];exact s2 _ _ zl
  ·rintro σ H' ⟨_,hs,zl⟩;rw[A8j]at zl;have hHl:H l=none:=by
    cases e:H l with
    |none=>rfl
    |some o=>rw[s1 _ _ e]at hl;cases hl
   exact q l H' hHl (s1.trans hs) zl
noncomputable def cw (cs:List Int)(c:C3):Int:=cs.getD c.2.1.toNat 0*c.2.2
noncomputable def cntAll (cs:List Int)(cl:List C3):Int:=(cl.map (cw cs)).sum
noncomputable def ofH (cl:List C3)(i:Int):List C3:=cl.filter λc=>decide (c.1=i)
noncomputable def cntH (cs:List Int)(cl:List C3)(i:Int):Int:=cntAll cs (ofH cl i)
noncomputable def Fine (cs:List Int)(cl:List C3):Prop:=cl.length<=12/\∀c∈cl,0<=c.2.1/\c.2.1<cs.length/\1<=c.2.2/\c.2.2<=20
theorem mE (G:cN cl)(U:iL cs cl):Fine cs cl:=⟨G.l12,λc hc=> ⟨(G.num c hc).2.1.1,U c hc,(G.num c hc).2.2.1,(G.num c hc).2.2.2⟩⟩
theorem Fine.sub (h:Fine cs cl)(i:Int):Fine cs (ofH cl i):=⟨gc (b7 _ _) h.1,λc hc=>h.2 c (dj.mp hc).1⟩
theorem pO {cs:List Int}(Gc:fV cs){c:C3}(h:0<=c.2.1/\c.2.1<cs.length/\1<=c.2.2/\c.2.2<=20):1<=cs.getD c.2.1.toNat 0/\cs.getD c.2.1.toNat 0<=100/\1<=cw cs c/\cw cs c<=2000:=by
 have AG:c.2.1.toNat<cs.length:=by omega
 have e:cs.getD c.2.1.toNat 0=cs[c.2.1.toNat]:=by simp[AG]
 have hn:=Gc.num _ (bx AG);unfold cw;rw[e];refine⟨hn.1,hn.2,?_,?_⟩
 ·have:=vg hn.1 h.2.2.1 (by omega) (by omega);omega
 ·have:=vg hn.2 h.2.2.2 (by omega) (by omega);omega
theorem vB {cs:List Int}(Gc:fV cs):∀{cl:List C3},(∀c∈cl,0<=c.2.1/\c.2.1<cs.length/\1<=c.2.2/\c.2.2<=20)->(cl.length:Int)<=cntAll cs cl/\cntAll cs cl<=2000*cl.length
 | [],_=>by simp[cntAll]
 |c::cl,h=>by
  have ih:=vB Gc (cl:=cl) λd hd=>h d (AW _ hd);have h0:=pO Gc (h c AX);have e:cntAll cs (c::cl)=cw cs c+cntAll cs cl:=by unfold cntAll;rw[cz,fm]
  rw[e,b4];constructor<;>omega
theorem mT {cs:List Int}{s:Int}(h0:0<=s)(h1:s<cs.length):atI (cs.map V.int) s=some (.int (cs.getD s.toNat 0)):=by
 obtain⟨n,rfl⟩:=ja h0;have hn:n<cs.length:=by omega
 refine dO ?_;rw[br,bq hn];simp[hn]
noncomputable def nM:Sp:=λvs H Q _=> ∃c a cs bs cl,vs=[.ref c,.ref a]/\fW H c cs/\fV cs/\(H a=some (.tup (bs.map V.ref))\/H a=some (.lst (bs.map V.ref)))/\ClP H bs cl/\Fine cs cl/\∀H',Same H H'->Q (.int (cntAll cs cl)) H'
noncomputable def A1o:Sp:=λvs H Q _=> ∃c a cs cl i,vs=[.ref c,.ref a,.int i]/\fW H c cs/\fV cs/\ClT H a cl/\cN cl/\iL cs cl/\bY cl i=true/\∀H',Same H H'->Q (.int (cntH cs cl i)) H'
theorem B3u (F:D1 K mg "count_together" rN ["custom","claims"])(T:TxC mg):A1 P w K mg base 1 "count_together" nM:=by
 refine F.k ["custom","claims"] ?_;ac_nf
 ·obtain⟨c,a,cs,bs,cl,rfl,hc,Gc,ha,hC,hf,q⟩:=h;have hl:bs.length=cl.length:=Paired.length hC;have h12:=hf.1;refine⟨_,bB (bF (bJ (wF rfl) rfl T.sum boot_sum (cM (bU (bH rN).names ["custom","claims"] ["holder","sort","many"] [("custom",0)] rfl (PI.or (dM (pv 1)) (dH (pv 1))) rfl rfl rfl (by decide +kernel)
   (λZ=>bN rfl (bC (A4 0 kB) (bC (A4 1 kB) (bC (A4 2 kB) bO)))) (λZ=>cB)
   (λZ=>bI eE (cA cZ (pv 3) (pv 1) (λ_ _=>rfl)) (pv 2))) aB))),?_⟩
  have turn:∀(x:C3)(H':Hp)(Q':VK),x∈cl->Same H H'->(∀H2,Same H' H2->Q' (.int (cw cs x)) H2)->tOp (rI CMul λi j=> .int (i*j)) (tOp (nU K) (dY 3) (dY 1)) (dY 2) (some (.int x.1)::some (.int x.2.1)::some (.int x.2.2)::[some (.ref c)]) H' Q':=λx H' Q' hm hs hq=>by
   have hx:=hf.2 x hm;have AG:x.2.1.toNat<cs.length:=by omega
   have hsm:=pO Gc hx;exact⟨_,rfl,_,rfl,c,_,x.2.1,.int (cs.getD x.2.1.toNat 0),rfl,rfl,A3.of (hs _ _ hc),mT hx.1 hx.2.1,_,rfl,_,_,rfl,rfl,.inl ⟨by omega,by omega⟩,hq _ (Same.refl _)⟩
  have fin:∀(l:gy)(σ:L2.St)(H1:Hp),Same H H1->H1 l=some (.lst (cl.map λx=>V.int (cw cs x)))->∃(p:gy)(ns:List Int),[V.ref l]=[.ref p]/\A2 K H1 p (ns.map V.int)/\ns.length<=1000/\(∀n∈ns,-10000<=n/\n<=10000)/\Q (.int ns.sum) H1:=λl σ H1 hs1 hl1=>by
   refine⟨l,cl.map (cw cs),rfl,A2.of (by rw[hl1];simp only[c9];rfl),by rw[b8];omega,λn hn=> ?_,q H1 hs1⟩;obtain⟨x,hx,rfl⟩:=dv.mp hn;have:=pO Gc (hf.2 x hx);omega
  rcases ha with ha|ha
  ·refine .inl ⟨_,rfl,a,rfl,⟨_,A3.of ha⟩,λZ l zl=> ?_⟩;exact nD (rest:=[some (.ref c)]) lI (λH' hs=>A3.of (hs _ _ ha)) hC zl (by omega) (λx=> .int (cw cs x)) turn λσ H1 hs1 hl1=>fin l σ H1 hs1 hl1
  ·refine .inr ⟨_,rfl,a,rfl,⟨_,A2.of ha⟩,λZ l zl=> ?_⟩;exact nD (rest:=[some (.ref c)]) jR (λH' hs=>A2.of (hs _ _ ha)) hC zl (by omega) (λx=> .int (cw cs x)) turn λσ H1 hs1 hl1=>fin l σ H1 hs1 hl1
theorem A50:(["claim","holder"]:List Str).Nodup:=by decide +kernel
theorem B32 (F:D1 K mg "count_of" uM ["custom","claims","holder"])(a1:A1 P w K mg base 6 "check_claims_under" xC)(a2:A1 P w K mg base 3 "check_holder" nR)(a3:A1 P w K mg base 1 "count_together" nM):A1 P w K mg base 7 "count_of" A1o:=by
 refine F.k ["custom","claims","holder"] ?_;ac_nf
 ·obtain⟨c,a,cs,cl,i,rfl,hc,Gc,hA,G,hU,hh,q⟩:=h;refine⟨_,aU (cP (a1.c hr (aG (pv 0) (aG (pv 1) aB))))<|aU (cP (a2.c hr (aG (pv 1) (aG (pv 2) aB))))<|
   bB (bF (a3.c hr (aG (pv 0) (cM (bU (bH uM).names ["custom","claims","holder"] ["claim"] [("holder",2)] rfl (dM (pv 1)) rfl rfl rfl (by decide +kernel)
    (λZ=>A4 0 A50) (λZ=>fP (cI gB (cA cZ (pv 0) aV (λ_ _=>rfl)) (pv 1) (nomark _))) (λZ=>pv 0)) aB)))),?_⟩
  refine⟨_,rfl,_,rfl,c,a,cs,cl,rfl,hc,Gc,hA,G,hU,λH1 s1=> ?_⟩;refine⟨_,rfl,_,rfl,a,cl,i,rfl,hA.ext s1.ext,G.l12,hh,λH2 s2=> ?_⟩;obtain⟨bs,ha,hC⟩:=(hA.ext s1.ext).ext s2.ext;have hl:bs.length=cl.length:=Paired.length hC;have h12:=G.l12;refine⟨_,rfl,_,rfl,a,rfl,⟨_,A3.of ha⟩,λZ l zl=> ?_⟩;refine iK (K:=K) (a:=a) (xs:=bs.map V.ref) (λj σ H'=>(∃o,σ=[o,some (.int i)])/\Same H2 H'/\∃AE:List gy,H' l=some (.lst (AE.map V.ref))/\ClP H' AE (ofH (cl.take j) i)) ⟨⟨_,rfl⟩,aY zl,[],by rw[aJ];rfl,.nil⟩ (λj σ H' _ h=>A3.of (h.2.1 _ _ ha)) ?_ ?_
  ·rintro j x σ H' hx ⟨⟨o,rfl⟩,hs,AE,AF,hC2⟩;rw[br]at hx;cases hb:bs[j]? with
   |none=>rw[hb]at hx;cases hx
   |some b=>
    rw[hb]at hx;cases hx;obtain⟨y,hy,he⟩:=hC.get hb;have hj:j<bs.length:=(AR.mp hb).1;have hbl:AE.length<=j:=by
     have:=Paired.length hC2;have h2:=b7 (λc:C3=>decide (c.1=i)) (cl.take j);rw[cm]at h2;unfold ofH at this;omega
    show cS _ _ _ [some (.ref b),some (.int i)] H';refine⟨_,rfl,b,_,0,.int y.1,rfl,rfl,A3.of (hs _ _ he),dO (j:=0) rfl,_,rfl,rfl,_,rfl,?_⟩;have ed:decide (V.int y.1=V.int i)=decide (y.1=i):=decide_eq_decide.mpr ⟨λz=>V.int.inj z,λz=>by rw[z]⟩;rw[ed];have et:ofH (cl.take (j+1)) i=ofH (cl.take j) i++(if decide (y.1=i)=true then [y]else []):=by
     unfold ofH;rw[fq,hy,au]
     congr 1
     by_cases z:y.1=i
     ·simp[z]
     ·simp[z]
    refine cU (λhz=> ?_) λhz=> ?_
    ·refine⟨_,rfl,_,AF,cG (by rw[b8];omega),⟨_,rfl⟩,λb' u e=> ?_,AE++[b],?_,?_⟩
     ·rw[bA (bK e zl)];exact hs _ _ e
     ·rw[aJ,cx];rfl
     ·rw[et,if_pos hz];have up:∀b' xs,H' b'=some (.tup xs)->(upd H' l (.lst (AE.map V.ref++[.ref b]))) b'=some (.tup xs):=λb' xs e=>by rw[bA (λz=>by rw[z,AF]at e;cases e)];exact e
      exact Paired.snoc (Paired.mapP hC2 λ_ _ e=>up _ _ e) (up _ _ (hs _ _ he))
    ·refine⟨⟨_,rfl⟩,hs,AE,AF,?_⟩;rw[et,if_neg (by rw[hz];decide),ak];exact hC2
  ·rintro σ H' ⟨_,hs,AE,AF,hC2⟩;rw[b8,hl,fo (AY _)]at hC2;exact⟨c,l,cs,AE,ofH cl i,rfl,hs _ _ (s2 _ _ (s1 _ _ hc)),Gc,.inr AF,hC2,(mE G hU).sub i,λH3 s3=>q H3 (((s1.trans s2).trans hs).trans s3)⟩
noncomputable def frTop (t b:Int):Int:=t/((wm t.toNat b.toNat:Nat):Int)
noncomputable def frBot (t b:Int):Int:=b/((wm t.toNat b.toNat:Nat):Int)
noncomputable def rF:Sp:=λvs H Q _=> ∃t b,vs=[.int t,.int b]/\(0<=t/\t<1000000000)/\(1<=b/\b<1000000)/\∀p,H p=none->Q (.ref p) (upd H p (.tup [.int (frTop t b),.int (frBot t b)]))
noncomputable def A1g:Sp:=λvs H Q _=> ∃c a cs cl i,vs=[.ref c,.ref a,.int i]/\fW H c cs/\fV cs/\ClT H a cl/\cN cl/\iL cs cl/\bY cl i=true/\∀p H',Same H H'->H' p=some (.tup [.int (frTop (cntH cs cl i) (cntAll cs cl)),.int (frBot (cntH cs cl i) (cntAll cs cl))])->Q (.ref p) H'
theorem B23 (a b:Nat):wm b (a%b)=wm a b:=by rw[Nat.gcd_comm b,←Nat.gcd_rec,Nat.gcd_comm]
theorem B3a (F:D1 K mg "fraction" A1p ["top","bottom"]):A1 P w K mg base 1 "fraction" rF:=by
 refine F.k ["top","bottom","divisor","rest"] ?_;ac_nf
 ·obtain⟨t,b,rfl,ht,hb,q⟩:=h;obtain⟨tn,rfl⟩:=ja ht.1;obtain⟨bn,rfl⟩:=ja (show 0<=b by omega);refine⟨_,aU (iQ (i:=2) (j:=3) rfl nd rfl rfl (by decide) rfl rfl (aG (pv 0) (aG (pv 1) aB)) rfl)<|
   aU (nC jk (cI A0f (pv 3) aV (nomark _)) (bB (iQ (i:=2) (j:=3) rfl nd rfl rfl (by decide) rfl rfl (aG (pv 3) (eM (bI kE (pv 2) (pv 3)) aB)) rfl)))<|
   bB (bF (cL (eM (bI nT (pv 0) (pv 2)) (eM (bI nT (pv 1) (pv 2)) aB)))),?_⟩
  refine⟨_,rfl,_,rfl,_,_,rfl,?_⟩;refine A17 (λσ H'=>H'=H/\∃x y:Nat,σ=[some (.int (tn:Int)),some (.int (bn:Int)),some (.int (x:Int)),some (.int (y:Int))]/\wm x y=wm tn bn/\x<1000000000/\y<1000000000) (λσ _=>match σ with| [_,_,_,some (.int y)]=>y.toNat|_=>0)
   ⟨rfl,tn,bn,rfl,rfl,by omega,by omega⟩ ?_ (λσ H' R R' hi hc=> ?_)
  ·rintro σ H' ⟨rfl,x,y,rfl,hg,hx,hy⟩;refine⟨_,rfl,_,_,rfl,rfl,_,rfl,eZ (λhp=> ?_) λhp=> ?_⟩
   ·have hy0:0<y:=by omega
    refine⟨_,rfl,_,rfl,_,rfl,_,_,rfl,rfl,(by omega),_,_,rfl,?_⟩;have hm:x%y<y:=Nat.mod_lt _ hy0;refine⟨⟨rfl,y,x%y,?_,by rw[B23];exact hg,hy,by omega⟩,?_⟩
    ·show [some (V.int (tn:Int)),some (.int (bn:Int)),some (.int (y:Int)),some (.int ((x:Int)%(y:Int)))]=_;rw[Int.natCast_emod]
    ·show((x:Int)%(y:Int)).toNat<((y:Int)).toNat;have e:(x:Int)%(y:Int)=((x%y:Nat):Int):=(Int.natCast_emod x y).symm;rw[e,jd,jd];exact hm
   ·have hy0:y=0:=by omega
    subst hy0;rw[Nat.gcd_zero_right]at hg;subst hg;have hgp:0<wm tn bn:=w9 _ (by omega);refine⟨_,rfl,_,rfl,_,_,rfl,rfl,⟨by omega,by omega⟩,_,rfl,_,rfl,_,_,rfl,rfl,⟨by omega,by omega⟩,by show 2<=gz;decide,λp hp'=> ?_⟩;exact q p hp'
  ·obtain⟨v,e1,h1⟩:=hc;obtain⟨i,j,e2,e3,c,e4,h2⟩:=h1;exact⟨v,e1,i,j,e2,e3,c,e4,hi _ _ h2⟩
theorem pA (Gc:fV cs)(G:cN cl)(U:iL cs cl)(i:Int):(0<=cntH cs cl i/\cntH cs cl i<1000000)/\1<=cntAll cs cl/\cntAll cs cl<1000000:=by have hf:=mE G U;have h1:=vB Gc hf.2;have h2:=vB Gc (hf.sub i).2;have:=G.l1;have:=hf.1;have:=(hf.sub i).1;unfold cntH;omega
theorem B12 (F:D1 K mg "share_of" A2c ["custom","claims","holder"])(a1:A1 P w K mg base 1 "fraction" rF)(a2:A1 P w K mg base 7 "count_of" A1o)(a3:A1 P w K mg base 1 "count_together" nM):A1 P w K mg base 8 "share_of" A1g:=by
 refine F.k ["custom","claims","holder"] ?_;ac_nf
 ·obtain⟨c,a,cs,cl,i,rfl,hc,Gc,hA,G,hU,hh,q⟩:=h;refine⟨_,bB (bF (a1.c hr (bQ (a2.c hr (aG (pv 0) (aG (pv 1) (aG (pv 2) aB)))) (bQ (a3.c hr (aG (pv 0) (aG (pv 1) aB))) aB)))),?_⟩;refine⟨_,rfl,_,rfl,_,rfl,c,a,cs,cl,i,rfl,hc,Gc,hA,G,hU,hh,λH1 s1=> ?_⟩;obtain⟨bs,ha,hC⟩:=hA.ext s1.ext;refine⟨_,rfl,_,rfl,c,a,cs,bs,cl,rfl,s1 _ _ hc,Gc,.inl ha,hC,mE G hU,λH2 s2=> ?_⟩;have hb:=pA Gc G hU i;exact⟨_,_,rfl,⟨hb.1.1,by omega⟩,hb.2,λp hp=>q p _ ((s1.trans s2).trans (aY hp)) aJ⟩
noncomputable def A2f (K:W.Frag):Sp:=λvs H Q _=> ∃a ns k,vs=[.ref a,.int k]/\A2 K H a ((ns:List Int).map V.int)/\0<=k/\∀i,Q (.int i) H
noncomputable def pL:Sp:=λvs H Q _=> ∃i:Int,vs=[.int i]/\∀p H',H p=none->Same H H'->PenAt H' p->Q (.ref p) H'
noncomputable def iD:Sp:=λvs H Q _=> ∃p m,vs=[.ref p,.int m]/\PenAt H p/\0<m/\m<1000000/\∀d H',0<=d->d<m->A5 p H H'->Q (.int d) H'
theorem A75 (F:D1 K mg "_law_cell" zV ["_law_script","_law_k"])(T:TxC mg):A1 P w K mg base 1 "_law_cell" (A2f K):=by
 refine F.k ["_law_script","_law_k"] ?_;ac_nf
 ·obtain⟨a,ns,k,rfl,ha,hk,q⟩:=h;refine⟨_,aU (bS (cI iM (pv 1) (bJ eK rfl T.len jm (bG (pv 0) aB)) (nomark _)) (bB (bF (cA fT (pv 0) (pv 1) (λ_ _=>rfl)))) bT) (bB (bF aV)),?_⟩;refine⟨_,rfl,_,rfl,a,_,rfl,.inl ha,_,_,rfl,rfl,_,rfl,eZ (λh1=> ?_) λh1=>q 0⟩;rw[b8]at h1;obtain⟨n,rfl⟩:=ja hk;have AG:n<ns.length:=by omega
  exact⟨_,rfl,_,rfl,a,_,n,.int ns[n],rfl,rfl,ha,dO (by rw[br];simp[AG]),q _⟩
theorem B1k (F:D1 K mg "_law_pen" yQ ["_law_cell_here"])(T:TxC mg):A1 P w K mg base 1 "_law_pen" pL:=by
 refine F.k ["_law_cell_here"] ?_;ac_nf
 ·obtain⟨i,rfl,q⟩:=h;refine⟨_,bB (bF (eG (bG (pv 0) (bG (fK zO rfl T.int boot_int (bG (dE mN (pv 0) (bI A8m aV aV) (nomark _)) aB)) aB)))),?_⟩;refine⟨_,rfl,_,rfl,_,_,rfl,rfl,⟨by decide,by decide,by decide⟩,_,_,rfl,rfl,.inr ⟨_,rfl,?_⟩⟩;refine⟨by show 2<=gz;decide,λl hl=> ?_⟩;exact q l _ hl (aY hl) ⟨_,_,aJ⟩
theorem scDraw:iJ ["_law_pen_here","_law_bound","_law_drawn"] ["_law_pen_here","_law_bound"] (bH pC):=by ac_rfl
theorem B43 (F:D1 K mg "_law_draw" pC ["_law_pen_here","_law_bound"])(T:TxC mg):A1 P w K mg base 1 "_law_draw" iD:=by
 refine F.k ["_law_pen_here","_law_bound","_law_drawn"] ?_;ac_nf
 ·obtain⟨p,m,rfl,⟨x,f1,hp⟩,h0,h1,q⟩:=h;refine⟨_,aU (bS (cI gB (cA fT (pv 0) aV (λ_ _=>rfl)) aV (nomark _))
    (aU (bP (i:=2) scDraw.nd rfl (jr rfl) (bI kE (cA fT (pv 0) aV (λ_ _=>rfl)) (pv 1)))
    (aU (cK (bI nT (cA fT (pv 0) aV (λ_ _=>rfl)) (pv 1)) (sD (pv 0) aV rR))
    (bB (bF (pv 2))))) bT)
   (aU (cK (bI kE (bI dG (bI eE (bI kE (cA fT (pv 0) aV (λ_ _=>rfl)) aV) aV) aV) aV) (sD (pv 0) aV rR))
   (bB (bF (bI kE (bI nT (bI kE (bI dG (bI eE (cA fT (pv 0) aV (λ_ _=>rfl)) (cA fT (pv 0) aV (λ_ _=>rfl))) (bI eE aV (cA fT (pv 0) aV (λ_ _=>rfl)))) aV) aV) (pv 1))))),?_⟩
  refine⟨_,rfl,p,_,1,_,rfl,rfl,A2.of hp,dO (j:=1) rfl,rfl,_,rfl,eZ (λ_=> ?_) λ_=> ?_⟩
  ·refine⟨_,rfl,p,_,0,_,rfl,rfl,A2.of hp,dO (j:=0) rfl,_,rfl,_,_,rfl,rfl,h0,?_⟩;refine⟨_,rfl,p,_,0,_,rfl,rfl,A2.of hp,dO (j:=0) rfl,_,rfl,_,_,rfl,rfl,⟨h0,by omega⟩,?_⟩;refine⟨_,rfl,p,_,0,0,rfl,rfl,hp,rfl,?_⟩;refine⟨_,rfl,?_⟩;exact q _ _ (yl _ (by omega)) (vh _ h0) ⟨⟨_,_,aJ⟩,λb o hb e=>by rw[bA hb];exact e⟩
  ·have hm:∀y:Int,0<=y%2147483629/\y%2147483629<2147483629:=λy=> ⟨yl _ (by omega),vh _ (by omega)⟩;have b1:=hm x;have b2:=hm (x%2147483629*48271+11);refine⟨_,rfl,p,_,0,_,rfl,rfl,A2.of hp,dO (j:=0) rfl,_,_,rfl,rfl,(by show(0:Int)<2147483629;decide),_,_,rfl,rfl,.inl ⟨by omega,by omega⟩,_,_,rfl,rfl,_,_,rfl,rfl,(by show(0:Int)<2147483629;decide),?_⟩;refine⟨_,rfl,p,_,0,0,rfl,rfl,hp,rfl,?_⟩;refine⟨_,rfl,p,_,0,_,rfl,rfl,A2.of aJ,dO (j:=0) rfl,_,rfl,p,_,0,_,rfl,rfl,A2.of aJ,dO (j:=0) rfl,_,_,rfl,rfl,.inl ⟨by omega,by omega⟩,?_⟩;refine⟨_,rfl,p,_,0,_,rfl,rfl,A2.of aJ,dO (j:=0) rfl,_,_,rfl,rfl,.inl ⟨by decide,by decide⟩,_,_,rfl,rfl,_,_,rfl,rfl,(by show(0:Int)<2147483647;decide),_,_,rfl,rfl,⟨by decide,by decide⟩,_,rfl,_,_,rfl,rfl,h0,?_⟩;exact q _ _ (yl _ (by omega)) (vh _ h0) ⟨⟨_,_,aJ⟩,λb o hb e=>by rw[bA hb];exact e⟩
noncomputable def lP:Sp:=λvs H Q _=> ∃p l xs,vs=[.ref p,.ref l]/\PenAt H p/\l≠p/\H l=some (.lst xs)/\1<=xs.length/\xs.length<=1000/\∀v H',v∈xs->A5 p H H'->Q v H'
theorem A2t (F:D1 K mg "_law_pick" A0l ["_law_pen_here","_law_things"])(T:TxC mg)(a1:A1 P w K mg base 1 "_law_draw" iD):A1 P w K mg base 2 "_law_pick" lP:=by
 refine F.k ["_law_pen_here","_law_things"] ?_;ac_nf
 ·obtain⟨p,l,xs,rfl,hp,hlp,hl,h1,hz,q⟩:=h;refine⟨_,bB (bF (cA fT (pv 1) (a1.c hr (aG (pv 0) (bQ (bJ eK rfl T.len jm (aG (pv 1) aB)) aB))) (λ_ _=>rfl))),?_⟩;refine⟨_,rfl,_,rfl,_,rfl,l,xs,rfl,.inl (A2.of hl),p,(xs.length:Int),rfl,hp,by omega,by omega,λd H' d0 d1' st=> ?_⟩;obtain⟨n,rfl⟩:=ja d0;have hn:n<xs.length:=by omega
  exact⟨l,xs,_,xs[n],rfl,rfl,A2.of (st.keep l _ hlp hl),dO (bq hn),q _ _ (bx _) st⟩
noncomputable def ent (c:C3):List Key×V:=([ie c.1,ie c.2.1],.int c.2.2)
noncomputable def gS (es:List C3)(h s m:Int):List C3:=if (es.any λc=>decide (bW c=(h,s)))=true then es.map (λc=>if bW c=(h,s)then(h,s,m)else c)else es++[(h,s,m)]
theorem key_eq:(ent c).1=[ie h,ie s]↔bW c=(h,s):=by
 unfold ent bW;constructor
 ·intro e;have e1:=(xa e).1;have e2:=(xa (xa e).2).1;rw[k9 e1,k9 e2]
 ·intro e;rw[(zb e).1,(zb e).2]
theorem A7c (es:List C3)(h s m:Int):cF (es.map ent) [ie h,ie s] (.int m)=(gS es h s m).map ent:=by
 unfold cF gS;have e1:((es.map ent).any λkv=>decide (kv.1=[ie h,ie s]))=es.any λc=>decide (bW c=(h,s)):=by
  rw[ai]
  congr 1
  funext c
  exact decide_eq_decide.mpr key_eq
 rw[e1]
 split
 ·rw[c9,c9];refine cy λc _=> ?_;show(if (ent c).1=[ie h,ie s]then((ent c).1,V.int m)else ent c)=ent (if bW c=(h,s)then(h,s,m)else c);by_cases e:bW c=(h,s)
  ·rw[if_pos (key_eq.mpr e),if_pos e,key_eq.mpr e];rfl
  ·rw[if_neg (λz=>e (key_eq.mp z)),if_neg e]
 ·rw[cx];rfl
theorem B15 (es:List C3)(h s m:Int)(hn:(es.map bW).Nodup):((gS es h s m).map bW).Nodup:=by
 unfold gS;by_cases hany:(es.any λc=>decide (bW c=(h,s)))=true
 ·rw[if_pos hany,c9];have:es.map (bW∘λc=>if bW c=(h,s)then(h,s,m)else c)=es.map bW:=cy λc _=>by
   show bW (if bW c=(h,s)then(h,s,m)else c)=bW c;by_cases e:bW c=(h,s)
   ·rw[if_pos e,e];rfl
   ·rw[if_neg e]
  rw[this];exact hn
 ·rw[if_neg hany,cx];refine d8.mpr ⟨hn,by simp,λa ha b hb e=>hany ?_⟩;have hb':b=(h,s):=by simpa[bW]using hb
  obtain⟨c,hc,rfl⟩:=dv.mp ha;exact ah.mpr ⟨c,hc,AS (e.trans hb')⟩
theorem A2s {es:List C3}{h s m:Int}{B:C3->Prop}(ha:∀c∈es,B c)(hb:B (h,s,m)):∀c∈gS es h s m,B c:=by
 unfold gS;intro c hc;by_cases hany:(es.any λc=>decide (bW c=(h,s)))=true
 ·rw[if_pos hany]at hc;obtain⟨d,hd,rfl⟩:=dv.mp hc;by_cases e:bW d=(h,s)
  ·rw[if_pos e];exact hb
  ·rw[if_neg e];exact ha d hd
 ·rw[if_neg hany]at hc;rcases da.mp hc with z|z
  ·exact ha c z
  ·rw[d6.mp z];exact hb
theorem A7h (es:List C3)(h s m:Int):(gS es h s m).length<=es.length+1/\1<=(gS es h s m).length:=by
 unfold gS;by_cases hany:(es.any λc=>decide (bW c=(h,s)))=true
 ·rw[if_pos hany,b8];refine⟨by omega,?_⟩;obtain⟨c,hc,_⟩:=ah.mp hany;exact yd hc
 ·rw[if_neg hany,bz];simp
noncomputable def row (c:C3):List Int:=[c.1,c.2.1,c.2.2]
noncomputable def unrow:List Int->C3| [a,b,c]=>(a,b,c)|_=>(0,0,0)
theorem A4p (h:HT.lexLt (row b) (row a)=false)(hn:bW a≠bW b):lt2 (bW a) (bW b)=true:=by
 obtain⟨a1,a2,a3⟩:=a;obtain⟨b1,b2,b3⟩:=b;unfold row at h;unfold lt2 bW;unfold bW at hn;dsimp only at h hn⊢;rw[HT.lexLt_cons,HT.lexLt_cons]at h⊢;by_cases e1:a1=b1
 ·subst e1;rw[if_pos rfl]at h⊢;by_cases e2:a2=b2
  ·subst e2;exact absurd rfl hn
  ·rw[if_neg (λz=>e2 z.symm),decide_eq_false_iff_not]at h;rw[if_neg e2,decide_eq_true_eq];omega
 ·rw[if_neg (λz=>e1 z.symm),decide_eq_false_iff_not]at h;rw[if_neg e1,decide_eq_true_eq];omega
theorem wR (hz:zs.map (·.2)=es.map row)(hs:qM zs AD)(h1:1<=es.length)(h12:es.length<=12)(hb:∀c∈es,(0<=c.1/\c.1<=3)/\(0<=c.2.1/\c.2.1<=5)/\1<=c.2.2/\c.2.2<=20)(hn:(es.map bW).Nodup):
  cN (AD.map λz=>unrow z.2)/\(AD.map λz=>unrow z.2).Perm es/\∀z∈AD,z.2=row (unrow z.2):=by
 have rg:zs.length=es.length:=by have:=congrArg kq hz;simpa using this
 have e0:zs.map (λz=>unrow z.2)=es:=by
  have:zs.map (λz=>unrow z.2)=(zs.map (·.2)).map unrow:=by rw[c9];rfl
  rw[this,hz,c9];exact List.map_id' es
 have hp:(AD.map λz=>unrow z.2).Perm es:=by rw[←e0];exact hs.1.map _
 have hrow:∀z∈AD,z.2=row (unrow z.2):=λz hz'=>by
  have hm:z.2∈zs.map (·.2):=dy (hs.1.mem_iff.mp hz');rw[hz]at hm;obtain⟨c,_,e⟩:=dv.mp hm;rw[←e];rfl
 have zl:(AD.map λz=>unrow z.2).length=es.length:=hp.length_eq;refine⟨⟨by omega,by omega,λc hc=>hb c (hp.mem_iff.mp hc),?_⟩,hp,hrow⟩;have nd:((AD.map λz=>unrow z.2).map bW).Nodup:=((hp.map bW).nodup_iff).mpr hn;rw[c9]at nd⊢;rw[ee,fh]at nd;rw[fh];have both:=hs.2.and nd;rw[mf]at both⊢;intro i j hi hj hij;have b:=both i j hi hj hij;have r1:=hrow _ (bx hi);have r2:=hrow _ (bx hj);have b1:=b.1;rw[r1,r2]at b1;exact A4p b1 b.2
noncomputable def wG:Sp:=λvs H Q _=> ∃p,vs=[.ref p]/\PenAt H p/\∀a cs H',A5 p H H'->fW H' a cs->fV cs->cs.length<=4->Q (.ref a) H'
theorem B2h:(["_law_turn","_law_pen_here"]:List Str).Nodup:=by decide +kernel
theorem B4a (F:D1 K mg "_law_custom" pM ["_law_pen_here"])(T:TxC mg)(a1:A1 P w K mg base 1 "_law_draw" iD)(a2:A1 P w K mg base 2 "_law_pick" lP):A1 P w K mg base 3 "_law_custom" wG:=by
 refine F.k ["_law_pen_here"] ?_;ac_nf
 ·obtain⟨p,rfl,hp,q⟩:=h;have r1:Room 1 _:=hr.mono (by decide);refine⟨_,bB (bF (fK gM rfl T.tuple k7 (cM (bU (bH pM).names ["_law_pen_here"] ["_law_turn"] [("_law_pen_here",0)] rfl (lX rfl T.range (eM (bI dG aV (a1.c r1 (aG (pv 0) (cO aV aB)))) aB)) rfl rfl rfl (by decide +kernel)
   (λZ=>A4 0 B2h) (λZ=>cB)
   (λZ=>a2.c hr (aG (pv 1) (jA (fR (lstq (bM (bM (bM (bM (jT (bI dG aV (a1.c r1 (aG (pv 1) (cO aV aB)))) cT)))))) cT))))) aB))),?_⟩
  refine⟨_,rfl,p,4,rfl,hp,by decide,by decide,λd H1 d0 d1' st1=> ?_⟩;refine⟨_,_,rfl,rfl,1+d,rfl,by omega,by omega,λZ l hl=> ?_⟩;have hHl:H l=none:=by
   cases e:H l with
   |none=>rfl
   |some o=>
    by_cases z:l=p
    ·obtain⟨x,f',e'⟩:=st1.pen;rw[z,e']at hl;cases hl
    ·rw[st1.keep l o z e]at hl;cases hl
  have hlp:l≠p:=λz=>by
   obtain⟨x,f',e'⟩:=hp;rw[z,e']at hHl;cases hHl
  refine lF (lo:=0) (n:=(1+d).toNat) (λi σ H'=>(∃o,σ=[o,some (.ref p)])/\A5 p H H'/\∃cs:List Int,H' l=some (.lst (cs.map V.int))/\cs.length=i/\∀x∈cs,1<=x/\x<=100) ⟨⟨_,rfl⟩,st1.updL hHl hp,[],by rw[aJ];rfl,rfl,λx hx=>by cases hx⟩ ?_ ?_
  ·rintro i σ H' hi ⟨⟨o,rfl⟩,st,cs,zl,hn,hx⟩;refine iT ?_;refine⟨_,rfl,_,rfl,p,100,rfl,st.pen,by decide,by decide,λm H2 m0 m1 st2=> ?_⟩;refine⟨_,_,rfl,rfl,by show 5<=gz;decide,λt ht=> ?_⟩;have htp:t≠p:=λz=>by
    obtain⟨x,f',e'⟩:=st2.pen;rw[z,e']at ht;cases ht
   have st3:=(st.trans st2).same (aY (o:=.lst [.int 1,.int 1,.int 2,.int 3,.int (1+m)]) ht);refine⟨p,t,_,rfl,st3.pen,htp,aJ,by show 1<=5;decide,by show 5<=1000;decide,λv H4 hv st4=> ?_⟩;obtain⟨x,rfl,hx1,hx2⟩:∃x,v=V.int x/\1<=x/\x<=100:=by
    simp only[di,fc,or_false]at hv;rcases hv with rfl|rfl|rfl|rfl|rfl
    ·exact⟨1,rfl,by decide,by decide⟩
    ·exact⟨1,rfl,by decide,by decide⟩
    ·exact⟨2,rfl,by decide,by decide⟩
    ·exact⟨3,rfl,by decide,by decide⟩
    ·exact⟨1+m,rfl,by omega,by omega⟩
   have AG:H2 l=some (.lst (cs.map V.int)):=st2.keep l _ hlp zl;have hlt3:=aY (o:=.lst [.int 1,.int 1,.int 2,.int 3,.int (1+m)]) ht _ _ AG;refine⟨_,st4.keep l _ hlp hlt3,cG (by rw[b8];omega),⟨_,rfl⟩,(st3.trans st4).updL hHl hp,cs++[x],?_,by rw[bz,hn];rfl,λy hy=> ?_⟩
   ·rw[aJ,cx];rfl
   ·rcases da.mp hy with z|z
    ·exact hx y z
    ·rw[d6.mp z];exact⟨hx1,hx2⟩
  ·rintro σ H' ⟨_,st,cs,zl,hn,hx⟩;refine⟨l,_,rfl,.inl ⟨A2.of zl,λa ha=> ?_⟩⟩;exact q a cs _ (st.same (aY ha)) aJ ⟨by omega,by omega,hx⟩ (by omega)
noncomputable def lQ (hs:List Int):Prop:=1<=hs.length/\hs.length<=1000/\∀x∈hs,0<=x/\x<=3
noncomputable def A06:Sp:=λvs H Q _=> ∃p c hl cs hs,vs=[.ref p,.ref c,.ref hl]/\PenAt H p/\fW H c cs/\fV cs/\hl≠p/\H hl=some (.lst ((hs:List Int).map V.int))/\lQ hs/\∀a cl H',A5 p H H'->ClT H' a cl->cN cl->iL cs cl->Q (.ref a) H'
noncomputable abbrev nCL:List Str:=["_law_pen_here","_law_custom_here","_law_holders","_law_rights","_law_turn","_law_holder","_law_sort"]
theorem A1z:(["_law_pair","_law_many"]:List Str).Nodup:=by decide +kernel
theorem A7s (F:D1 K mg "_law_claims" oC ["_law_pen_here","_law_custom_here","_law_holders"])(T:TxC mg)(a1:A1 P w K mg base 1 "_law_draw" iD)(a2:A1 P w K mg base 2 "_law_pick" lP):A1 P w K mg base 3 "_law_claims" A06:=by
  refine F.k nCL ?_;ac_nf
  · obtain⟨p,c,hl,cs,hs,rfl,hp,hc,Gc,hlp,hhl,Gh,q⟩:=h
    have r1:Room 1 _:=hr.mono (by decide);have hu:(A.deeper (sk "_law_claims" (bH oC) s.heap.objs.size f cdv)).units+1<jt:=kA hr;refine⟨_,aU (bP (i:=3) nd rfl (jr rfl) A7x)<|
      aU (fZ jk rfl (lX rfl T.range (eM (bI dG aV (a1.c r1 (aG (pv 0) (cO aV aB)))) aB)) (A4 4 nd)
        (aU (iQ (i:=5) (j:=6) rfl nd rfl rfl (by decide) rfl rfl (bQ (a2.c hr (aG (pv 0) (aG (pv 2) aB))) (bQ (a1.c r1 (aG (pv 0) (bQ (bJ eK rfl T.len jm (aG (pv 1) aB)) aB))) aB)) rfl)<|
         bB (A1w hu (pv 3) (cL (aG (pv 5) (aG (pv 6) aB))) (a2.c hr (aG (pv 0) (jA (fR (lstq (bM (bM (bM (bM (jT (bI dG aV (a1.c r1 (aG (pv 0) (cO aV aB)))) cT)))))) cT)))) rfl)))<|
      bB (bF (fK gM rfl T.tuple k7 (bQ (bJ oK rfl T.sorted za (cM (bU (bH oC).names nCL ["_law_pair","_law_many"] [] rfl (A8h (pv 3)) rfl rfl rfl (by decide +kernel)
        (λZ=>bN rfl (bC (A4 0 A1z) (bC (A4 1 A1z) bO))) (λZ=>cB) (λZ=>bI jL (pv 0) (cL (aG (pv 1) aB)))) aB)) aB))),?_⟩
    intro d hd;have st0:A5 p H (upd H d (.dT [])):=(A5.refl hp).updO hd hp;refine⟨_,rfl,p,8,rfl,st0.pen,by decide,by decide,λdn H1 d0 d1' st1=> ?_⟩;refine⟨_,_,rfl,rfl,1+dn,rfl,by omega,by omega,?_⟩;have hdp:d≠p:=λz=>by
      obtain⟨x,y,e⟩:=hp;rw[z,e]at hd;cases hd
    refine lF (lo:=0) (n:=(1+dn).toNat) (λi σ H'=>(∃o4 o5 o6,σ=[some (.ref p),some (.ref c),some (.ref hl),some (.ref d),o4,o5,o6])/\A5 p H H'/\∃es:List C3,H' d=some (.dT (es.map ent))/\(es.map bW).Nodup/\(∀x∈es,((0<=x.1/\x.1<=3)/\(0<=x.2.1/\x.2.1<=5)/\1<=x.2.2/\x.2.2<=20)/\x.2.1<cs.length)/\es.length<=i/\(1<=i->1<=es.length))
      ⟨⟨_,_,_,rfl⟩,st0.trans st1,[],st1.keep d _ hdp aJ,fb,(λx hx=>by cases hx),AY _,λz=>by omega⟩ ?_ ?_
    · rintro i σ H' hi ⟨⟨o4,o5,o6,rfl⟩,st,es,hd',hn,hb,rg,_⟩
      have hcH:∀H2,A5 p H H2->fW H2 c cs:=λH2 s=>s.keep c _ (hp.ne hc (by intro z;simp)) hc;refine⟨_,rfl,_,rfl,p,hl,_,rfl,st.pen,hlp,st.keep hl _ hlp hhl,by rw[b8];exact Gh.1,by rw[b8];exact Gh.2.1,λv H2 hv st2=> ?_⟩;obtain⟨hh,hhm,rfl⟩:=dv.mp hv;have hhb:=Gh.2.2 hh hhm;have st12:=st.trans st2;refine⟨_,rfl,_,rfl,c,_,rfl,.inr (A3.of (hcH _ st12)),p,_,rfl,st12.pen,?_,?_,λsn H3 s0 s1 st3=> ?_⟩
      · rw[b8];have:=Gc.l1;omega
      · rw[b8];have:=Gc.l6;omega
      rw[b8]at s1;refine⟨_,_,rfl,?_⟩;have st13:=st12.trans st3;refine⟨_,rfl,_,rfl,p,20,rfl,st13.pen,by decide,by decide,λm H4 m0 m1 st4=> ?_⟩;refine⟨_,_,rfl,rfl,by show 5<=gz;decide,λt ht=> ?_⟩;have st14:=st13.trans st4;have htn:=st14.none ht;have st5:=st14.same (aY (o:=.lst [.int 1,.int 1,.int 2,.int 3,.int (1+m)]) ht);refine⟨p,t,_,rfl,st5.pen,htn.2,aJ,by show 1<=5;decide,by show 5<=1000;decide,λv H6 hv6 st6=> ?_⟩;obtain⟨x,rfl,hx1,hx2⟩:∃x,v=V.int x/\1<=x/\x<=20:=by
        simp only[di,fc,or_false]at hv6;rcases hv6 with rfl|rfl|rfl|rfl|rfl
        · exact⟨1,rfl,by decide,by decide⟩
        · exact⟨1,rfl,by decide,by decide⟩
        · exact⟨2,rfl,by decide,by decide⟩
        · exact⟨3,rfl,by decide,by decide⟩
        · exact⟨1+m,rfl,by omega,by omega⟩
      have st7:=st5.trans st6;have hd4:H4 d=some (.dT (es.map ent)):=st4.keep d _ hdp (st3.keep d _ hdp (st2.keep d _ hdp hd'));have hd6:H6 d=some (.dT (es.map ent)):=st6.keep d _ hdp (aY (o:=.lst [.int 1,.int 1,.int 2,.int 3,.int (1+m)]) ht _ _ hd4);refine⟨_,rfl,_,rfl,_,rfl,by show 2<=gz;decide,λk hk=> ?_⟩;have hkd:d≠k:=λz=>by rw[←z,hd6]at hk;cases hk
      have hd8:(upd H6 k (.tup [.int hh,.int sn])) d=some (.dT (es.map ent)):=by rw[bA hkd];exact hd6
      have hkt:(upd H6 k (.tup [.int hh,.int sn])) k=some (.tup (([ie hh,ie sn]:List Key).map kV)):=by rw[aJ];rfl
      refine⟨d,_,rfl,DPut.t hd8 hkt (by rw[b8];exact cG (by omega)),?_⟩;rw[A7c];have AF:=A7h es hh sn x;refine⟨⟨_,_,_,rfl⟩,(st7.same (aY hk)).updO hd hp,gS es hh sn x,aJ,B15 es hh sn x hn,A2s hb ⟨⟨hhb,⟨s0,by have:=Gc.l6;show sn<=5;omega⟩,hx1,hx2⟩,s1⟩,by omega,λ_=>AF.2⟩
    · rintro σ H' ⟨⟨o4,o5,o6,rfl⟩,st,es,hd',hn,hb,rg,h1⟩
      have hel:es.length<=8:=by omega
      have he1:1<=es.length:=h1 (by omega);refine⟨_,rfl,d,_,rfl,hd',λo Z l hl0=> ?_⟩;have stf:A5 p H (upd H' d (.frz o (.dT (es.map ent)))):=st.updO hd hp;have hln:=stf.none hl0;have hld:l≠d:=λz=>by rw[z,aJ]at hl0;cases hl0
      refine A4a (λi σ H2=>σ.length=2/\H2 d=some (.frz o (.dT (es.map ent)))/\A5 p H H2/\∃zs:List (gy×List Int),H2 l=some (.lst (zs.map λz=>V.ref z.1))/\zs.map (·.2)=(es.take i).map row/\∀z∈zs,H2 z.1=some (.tup (z.2.map V.int)))
        ⟨rfl,by rw[bA hld.symm,aJ],stf.updO hln.1 hp,[],by rw[aJ];rfl,rfl,λz hz=>by cases hz⟩ (λi σ H2 h=>h.2.1) ?_ ?_
      · rintro i k x pp b σ H2 hki ⟨hσ,hfz,st2,zs,AF,hzr,hza⟩ hpp hb2
        obtain⟨x0,x1,rfl⟩:=tF hσ;rw[br]at hki;cases hei:es[i]? with
        |none=>rw[hei]at hki;cases hki
        |some cc=>
        rw[hei]at hki;have hke:ent cc=(k,x):=ig hki;have ek:k=[ie cc.1,ie cc.2.1]:=(zb hke).1.symm;have ex:x=V.int cc.2.2:=(zb hke).2.symm;subst ek ex;have hi:i<es.length:=(AR.mp hei).1;have hzl:zs.length<=i:=by
          have:=congrArg kq hzr;rw[b8,b8,cm]at this;omega
        have s3:=aY (o:=.tup [.ref b,.int cc.2.2]) hpp;refine⟨pp,_,rfl,A3.of aJ,rfl,_,_,rfl,_,_,rfl,rfl,?_⟩;refine gV ?_;refine⟨_,rfl,_,rfl,by show 1<=gz;decide,λt ht=> ?_⟩;have s4:=aY (o:=.tup [.int cc.2.2]) ht;refine⟨b,t,_,[.int cc.2.2],rfl,rfl,s4 _ _ (s3 _ _ hb2),aJ,by show 2+1<=gz;decide,λu H5 s5 hu5=> ?_⟩;have s35:=(s3.trans s4).trans s5;have hl5:=s35 _ _ AF;refine⟨_,hl5,cG (by rw[b8];omega),rfl,?_,(st2.same s35).updO hln.1 hp,zs++[(u,row cc)],?_,?_,λz hz=> ?_⟩
        · rw[bA hld.symm];exact s35 _ _ hfz
        · rw[aJ,cx];rfl
        · rw[cx,hzr,fq,hei,cx];rfl
        · have up:∀a xs,H5 a=some (.tup xs)->(upd H5 l (.lst (zs.map (λz=>V.ref z.1)++[.ref u]))) a=some (.tup xs):=λa xs e=>by rw[bA (λz=>by rw[z,hl5]at e;cases e)];exact e
          rcases da.mp hz with z'|z'
          · exact up _ _ (s35 _ _ (hza z z'))
          · rw[d6.mp z'];exact up _ _ hu5
      · rintro σ H2 ⟨_,_,st2,zs,AF,hzr,hza⟩
        rw[b8,fo (AY _)]at hzr;have hzl:zs.length=es.length:=by
          have:=congrArg kq hzr;simpa using this
        refine⟨l,zs,rfl,A2.of AF,λz hz=> ⟨hza z hz,λe=> ?_⟩,by omega,λl2 AD hl3 hs2=> ?_⟩
        · have hm:z.2∈es.map row:=by rw[←hzr];exact dy hz
          obtain⟨c',_,e'⟩:=dv.mp hm;rw[←e']at e;cases e
        have s3:=aY (o:=.lst (AD.map λz=>V.ref z.1)) hl3;obtain⟨gO,gP,gR⟩:=wR hzr hs2 he1 (by omega) (λx hx=>(hb x hx).1) hn;refine⟨l2,_,rfl,.inl ⟨A2.of aJ,λa ha=> ?_⟩⟩;have s4:=aY (o:=.tup (AD.map λz=>V.ref z.1)) ha;refine q a (AD.map λz=>unrow z.2) _ ((st2.same s3).same s4) ⟨AD.map (·.1),by rw[aJ,c9];rfl,?_⟩ gO λx hx=>(hb x (gP.mem_iff.mp hx)).2;have go:∀ys:List (gy×List Int),(∀z∈ys,z∈AD)->ClP (upd (upd H2 l2 (.lst (AD.map λz=>V.ref z.1))) a (.tup (AD.map λz=>V.ref z.1))) (ys.map (·.1)) (ys.map λz=>unrow z.2):=λys=>by
          induction ys with
          |nil=>intro _;exact .nil
          |cons y ys ih=>
            intro hy;refine .cons ?_ (ih λz hz=>hy z (AW _ hz));have hy':=hy y AX;have e:=hza y (hs2.1.mem_iff.mp hy');rw[gR y hy']at e;exact s4 _ _ (s3 _ _ e)
        exact go AD λz hz=>hz
noncomputable def A0n:Sp:=λvs H Q _=> ∃p,vs=[.ref p,.int 6]/\PenAt H p/\∀a g w H',A5 p H H'->GridAt H' a g->cR g w->w<=4->g.length<=3->cY g<=6->Q (.ref a) H'
noncomputable abbrev rL:List Str:=["_law_pen_here","_law_most","_law_high","_law_wide","_law_many","_law_rows","_law_turn","_law_row","_law_place","_law_number"]
noncomputable abbrev σM (p lr:gy)(m hi wi mn:Int)(o6 o7 o8 o9:Option V):L2.St:=[some (.ref p),some (.int m),some (.int hi),some (.int wi),some (.int mn),some (.ref lr),o6,o7,o8,o9]
noncomputable def dec (n:Int):Int:=if decide (0<=n)=true then 1 else 0
theorem A4j (n:Int):((if pos n then 1 else 0:Nat):Int)=dec n:=by unfold dec pos;by_cases h:0<=n<;>simp[h]
theorem B26 (xs:List Int)(h:1<=xs.length):cJ (xs.map V.int) (some 1) none=(xs.drop 1).map V.int:=by
 have e1:HT.sIx (xs.map V.int).length 0 (some 1)=min 1 (xs.map V.int).length:=HT.sIx_nat _ _ 1;have e2:HT.sIx (xs.map V.int).length (xs.map V.int).length none=(xs.map V.int).length:=rfl;unfold cJ;rw[e1,e2,b8];have e3:min 1 xs.length=1:=by omega
 rw[e3,←c5,fo (by rw[b8,b5];omega)]
theorem A4v (F:D1 K mg "_law_mead" kN ["_law_pen_here","_law_most"])(T:TxC mg)(a1:A1 P w K mg base 1 "_law_draw" iD)(a2:A1 P w K mg base 2 "_law_pick" lP):A1 P w K mg base 3 "_law_mead" A0n:=by
  refine F.k rL ?_;ac_nf
  · obtain⟨p,rfl,hp,q⟩:=h
    have r1:Room 1 _:=hr.mono (by decide);have t45:∃tt,A0 (fC CX0 P w K mg base rL "_law_mead" (bH kN) f cdv A outer s H E).nox ((iU ((iU ((dN kN).getD 1 (.Pass ⟨0,0,0,0⟩))).getD 1 (.Pass ⟨0,0,0,0⟩))).drop 2) tt/\
        ∀(lr rw':gy)(hi wi mn n:Int)(o6 o8:Option V)(H1:Hp)(xs:List V)(De:eA),H1 rw'=some (.lst xs)->xs.length<=10->De.nx (σM p lr 6 hi wi (mn+dec n) o6 (some (.ref rw')) o8 (some (.int n))) (upd H1 rw' (.lst (xs++[.int n])))->
          tt De (σM p lr 6 hi wi mn o6 (some (.ref rw')) o8 (some (.int n))) H1:=by
      refine⟨_,aU (bP (i:=4) nd rfl (jr rfl) (bI dG (pv 4) (fK zO rfl T.int boot_int (B3o (dE mN (pv 9) aV (nomark _)) aB))))<|
        bB (cP (jB ka mx my lH (pv 7) (aG (pv 9) aB))),?_⟩
      intro lr rw' hi wi mn n o6 o8 H1 xs De hrw hz k;refine⟨_,rfl,_,rfl,_,_,rfl,rfl,.inr ⟨_,rfl,_,_,rfl,rfl,?_⟩⟩;exact⟨_,rfl,.inl ⟨rfl,_,A2.of hrw⟩,_,rfl,rw',xs,_,rfl,rfl,hrw,cG (by omega),k⟩
    obtain⟨tt45,h45,r45⟩:=t45;have tin:∃tt,A0 (fC CX0 P w K mg base rL "_law_mead" (bH kN) f cdv A outer s H E).nox (iU ((iU ((dN kN).getD 1 (.Pass ⟨0,0,0,0⟩))).getD 1 (.Pass ⟨0,0,0,0⟩))) tt/\
        ∀(lr rw':gy)(hi wi mn:Int)(o6 o8 o9:Option V)(H1:Hp)(xs:List V)(De:eA),PenAt H1 p->H1 rw'=some (.lst xs)->rw'≠p->xs.length<=10->
          (∀n' H2,A5 p H1 H2->-2<=n'->n'<=99->(0<=n'->mn≠6)->De.nx (σM p lr 6 hi wi (mn+dec n') o6 (some (.ref rw')) o8 (some (.int n'))) (upd H2 rw' (.lst (xs++[.int n']))))->
          tt De (σM p lr 6 hi wi mn o6 (some (.ref rw')) o8 o9) H1:=by
      refine⟨_,aU (bP (i:=9) nd rfl (jr rfl) (a2.c hr (aG (pv 0) (jA (fR (lstq (sP (jP kK aV) (sP (jP kK aV) (sP (jP kK aV) (bM (bM (bM (bM (bM (bM (bM (xV (a1.c r1 (aG (pv 0) (cO aV aB))) cT)))))))))))) cT)))))<|
        aU (bS (PW.pt (lD (cI mN (pv 9) aV (nomark _)) (lA (cI gB (pv 4) (pv 1) (nomark _))))) (bB (bP (i:=9) nd rfl (jr rfl) (jP kK aV))) bT) h45,?_⟩
      intro lr rw' hi wi mn o6 o8 o9 H1 xs De hp1 hrw hrp hz k;refine⟨_,rfl,_,rfl,_,rfl,_,rfl,_,rfl,p,100,rfl,hp1,by decide,by decide,λd H2 d0 d1' st2=> ?_⟩;refine⟨by show 11<=gz;decide,λl hl=> ?_⟩;have st3:=st2.same (aY (o:=.lst [.int (-1),.int (-1),.int (-2),.int 1,.int 2,.int 3,.int 3,.int 4,.int 0,.int 9,.int d]) hl);have hlp:l≠p:=st2.pen.fresh hl;refine⟨p,l,_,rfl,st3.pen,hlp,aJ,by show 1<=11;decide,by show 11<=1000;decide,λv H4 hv st4=> ?_⟩;obtain⟨n,rfl,n1,n2⟩:∃n,v=V.int n/\-2<=n/\n<=99:=by
        simp only[di,fc,or_false]at hv;rcases hv with rfl|rfl|rfl|rfl|rfl|rfl|rfl|rfl|rfl|rfl|rfl
        all_goals exact⟨_,rfl,by omega,by omega⟩
      have st5:=st3.trans st4;have hrw4:=st5.keep _ _ hrp hrw;refine⟨_,rfl,_,_,rfl,rfl,_,rfl,eZ (λn0=> ?_) λn0=> ?_⟩
      · refine⟨_,rfl,_,rfl,rfl,_,rfl,eZ (λl0=> ?_) λl0=> ?_⟩
        · exact⟨_,rfl,r45 lr rw' hi wi mn _ o6 o8 H4 xs De hrw4 hz (k _ H4 st5 (by decide) (by decide) λz=>absurd z (by decide))⟩
        · exact r45 lr rw' hi wi mn n o6 o8 H4 xs De hrw4 hz (k _ H4 st5 n1 n2 λ_ z=>l0 (by rw[z]))
      · refine bR ?_
        exact r45 lr rw' hi wi mn n o6 o8 H4 xs De hrw4 hz (k _ H4 st5 n1 n2 λz=>absurd z n0)
    obtain⟨tti,hin,rin⟩:=tin;refine⟨_,aU (cK (cL (eM (bI dG aV (a1.c r1 (aG (pv 0) (cO aV aB)))) (eM (bI dG aV (a1.c r1 (aG (pv 0) (cO aV aB)))) (cO aV (lM (eG aB) aB)))))
        (bN rfl (bC (A4 2 nd) (bC (A4 3 nd) (bC (A4 4 nd) (bC (A4 5 nd) bO))))))<|
      aU (fZ jk rfl (lX rfl T.range (aG (pv 2) aB)) (A4 6 nd)
        (aU (bP (i:=7) nd rfl (jr rfl) (eG aB))<|
         aU (fZ jk rfl (lX rfl T.range (aG (pv 3) aB)) (A4 8 nd) hin)<|
         bB (cP (jB ka mx my lH (pv 5) (bQ (fK gM rfl T.tuple k7 (aG (pv 7) aB)) aB)))))<|
      aU (bS (cI gB (pv 4) aV (nomark _)) (bB (cK (bI jL (cL (cO aV aB)) (gC jM (cA fT (pv 5) aV (λ_ _=>rfl)) (fY aV) gX)) (sD (pv 5) aV rR))) bT)<|
      bB (bF (fK gM rfl T.tuple k7 (aG (pv 5) aB))),?_⟩
    refine⟨_,rfl,p,3,rfl,hp,by decide,by decide,λd1 H1 a1 a2 st1=> ?_⟩;refine⟨_,_,rfl,rfl,_,rfl,p,4,rfl,st1.pen,by decide,by decide,λd2 H2 c1 c2 st2=> ?_⟩;refine⟨_,_,rfl,rfl,?_⟩;refine⟨by show 0<=gz;decide,λlr hlr=> ?_⟩;refine⟨by show 4<=gz;decide,λt4 ht4=> ?_⟩;refine⟨t4,_,rfl,A3.of aJ,rfl,_,_,rfl,_,_,rfl,_,_,rfl,_,_,rfl,rfl,?_⟩;have st3:=st1.trans st2;have hHlr:H lr=none:=(st3.none hlr).1;have hlrp:lr≠p:=(st3.none hlr).2;have stl:A5 p H (upd H2 lr (.lst [])):=st3.updL hHlr hp;have st4:=stl.same (aY (o:=.tup [.int (1+d1),.int (1+d2),.int 0,.ref lr]) ht4);have AG:lr≠t4:=λz=>by rw[←z,aJ]at ht4;cases ht4
    refine⟨_,rfl,1+d1,rfl,by omega,by omega,?_⟩;refine lF (lo:=0) (n:=(1+d1).toNat) (λi σ H'=> ∃(mn:Int)(bs:List gy)(g:bE),(∃o6 o7 o8 o9,σ=σM p lr 6 (1+d1) (1+d2) mn o6 o7 o8 o9)/\A5 p H H'/\H' lr=some (.lst (bs.map V.ref))/\RowsG H' bs g/\g.length=i/\mn<=6/\mn=cY g/\(∀xs∈g,xs.length=(1+d2).toNat)/\∀xs∈g,∀n∈xs,-2<=n/\n<=99)
      ⟨0,[],[],⟨_,_,_,_,rfl⟩,st4,by rw[bA AG,aJ];rfl,.nil,rfl,by decide,rfl,(λr hr'=>by cases hr'),(λr hr'=>by cases hr')⟩ ?_ ?_
    · rintro i σ H' hi ⟨mn,bs,g,⟨o6,o7,o8,o9,rfl⟩,yv,hlr',hG,hn,mn6,mnc,rg,hnum⟩
      have hbs:bs.length=g.length:=Paired.length hG;refine⟨by show 0<=gz;decide,λrw' hrw=> ?_⟩;have hrp:rw'≠p:=yv.pen.fresh hrw;have hrl:rw'≠lr:=λz=>by rw[z,hlr']at hrw;cases hrw
      refine⟨_,rfl,1+d2,rfl,by omega,by omega,?_⟩;refine lF (lo:=0) (n:=(1+d2).toNat) (λj σ H2=> ∃(mn2:Int)(xs:List Int),(∃o8 o9,σ=σM p lr 6 (1+d1) (1+d2) mn2 (some (.int (0+i))) (some (.ref rw')) o8 o9)/\A5 p H' H2/\H2 rw'=some (.lst (xs.map V.int))/\xs.length=j/\mn2<=6/\mn2=mn+dP xs/\∀n∈xs,-2<=n/\n<=99)
        ⟨mn,[],⟨_,_,rfl⟩,(A5.refl yv.pen).updL hrw yv.pen,aJ,rfl,mn6,by simp[dP],λx hx=>by cases hx⟩ ?_ ?_
      · rintro j σ H2 hj ⟨mn2,xs,⟨o82,o92,rfl⟩,stj,hxs,hnj,l0,lc,hxi⟩
        refine rin lr rw' _ _ mn2 _ _ _ H2 (xs.map V.int) _ stj.pen hxs hrp (by rw[b8];omega) λn' H3 st3' n1 n2 nl=> ?_;refine⟨mn2+dec n',xs++[n'],⟨_,_,rfl⟩,(stj.trans st3').updL hrw yv.pen,by rw[aJ,cx];rfl,by rw[bz,hnj];rfl,?_,?_,λx hx=> ?_⟩
        · unfold dec
          by_cases h0:0<=n'
          · have:=nl h0
            rw[AS h0,if_pos rfl];omega
          · rw[AU h0,if_neg (by decide)];omega
        · rw[B1u,yj,A4j];omega
        · rcases da.mp hx with z|z
          · exact hxi x z
          · rw[d6.mp z];exact⟨n1,n2⟩
      · rintro σ H2 ⟨mn2,xs,⟨o82,o92,rfl⟩,stj,hxs,hnj,l0,lc,hxi⟩
        have hlr2:=stj.keep lr _ hlrp hlr';refine⟨_,rfl,.inl ⟨rfl,_,A2.of hlr2⟩,_,rfl,rw',xs.map V.int,rfl,.inl ⟨A2.of hxs,λt ht=> ?_⟩⟩;have s3:=aY (o:=.tup (xs.map V.int)) ht;have hlr3:=s3 _ _ hlr2;refine⟨lr,bs.map V.ref,_,rfl,rfl,hlr3,cG (by rw[b8];omega),?_⟩;have exA:Ext H' (upd (upd H2 t (.tup (xs.map V.int))) lr (.lst (bs.map V.ref++[.ref t]))):=((stj.ext yv.pen).trans s3.ext).trans (Ext.updL hlr3);have htl:t≠lr:=λz=>by rw[z,hlr2]at ht;cases ht
        refine⟨mn2,bs++[t],g++[xs],⟨_,_,_,_,rfl⟩,((yv.trans stj).same s3).updL hHlr hp,by rw[aJ,cx];rfl,Paired.snoc (hG.ext exA) (by rw[bA htl,aJ]),by rw[bz,hn];rfl,l0,?_,λys hy=> ?_,λys hy=> ?_⟩
        · rw[A9x];omega
        · rcases da.mp hy with z|z
          · exact rg ys z
          · rw[d6.mp z];exact hnj
        · rcases da.mp hy with z|z
          · exact hnum ys z
          · rw[d6.mp z];exact hxi
    · rintro σ H' ⟨mn,bs,g,⟨o6,o7,o8,o9,rfl⟩,yv,hlr',hG,hn,mn6,mnc,rg,hnum⟩
      have hbs:bs.length=g.length:=Paired.length hG;have h1:1<=g.length:=by omega
      have h4:g.length<=4:=by omega
      refine⟨_,rfl,rfl,_,rfl,eZ (λe10=> ?_) λe10=> ?_⟩
      · have e10':mn=0:=V.int.inj e10
        obtain⟨b0,AE,rfl⟩:∃b0 AE,bs=b0::AE:=n9 (λz=>by rw[z]at hbs;simp at hbs;omega);obtain⟨xs0,g',rfl⟩:∃xs0 g',g=xs0::g':=n9 (λz=>by rw[z]at h1;simp at h1);have hb0:H' b0=some (.tup (xs0.map V.int)):=by cases hG with|cons a b=>exact a
        have hG':RowsG H' AE g':=by cases hG with|cons a b=>exact b
        have hw0:=rg xs0 AX;refine⟨by show 1<=gz;decide,λt3 ht3=> ?_⟩;have s3:=aY (o:=.tup [.int 5]) ht3;refine⟨_,rfl,lr,_,0,.ref b0,rfl,rfl,A2.of (s3 _ _ hlr'),dO (j:=0) rfl,_,rfl,b0,xs0.map V.int,rfl,s3 _ _ hb0,λc H4 s4 hc=> ?_⟩;rw[B26 xs0 (by omega)]at hc;refine⟨t3,c,[.int 5],_,rfl,rfl,s4 _ _ aJ,hc,?_,λc2 H5 s5 hc2=> ?_⟩
        · rw[b8,b5,jh];show 1+_<=_;omega
        have hlr5:=s5 _ _ (s4 _ _ (s3 _ _ hlr'));refine⟨_,rfl,lr,_,0,0,rfl,rfl,hlr5,(by unfold ixN;rw[if_pos (by decide),if_pos (by simp)];rfl),?_⟩;have exA:Ext H' (upd H5 lr (.lst (((b0::AE).map V.ref).set 0 (.ref c2)))):=((s3.ext.trans s4.ext).trans s5.ext).trans (Ext.updL hlr5);refine⟨_,rfl,lr,_,rfl,.inl ⟨A2.of aJ,λtt htt=> ?_⟩⟩;have s6:=aY (o:=.tup (((b0::AE).map V.ref).set 0 (.ref c2))) htt;have hc2l:c2≠lr:=λz=>by rw[z,hlr5]at hc2;cases hc2
        have z0:cY (xs0::g')=0:=by omega
        have z1:dP xs0=0/\cY g'=0:=by
          unfold cY at z0⊢;rw[cz,fm]at z0;omega
        have zd:dP (xs0.drop 1)=0:=by
          have:(xs0.filter pos)=[]:=b6.mp z1.1;unfold dP;rw[b6,ay];intro a ha;exact ay.mp this a (sd ha)
        have zc:cY ((5::xs0.drop 1)::g')=1:=by
          have e1:dP (5::xs0.drop 1)=dP (xs0.drop 1)+1:=by unfold dP;rw[ax (by decide),b4]
          unfold cY;rw[cz,fm,e1,zd];have:=z1.2;unfold cY at this;omega
        refine q tt ((5::xs0.drop 1)::g') (1+d2).toNat _ ((((yv.same s3).same s4).same s5).updL hHlr hp|>.same s6) ⟨c2::AE,aJ,.cons ?_ (hG'.ext (exA.trans s6.ext))⟩ ⟨by simp,by simpa using h4,by omega,by omega,λys hy=> ?_,λys hy=> ?_,by omega,by omega⟩ (by omega) (by rw[b4]at h1 h4⊢;rw[b4]at hn;omega) (by omega)
        · exact s6 _ _ (by rw[bA hc2l];exact hc2)
        · rcases di.mp hy with z|z
          · rw[z,b4,b5];omega
          · exact rg ys (AW _ z)
        · rcases di.mp hy with z|z
          · rw[z]
            intro n hn';rcases di.mp hn' with z'|z'
            · omega
            · exact hnum xs0 AX n (sd z')
          · exact hnum ys (AW _ z)
      · refine⟨_,rfl,lr,_,rfl,.inl ⟨A2.of hlr',λtt htt=> ?_⟩⟩
        have s6:=aY (o:=.tup (bs.map V.ref)) htt;have e10':mn≠0:=λz=>e10 (by rw[z]);exact q tt g (1+d2).toNat _ (yv.same s6) ⟨bs,aJ,hG.ext s6.ext⟩ ⟨h1,h4,by omega,by omega,rg,hnum,by omega,by omega⟩ (by omega) (by omega) (by omega)
structure PleA (H:Hp)(p:gy)(g:bE)(w:Nat)(cs:List Int)(cl:List C3)(od:Int):Prop where
 G:cR g w
 w4:w<=4
 g3:g.length<=3
 c6:cY g<=6
 cu:fV cs
 ck:cN cl
 un:iL cs cl
 o9:0<=od/\od<=999
 ex:∃m c a,H p=some (.tup [.ref m,.ref c,.ref a,.int od])/\GridAt H m g/\fW H c cs/\ClT H a cl
end
theorem PleA.ext (h:PleA H p g w cs cl od)(e:Ext H H'):PleA H' p g w cs cl od:=
 ⟨h.G,h.w4,h.g3,h.c6,h.cu,h.ck,h.un,h.o9,let ⟨m,c,a,h1,h2,h3,h4⟩:=h.ex;⟨m,c,a,e.tup _ _ h1,h2.ext e,e.tup _ _ h3,h4.ext e⟩⟩
theorem PleA.same (h:PleA H p g w cs cl od)(s:Same H H'):PleA H' p g w cs cl od:=h.ext s.ext
noncomputable def pP:Sp:=λvs H Q _=> ∃p,vs=[.ref p,.int 6]/\PenAt H p/\∀t g w cs cl od H',A5 p H H'->PleA H' t g w cs cl od->Q (.ref t) H'
section
variable {P:il}{w:i6}{K:W.Frag}{mg:Str->Option gw}{base:iw}
noncomputable abbrev B3i:List Str:=["_law_pen_here","_law_most","_law_mead_here","_law_custom_here","_law_holders","_law_odd"]
theorem B0t (F:D1 K mg "_law_plea" A1y ["_law_pen_here","_law_most"])(T:TxC mg)(a1:A1 P w K mg base 1 "_law_draw" iD)(a2:A1 P w K mg base 2 "_law_pick" lP)(a3:A1 P w K mg base 3 "_law_mead" A0n)(a4:A1 P w K mg base 3 "_law_custom" wG)(a5:A1 P w K mg base 3 "_law_claims" A06):A1 P w K mg base 4 "_law_plea" pP:=by
 refine F.k B3i ?_;ac_nf
 ·obtain⟨p,rfl,hp,q⟩:=h;have r1:Room 1 _:=hr.mono (by decide);have r2:Room 2 _:=hr.mono (by decide);refine⟨_,aU (iQ (i:=2) (j:=3) rfl nd rfl rfl (by decide) rfl rfl (bQ (a3.c hr (aG (pv 0) (aG (pv 1) aB))) (bQ (a4.c hr (aG (pv 0) aB)) aB)) rfl)<|
   aU (bP (i:=4) nd rfl (jr rfl) (a2.c r2 (xS (pv 0) (fR (lstq (fR (lstq (bM (bM cT))) (fR (lstq (bM (bM cT))) (fR (lstq (bM (bM (bM cT)))) (fR (lstq (bM cT)) (fR (lstq (bM (bM (bM (bM cT))))) (fR (lstq (bM (bM cT))) cT))))))) cT))))<|
   aU (bP (i:=5) nd rfl (jr rfl) (a2.c r2 (xS (pv 0) (fR (lstq (bM (bM (bM (bM (bM (bM (bM (bM (xV (a1.c r1 (aG (pv 0) (cO aV aB))) cT)))))))))) cT))))<|
   bB (bF (cL (aG (pv 2) (aG (pv 3) (bQ (a5.c hr (aG (pv 0) (aG (pv 3) (aG (pv 4) aB)))) (aG (pv 5) aB)))))),?_⟩
  refine⟨_,rfl,_,rfl,p,rfl,hp,λa g w' H1 st1 hA G w4 g3 c6=> ?_⟩;refine⟨_,rfl,p,rfl,st1.pen,λc cs H2 st2 hc Gc _=> ?_⟩;refine⟨_,_,rfl,?_⟩;have st12:=st1.trans st2;refine⟨_,rfl,?_⟩;refine⟨by show 2<=gz;decide,λl1 e1=> ?_⟩;refine⟨by show 2<=gz;decide,λl2 e2=> ?_⟩;refine⟨by show 3<=gz;decide,λl3 e3=> ?_⟩;refine⟨by show 1<=gz;decide,λl4 e4=> ?_⟩;refine⟨by show 4<=gz;decide,λl5 e5=> ?_⟩;refine⟨by show 2<=gz;decide,λl6 e6=> ?_⟩;refine⟨by show 6<=gz;decide,λL eL=> ?_⟩;have s1:=aY (o:=.lst [.int 0,.int 1]) e1;have s2:=aY (o:=.lst [.int 0,.int 2]) e2;have s3:=aY (o:=.lst [.int 1,.int 2,.int 3]) e3;have s4:=aY (o:=.lst [.int 3]) e4;have s5:=aY (o:=.lst [.int 0,.int 1,.int 2,.int 3]) e5;have s6:=aY (o:=.lst [.int 1,.int 3]) e6;have sL:=aY (o:=.lst [.ref l1,.ref l2,.ref l3,.ref l4,.ref l5,.ref l6]) eL;have sA:=(((((s1.trans s2).trans s3).trans s4).trans s5).trans s6).trans sL;have st3:=st12.same sA;refine⟨p,L,_,rfl,st3.pen,(st12.same (((((s1.trans s2).trans s3).trans s4).trans s5).trans s6)).pen.fresh eL,aJ,by show 1<=6;decide,by show 6<=1000;decide,λv H4 hv st4=> ?_⟩;have hold:∃(hl:gy)(hs:List Int),v= .ref hl/\hl≠p/\H4 hl=some (.lst (hs.map V.int))/\lQ hs:=by
   have key:∀(b:gy)(hs:List Int)(Hb:Hp)(eb:Hb b=none),PenAt Hb p->Same (upd Hb b (.lst (hs.map V.int))) (upd (upd (upd (upd (upd (upd (upd H2 l1 (.lst [.int 0,.int 1])) l2 (.lst [.int 0,.int 2])) l3 (.lst [.int 1,.int 2,.int 3])) l4 (.lst [.int 3])) l5 (.lst [.int 0,.int 1,.int 2,.int 3])) l6 (.lst [.int 1,.int 3])) L (.lst [.ref l1,.ref l2,.ref l3,.ref l4,.ref l5,.ref l6]))->lQ hs->∃(hl:gy)(hs:List Int),V.ref b= .ref hl/\hl≠p/\H4 hl=some (.lst (hs.map V.int))/\lQ hs:=λb hs Hb eb hpb sb G=>
    ⟨b,hs,rfl,hpb.fresh eb,st4.keep b _ (hpb.fresh eb) (sb _ _ aJ),G⟩
   have hh:∀(hs:List Int),1<=hs.length->hs.length<=1000->(hs.all λx=>decide (0<=x)&&decide (x<=3))=true->lQ hs:=λhs a b c=> ⟨a,b,λx hx=>by have:=ae.mp c x hx;simp only[i4,decide_eq_true_eq]at this;exact this⟩;have p0:=st12.pen;have p1:=p0.same s1;have p2:=p1.same s2;have p3:=p2.same s3;have p4:=p3.same s4;have p5:=p4.same s5;simp only[di,fc,or_false]at hv;rcases hv with rfl|rfl|rfl|rfl|rfl|rfl
   ·exact key l1 [0,1] _ e1 p0 (((((s2.trans s3).trans s4).trans s5).trans s6).trans sL) (hh _ (by decide) (by decide) (by decide))
   ·exact key l2 [0,2] _ e2 p1 ((((s3.trans s4).trans s5).trans s6).trans sL) (hh _ (by decide) (by decide) (by decide))
   ·exact key l3 [1,2,3] _ e3 p2 (((s4.trans s5).trans s6).trans sL) (hh _ (by decide) (by decide) (by decide))
   ·exact key l4 [3] _ e4 p3 ((s5.trans s6).trans sL) (hh _ (by decide) (by decide) (by decide))
   ·exact key l5 [0,1,2,3] _ e5 p4 (s6.trans sL) (hh _ (by decide) (by decide) (by decide))
   ·exact key l6 [1,3] _ e6 p5 sL (hh _ (by decide) (by decide) (by decide))
  obtain⟨hl,hs,rfl,hlp,hhl,Gh⟩:=hold;have st5:=st3.trans st4;refine⟨_,rfl,_,rfl,p,60,rfl,st5.pen,by decide,by decide,λd H5 d0 d1' st6=> ?_⟩;refine⟨by show 9<=gz;decide,λl hl0=> ?_⟩;have s7:=aY (o:=.lst [.int 0,.int 1,.int 2,.int 3,.int 5,.int 9,.int 20,.int 999,.int d]) hl0;have st7:=(st5.trans st6).same s7;refine⟨p,l,_,rfl,st7.pen,(st5.trans st6).pen.fresh hl0,aJ,by show 1<=9;decide,by show 9<=1000;decide,λv H6 hv st8=> ?_⟩;obtain⟨od,rfl,n1,n2⟩:∃n,v=V.int n/\0<=n/\n<=999:=by
   simp only[di,fc,or_false]at hv;rcases hv with rfl|rfl|rfl|rfl|rfl|rfl|rfl|rfl|rfl
   all_goals exact⟨_,rfl,by omega,by omega⟩
  have st9:=st7.trans st8;have x26:Ext H2 H6:=((sA.ext.trans (st4.ext st3.pen)).trans ((st6.ext st5.pen).trans s7.ext)).trans (st8.ext st7.pen);have hhl6:H6 hl=some (.lst (hs.map V.int)):=st8.keep hl _ hlp (s7 _ _ (st6.keep hl _ hlp hhl));have hc6:fW H6 c cs:=x26.tup _ _ hc;refine⟨_,rfl,_,rfl,_,rfl,_,rfl,_,rfl,p,c,hl,cs,hs,rfl,st9.pen,hc6,Gc,hlp,hhl6,Gh,λk cl H7 st10 hk Gk Un=> ?_⟩;refine⟨_,rfl,by show 4<=gz;decide,λt ht=> ?_⟩;have s11:=aY (o:=.tup [.ref a,.ref c,.ref k,.int od]) ht;have x67:=st10.ext st9.pen;exact q t g w' cs cl od _ ((st9.trans st10).same s11) ⟨G,w4,g3,c6,Gc,Gk,Un,⟨n1,n2⟩,⟨a,c,k,aJ,(hA.ext ((st2.ext st1.pen).trans (x26.trans x67))).ext s11.ext,s11 _ _ (x67.tup _ _ hc6),hk.ext s11.ext⟩⟩
structure TxD (mg:Str->Option gw):Prop where
 reversed:mg "reversed" =none
 repr:mg "repr" =none
 odd:∃t,mg "MOST_ODD" =some (.int 999 t)
noncomputable def zI:Sp:=λvs H Q _=> ∃i:Int,vs=[.int i]/\0<=i/\i<=999/\Q (.bl true) H
noncomputable def iH (r:V):Sp:=λvs H Q _=> ∃p g w cs cl od,vs=[.ref p]/\PleA H p g w cs cl od/\∀H',Same H H'->Q r H'
noncomputable def sK:Sp:=λvs H Q _=> ∃p g w cs cl od i,vs=[.ref p,.int i]/\PleA H p g w cs cl od/\bY cl i=true/\∀H',Same H H'->Q .non H'
noncomputable def nW:Sp:=λvs H Q _=> ∃a g w,vs=[.ref a]/\GridAt H a g/\cR g w/\∀H',Same H H'->Q (.int (totG g)) H'
theorem B05 (F:D1 K mg "is_odd" zH ["thing"])(T:TxD mg)(a1:A1 P w K mg base 2 "is_number_within" kW):A1 P w K mg base 3 "is_odd" zI:=by
 obtain⟨t,mO⟩:=T.odd;refine F.k ["thing"] ?_;ac_nf
 ·obtain⟨i,rfl,h0,h9,q⟩:=h;refine⟨_,bB (bF (a1.c hr (aG (pv 0) (cO aV (aG (eJ (v:=.int 999) rfl mO ⟨_,rfl⟩) aB))))),?_⟩;refine⟨_,rfl,_,0,999,rfl,trivial,?_⟩;have e:fA 0 999 (.int i)=true:=by simp[fA,h0,h9]
  rw[e];exact q
noncomputable abbrev nPl:List Str:=["thing","mead","custom","claims","odd"]
theorem A3e (F:D1 K mg "is_plea" A0s ["thing"])(a1:A1 P w K mg base 1 "is_tuple_within" gW)(a2:A1 P w K mg base 4 "is_mead" rQ)(a3:A1 P w K mg base 3 "is_custom" qS)(a4:A1 P w K mg base 4 "are_claims" sQ)(a5:A1 P w K mg base 1 "stand_under" qF)(a6:A1 P w K mg base 3 "is_odd" zI):A1 P w K mg base 5 "is_plea" (iH (.bl true)):=by
 refine F.k nPl ?_;ac_nf
 ·obtain⟨p,g,w',cs,cl,od,rfl,D,q⟩:=h;obtain⟨m,c,a,hp,hm,hc,ha⟩:=D.ex;refine⟨_,aU (bS (bV (bL (a1.c hr (aG (pv 0) (cO aV (cO aV aB)))))) (bB (bF fD)) bT)<|
   aU (cK (pv 0) (bN rfl (bC (A4 1 nd) (bC (A4 2 nd) (bC (A4 3 nd) (bC (A4 4 nd) bO))))))<|
   aU (bS (PW.pt (fH (bV (bL (a2.c hr (aG (pv 1) aB)))) (fH (bV (bL (a3.c hr (aG (pv 2) aB)))) (gJ (bV (bL (a4.c hr (aG (pv 3) aB)))))))) (bB (bF fD)) bT)<|
   bB (bF (gH (a5.c hr (aG (pv 2) (aG (pv 3) aB))) (gI (a6.c hr (aG (pv 4) aB))))),?_⟩
  have e4:dA H 4 4 (.ref p)=true:=by unfold dA;rw[gK hp];rfl
  have kp:Kn H 1 (.ref p):=.inr (.inr ⟨_,hp,by show 4<=1000;decide,λ_ _=>trivial⟩);refine⟨_,rfl,_,4,4,rfl,kp,_,rfl,?_⟩;rw[e4];refine bR ?_;refine⟨_,rfl,p,_,rfl,A3.of hp,rfl,_,_,rfl,_,_,rfl,_,_,rfl,_,_,rfl,rfl,?_⟩;refine⟨_,rfl,m,g,w',rfl,hm,D.G,λH1 s1=> ⟨_,rfl,?_⟩⟩;refine bR ⟨_,rfl,c,cs,rfl,s1 _ _ hc,D.cu,λH2 s2=> ⟨_,rfl,bR ?_⟩⟩;have s12:=s1.trans s2;refine⟨_,rfl,a,cl,rfl,ha.ext s12.ext,D.ck,λH3 s3=> ⟨_,rfl,bR ?_⟩⟩;have s13:=s12.trans s3;refine⟨_,rfl,_,rfl,c,a,cs,cl,rfl,s13 _ _ hc,ha.ext s13.ext,D.ck.l12,D.un,λH4 s4=> ⟨_,rfl,dW ?_⟩⟩;exact⟨_,rfl,od,rfl,D.o9.1,D.o9.2,q H4 (s13.trans s4)⟩
theorem A7p (F:D1 K mg "check_plea" xZ ["plea"])(a1:A1 P w K mg base 5 "is_plea" (iH (.bl true))):A1 P w K mg base 6 "check_plea" (iH .non):=by
 refine F.k ["plea"] ?_;ac_nf
 ·obtain⟨p,g,w',cs,cl,od,rfl,D,q⟩:=h;refine⟨_,bB (bS (bV (bL (a1.c hr (aG (pv 0) aB)))) dR bT),?_⟩;exact⟨_,rfl,p,g,w',cs,cl,od,rfl,D,λH1 s1=> ⟨_,rfl,bR (q H1 s1)⟩⟩
theorem A2r (F:D1 K mg "check_plea_and_holder" A2g ["plea","holder"])(a1:A1 P w K mg base 6 "check_plea" (iH .non))(a2:A1 P w K mg base 3 "check_holder" nR):A1 P w K mg base 7 "check_plea_and_holder" sK:=by
 refine F.k ["plea","holder","mead","custom","claims","odd"] ?_;ac_nf
 ·obtain⟨p,g,w',cs,cl,od,i,rfl,D,hh,q⟩:=h;refine⟨_,aU (cP (a1.c hr (aG (pv 0) aB)))<|
   aU (cK (pv 0) (bN rfl (bC (A4 2 nd) (bC (A4 3 nd) (bC (A4 4 nd) (bC (A4 5 nd) bO))))))<|
   bB (cP (a2.c hr (aG (pv 4) (aG (pv 1) aB)))),?_⟩
  refine⟨_,rfl,p,g,w',cs,cl,od,rfl,D,λH1 s1=> ?_⟩;obtain⟨m,c,a,hp,hm,hc,ha⟩:=(D.same s1).ex;refine⟨_,rfl,p,_,rfl,A3.of hp,rfl,_,_,rfl,_,_,rfl,_,_,rfl,_,_,rfl,rfl,?_⟩;exact⟨_,rfl,_,rfl,a,cl,i,rfl,ha,D.ck.l12,hh,λH2 s2=>q H2 (s1.trans s2)⟩
theorem A5j (F:D1 K mg "whole_worth" A0a ["mead"])(a1:A1 P w K mg base 1 "worth_together" wE)(a2:A1 P w K mg base 6 "cells_of" (dS pos)):A1 P w K mg base 7 "whole_worth" nW:=by
 refine F.k ["mead"] ?_;ac_nf
 ·obtain⟨a,g,w',rfl,hA,G,q⟩:=h;refine⟨_,bB (bF (a1.c hr (aG (pv 0) (bQ (a2.c hr (aG (pv 0) aB)) aB)))),?_⟩;refine⟨_,rfl,_,rfl,a,g,w',rfl,hA,G,λH1 l ps hl s1 hl1 hP=> ?_⟩;exact⟨a,l,g,w',ps,rfl,hA.same s1,G,hl1,hP,λH2 s2=>q H2 (s1.trans s2)⟩
noncomputable abbrev shT (cs:List Int)(cl:List C3)(i:Int):Int:=frTop (cntH cs cl i) (cntAll cs cl)
noncomputable abbrev shB (cs:List Int)(cl:List C3)(i:Int):Int:=frBot (cntH cs cl i) (cntAll cs cl)
noncomputable def dueT (g:bE)(cs:List Int)(cl:List C3)(i:Int):Int:=frTop (totG g*shT cs cl i) (shB cs cl i)
noncomputable def dueB (g:bE)(cs:List Int)(cl:List C3)(i:Int):Int:=frBot (totG g*shT cs cl i) (shB cs cl i)
noncomputable def qW:Sp:=λvs H Q _=> ∃p g w cs cl od i,vs=[.ref p,.int i]/\PleA H p g w cs cl od/\bY cl i=true/\∀q H',Same H H'->H' q=some (.tup [.int (dueT g cs cl i),.int (dueB g cs cl i)])->Q (.ref q) H'
theorem lG (h0:0<=t)(h1:1<=b):0<=frTop t b/\1<=frBot t b/\frTop t b<=t/\frBot t b<=b/\frTop t b*b=t*frBot t b:=by
 unfold frTop frBot;obtain⟨tn,rfl⟩:=ja h0;obtain⟨bn,rfl⟩:=ja (show 0<=b by omega);have hb:0<bn:=by omega
 rw[jd,jd];have hg:0<wm tn bn:=w9 _ hb;obtain⟨x,ex⟩:=Nat.gcd_dvd_left tn bn;obtain⟨y,ey⟩:=Nat.gcd_dvd_right tn bn;generalize wm tn bn=d at*;have e1:tn/d=x:=by rw[ex];exact xm x hg
 have e2:bn/d=y:=by rw[ey];exact xm y hg
 rw[←Int.natCast_ediv,←Int.natCast_ediv,e1,e2];have hy:0<y:=Nat.pos_of_ne_zero λz=>by rw[z,Nat.mul_zero]at ey;omega
 have hx:x<=tn:=by rw[ex];exact yg x hg
 have hy2:y<=bn:=by rw[ey];exact yg y hg
 refine⟨Int.natCast_nonneg _,by omega,by omega,by omega,?_⟩;have:x*bn=tn*y:=by
  have z1:x*bn=x*(d*y):=by rw[←ey]
  have z2:tn*y=(d*x)*y:=by rw[←ex]
  rw[z1,z2,Nat.mul_comm d x,Nat.mul_assoc]
 exact_mod_cast this
theorem mZ {g:bE}{w:Nat}(G:cR g w)(h6:cY g<=6):0<=totG g/\totG g<=594:=by
 have row:∀xs:List Int,(∀n∈xs,-2<=n/\n<=99)->0<=gD xs/\gD xs<=99*dP xs:=λxs h=>by
  induction xs with
  |nil=>exact⟨by simp[gD],by simp[gD,dP]⟩
  |cons x xs ih=>
   have:=ih λn hn=>h n (AW _ hn);have hx:=h x AX;unfold gD dP at this⊢;rw[cz,fm,List.filter_cons];by_cases z:0<=x
   ·rw[if_pos (show Grd.pos x=true from AS z),b4]
    split<;>omega
   ·have zp:Grd.pos x=false:=AU z;have z2:¬x>0:=by omega
    simp only[zp,z2,jb,↓reduceIte];omega
 have all:∀g:bE,(∀xs∈g,∀n∈xs,-2<=n/\n<=99)->0<=totG g/\totG g<=99*cY g:=λg h=>by
  induction g with
  |nil=>exact⟨by simp[totG],by simp[totG,cY]⟩
  |cons x g ih=>
   have:=ih λn hn=>h n (AW _ hn);have r:=row x (h x AX);unfold totG cY at this⊢;rw[cz,fm,cz,fm];omega
 have:=all g G.num;omega
noncomputable abbrev nDu:List Str:=["plea","holder","mead","custom","claims","odd","top","bottom"]
theorem A9g (F:D1 K mg "due_of" wV ["plea","holder"])(a1:A1 P w K mg base 7 "check_plea_and_holder" sK)(a2:A1 P w K mg base 8 "share_of" A1g)(a3:A1 P w K mg base 1 "fraction" rF)(a4:A1 P w K mg base 7 "whole_worth" nW):A1 P w K mg base 9 "due_of" qW:=by
 refine F.k nDu ?_;ac_nf
 ·obtain⟨p,g,w',cs,cl,od,i,rfl,D,hh,q⟩:=h;refine⟨_,aU (cP (a1.c hr (aG (pv 0) (aG (pv 1) aB))))<|
   aU (cK (pv 0) (bN rfl (bC (A4 2 nd) (bC (A4 3 nd) (bC (A4 4 nd) (bC (A4 5 nd) bO))))))<|
   aU (cK (a2.c hr (aG (pv 3) (aG (pv 4) (aG (pv 1) aB)))) (bN rfl (bC (A4 6 nd) (bC (A4 7 nd) bO))))<|
   bB (bF (a3.c hr (eM (bI eE (a4.c hr (aG (pv 2) aB)) (pv 6)) (aG (pv 7) aB)))),?_⟩
  refine⟨_,rfl,_,rfl,p,g,w',cs,cl,od,i,rfl,D,hh,λH1 s1=> ?_⟩;obtain⟨m,c,a,hp,hm,hc,ha⟩:=(D.same s1).ex;refine⟨_,rfl,p,_,rfl,A3.of hp,rfl,_,_,rfl,_,_,rfl,_,_,rfl,_,_,rfl,rfl,?_⟩;refine⟨_,rfl,_,rfl,_,rfl,c,a,cs,cl,i,rfl,hc,D.cu,ha,D.ck,D.un,hh,λt H2 s2 ht=> ?_⟩;refine⟨t,_,rfl,A3.of ht,rfl,_,_,rfl,_,_,rfl,rfl,?_⟩;have hb:=pA D.cu D.ck D.un i;have fr:=lG hb.1.1 hb.2.1;have tb:=mZ D.G D.c6;refine⟨_,rfl,m,g,w',rfl,hm.same s2,D.G,λH3 s3=> ?_⟩;refine⟨_,rfl,_,_,rfl,rfl,.inl ⟨by omega,by omega⟩,_,rfl,_,_,rfl,⟨ze tb.1 fr.1,?_⟩,⟨fr.2.1,by omega⟩,λr hr'=>q r _ (((s1.trans s2).trans s3).trans (aY hr')) aJ⟩;have h1:totG g*frTop (cntH cs cl i) (cntAll cs cl)<=594*frTop (cntH cs cl i) (cntAll cs cl):=kd (by omega) fr.1;show totG g*frTop (cntH cs cl i) (cntAll cs cl)<_;omega
noncomputable def A9 {α:Type}:List α->List (List α)
 | []=> [[]]
 |x::xs=> []::((A9 xs).map (x:: ·)++(A9 xs).tail)
theorem kS (xs:List α):∃t,A9 xs=[]::t:=by cases xs<;>exact⟨_,rfl⟩
theorem tV:∀xs:List α,(A9 xs).length=2^xs.length
 | []=>rfl
 |x::xs=>by
  have ih:=tV xs;unfold A9;obtain⟨t,e⟩:=kS xs;rw[b4,bz,b8,List.length_tail,ih,b4,Nat.pow_succ];have:0<2^xs.length:=Nat.pos_of_ne_zero (by simp);omega
theorem hX:∀{xs ys:List α},ys∈A9 xs->ys.Sublist xs
 | [],ys,h=>by rw[d6.mp h];exact yf.slnil
 |x::xs,ys,h=>by
  unfold A9 at h;rcases di.mp h with rfl|h
  ·exact List.nil_sublist _
  ·rcases da.mp h with h|h
   ·obtain⟨zs,hz,rfl⟩:=dv.mp h;exact(hX hz).cons_cons x
   ·exact(hX (sf h)).cons x
theorem pF:∀{xs ys:List α},ys.Sublist xs->ys∈A9 xs
 |_,_,.slnil=>d6.mpr rfl
 |x::xs,ys,.cons _ h=>by
  unfold A9;have:=pF h;obtain⟨t,e⟩:=kS xs;rw[e]at this;rcases di.mp this with rfl|h'
  ·exact AX
  ·refine AW _ (da.mpr (.inr ?_));rw[e];exact h'
 |x::xs,_::ys,.cons₂ _ h=>by
  unfold A9;exact AW _ (da.mpr (.inl (dy (pF h))))
noncomputable def sX:Sp:=λvs H Q _=> ∃l xs,vs=[.ref l]/\H l=some (.lst xs)/\xs.length<=6/\∀l' qs H',H l'=none->Same H H'->H' l'=some (.lst ((qs:List gy).map V.ref))->TusAt H' qs (A9 xs)->Q (.ref l') H'
noncomputable abbrev nRT:List Str:=["things","tuples","thing"]
theorem A4q:(["some","thing"]:List Str).Nodup:=by decide +kernel
theorem A2p (F:D1 K mg "rising_tuples" qO ["things"])(T:TxD mg):A1 P w K mg base 1 "rising_tuples" sX:=by
 refine F.k nRT ?_;ac_nf
 ·obtain⟨l,xs,rfl,hl,h6,q⟩:=h;refine⟨_,aU (bP (i:=1) nd rfl (jr rfl) (eG (nG (cL aB) aB)))<|
   aU (fZ jk rfl (A40 rfl T.reversed (aG (pv 0) aB)) (aQ (i:=2) nd rfl (nz rfl))
    (bB (bP (i:=1) nd rfl (jr rfl) (bI rJ (bI rJ (eG (nG (cL aB) aB)) (bU (bH qO).names nRT ["some"] [("thing",2)] rfl (dH (pv 1)) rfl rfl rfl (by decide +kernel)
     (λZ=>A4 0 A4q) (λZ=>cB) (λZ=>bI jL (cL (aG (pv 1) aB)) (pv 0)))) (gC mL (pv 1) (fY aV) gX)))))<|
   bB (bF (pv 1)),?_⟩
  refine⟨by show 0<=gz;decide,λt0 ht0=> ⟨by show 1<=gz;decide,λl0 hl0=> ?_⟩⟩;have s0:=aY (o:=.tup []) ht0;have s1:=aY (o:=.lst [.ref t0]) hl0;have s01:=s0.trans s1;have el0:(upd (upd H t0 (.tup [])) l0 (.lst [.ref t0])) l0=some (.lst [.ref t0]):=aJ;have et0:(upd (upd H t0 (.tup [])) l0 (.lst [.ref t0])) t0=some (.tup []):=s1 _ _ aJ;have n0:H l0=none:=s0.free hl0;generalize upd (upd H t0 (.tup [])) l0 (.lst [.ref t0])=H1 at s01 el0 et0⊢;refine⟨_,rfl,l,xs,rfl,A2.of (s01 _ _ hl),?_⟩;refine A9o (K:=K) (a:=l) (xs:=xs) (λi σ H'=>Same H H'/\∃lt qs o,σ=[some (.ref l),some (.ref lt),o]/\H lt=none/\H' lt=some (.lst ((qs:List gy).map V.ref))/\TusAt H' qs (A9 (xs.drop (xs.length - i))))
   ⟨s01,l0,[t0],_,rfl,n0,el0,by rw[Nat.sub_zero,List.drop_length];exact .cons et0 .nil⟩ (λi σ H' _ h=>A2.of (h.1 _ _ hl)) ?_ ?_
  ·rintro i x σ H' hx hi ⟨hs,lt,qs,o,rfl,nlt,AI,hT⟩;have ed:xs.drop (xs.length -(i+1))=x::xs.drop (xs.length - i):=by
    have e1:xs.length -(i+1)=xs.length - 1 - i:=by omega
    have e2:xs.length - i=xs.length - 1 - i+1:=by omega
    rw[e1,e2];exact oz ..|>.trans (by rw[hx];rfl)
   generalize hR:A9 (xs.drop (xs.length - i))=R at hT;have hRl:R.length<=64:=by
    rw[←hR,tV,b5];exact gc (sg (by decide) (show xs.length -(xs.length - i)<=6 by omega)) (by decide)
   have hql:qs.length=R.length:=Paired.length hT;obtain⟨R',eR⟩:∃R',R=[]::R':=by rw[←hR];exact kS _
   show lU _ _ _ [some (.ref l),some (.ref lt),some x] H';refine⟨by show 0<=gz;decide,λt1 ht1=> ⟨by show 1<=gz;decide,λl1 hl1=> ?_⟩⟩;have u1:=aY (o:=.tup []) ht1;have u2:=aY (o:=.lst [.ref t1]) hl1;have u12:=u1.trans u2;have el1:(upd (upd H' t1 (.tup [])) l1 (.lst [.ref t1])) l1=some (.lst [.ref t1]):=aJ;have et1:(upd (upd H' t1 (.tup [])) l1 (.lst [.ref t1])) t1=some (.tup []):=u2 _ _ aJ;generalize upd (upd H' t1 (.tup [])) l1 (.lst [.ref t1])=H2 at u12 el1 et1⊢;have hT2:=hT.same u12;refine⟨_,rfl,lt,rfl,⟨_,A2.of (u12 _ _ AI)⟩,λZ lc hlc=> ?_⟩;refine B1y (rest:=[some x]) (λys=>x::ys) jR (λH3 s3=>A2.of (s3 _ _ (u12 _ _ AI))) hT2 hlc (by omega) (λqq ys H3 Q' hy hq s3 k=> ?_) λσ3 H3 qs' s3 hc3 hT3=> ?_
   ·refine⟨_,rfl,by show 1<=gz;decide,λtx htx=> ?_⟩;have v1:=aY (o:=.tup [x]) htx;refine⟨_,rfl,tx,qq,_,_,rfl,rfl,aJ,v1 _ _ hq,?_,λc H5 s5 e5=>k c H5 (v1.trans s5) e5⟩;rw[←hR]at hy;have:=(hX hy).length_le;rw[b5]at this;rw[jh];show 1+_<=_;omega
   ·have hT23:=hT2.same s3;have el1':=s3 _ _ el1;refine⟨l1,lc,_,_,rfl,rfl,el1',hc3,?_,λla hla=> ?_⟩
    ·have:qs'.length=_:=Paired.length hT3;rw[b8]at this;rw[jh,b8];show 1+_<=_;omega
    have v1:=aY (o:=.lst ([.ref t1]++qs'.map V.ref)) hla;refine⟨_,rfl,_,rfl,lt,_,rfl,A2.of (v1 _ _ (s3 _ _ (u12 _ _ AI))),λlb hlb=> ?_⟩;have v2:=aY (o:=.lst (cJ (qs.map V.ref) (some 1) none)) hlb;have ec:cJ (qs.map V.ref) (some 1) none=(qs.drop 1).map V.ref:=by
     rw[uW _ (by rw[b8,hql,eR];simp),c5]
    refine⟨la,lb,_,_,rfl,rfl,v2 _ _ aJ,aJ,?_,λlz hlz=> ?_⟩
    ·have:qs'.length=_:=Paired.length hT3;rw[b8]at this;rw[ec,jh,bz,b8,b8,b5];show 1+_+_<=_;omega
    have v3:=aY (o:=.lst ([.ref t1]++qs'.map V.ref++cJ (qs.map V.ref) (some 1) none)) hlz;have vA:=(v1.trans v2).trans v3;have sA:=((hs.trans u12).trans s3).trans vA;refine⟨sA,lz,t1::(qs'++qs.drop 1),_,rfl,((hs.trans u12).trans s3).free (((v1.trans v2)).free hlz),?_,?_⟩
    ·rw[aJ,ec];simp[cx]
    ·rw[ed];show TusAt _ (t1::(qs'++qs.drop 1)) ([]::((A9 (xs.drop (xs.length - i))).map (x:: ·)++(A9 (xs.drop (xs.length - i))).tail));rw[hR];exact .cons (vA _ _ (s3 _ _ et1)) (xU (hT3.same vA) (vJ (hT23.same vA)))
  ·rintro σ H' ⟨hs,lt,qs,o,rfl,nlt,AI,hT⟩;rw[Nat.sub_self,List.drop_zero]at hT;exact⟨_,rfl,q lt qs H' nlt hs AI hT⟩
theorem A6.ext (h:A6 H a cs)(e:Ext H H'):A6 H' a cs:=let ⟨ps,h1,h2⟩:=h;⟨ps,e.tup _ _ h1,Paired.mapP h2 λ_ _ z=>e.tup _ _ z⟩
noncomputable def LansAt (H:Hp)(qs:List gy)(ts:List (List Pl)):Prop:=Paired (λq cs=>A6 H q cs) qs ts
theorem LansAt.ext (h:LansAt H qs ts)(e:Ext H H'):LansAt H' qs ts:=Paired.mapP h λ_ _ x=>A6.ext x e
theorem A7j (h:PlAt H ps A):Paired (λp c=>PlAt H p c) (A9 ps) (A9 A):=by
 induction h with
 |nil=>exact .cons .nil .nil
 | @cons p0 c0 _ _ r t ih=>
  unfold A9;refine .cons .nil (xU ?_ ?_)
  ·have:∀{l:List (List gy)}{m:List (List Pl)},Paired (λp c=>PlAt H p c) l m->Paired (λp c=>PlAt H p c) (l.map (p0:: ·)) (m.map (c0:: ·)):=by
    intro l m h
    induction h with
    |nil=>exact .nil
    |cons r2 t2 ih2=>exact .cons (.cons r r2) ih2
   exact this ih
  ·have:∀{l:List (List gy)}{m:List (List Pl)},Paired (λp c=>PlAt H p c) l m->Paired (λp c=>PlAt H p c) l.tail m.tail:=by
    intro l m h;cases h with
    |nil=>exact .nil
    |cons r2 t2=>exact t2
   exact this ih
theorem uJ (f:α->β):∀xs:List α,A9 (xs.map f)=(A9 xs).map (vc f)
 | []=>rfl
 |x::xs=>by
  have ih:=uJ f xs;show []::((A9 (xs.map f)).map (f x:: ·)++(A9 (xs.map f)).tail)=[]::((A9 xs).map (x:: ·)++(A9 xs).tail).map (vc f);rw[ih,cx,c9,c9,map_tail];rfl
theorem A4u (h:TusAt H qs (A9 (ps.map V.ref)))(hP:PlAt H ps A):LansAt H qs (A9 A):=by
 rw[uJ]at h;have key:∀{qs:List gy}{l:List (List gy)}{m:List (List Pl)},TusAt H qs (l.map (vc V.ref))->Paired (λp c=>PlAt H p c) l m->LansAt H qs m:=by
  intro qs l m h1 h2
  induction h2 generalizing qs with
  |nil=>cases h1;exact .nil
  |cons r t ih=>
   cases h1 with
   |cons r1 t1=>exact .cons ⟨_,r1,r⟩ (ih t1)
 exact key h (A7j hP)
noncomputable def gG (g:bE)(cs:List Pl):Bool:=(cs.any λc=>decide (c∈(bD pos g).filter (eX g)))&&iI cs
noncomputable def lW (g:bE):List (List Pl):=(A9 (bD pos g)).filter (gG g)
noncomputable def ab (i:Int):Int:=if i<0 then -i else i
noncomputable def fU (g:bE)(cs:List Int)(cl:List C3)(od i:Int)(L:List Pl):Bool:=decide (ab (cX g L*dueB g cs cl i - dueT g cs cl i)<=od*dueB g cs cl i)
noncomputable def uO:Sp:=λvs H Q _=> ∃t l g w cs ps,vs=[.ref t,.ref l]/\A6 H t cs/\cR g w/\LandOf g cs/\H l=some (.lst ((ps:List gy).map V.ref))/\PlAt H ps ((bD pos g).filter (eX g))/\∀H',Same H H'->Q (.bl (gG g cs)) H'
noncomputable def zX:Sp:=λvs H Q _=> ∃a g w,vs=[.ref a]/\GridAt H a g/\cR g w/\cY g<=6/\∀l qs H',H l=none->Same H H'->H' l=some (.lst ((qs:List gy).map V.ref))->LansAt H' qs (lW g)->Q (.ref l) H'
theorem LandOf.up (h:LandOf g cs):cs.Pairwise A8:=(lY pos g).sublist h
theorem A6b (F:D1 K mg "is_sound" A1m ["land","roadside"])(a1:A1 P w K mg base 1 "has_some_of" rO)(a2:A1 P w K mg base 3 "is_one_piece" sI):A1 P w K mg base 4 "is_sound" uO:=by
 refine F.k ["land","roadside"] ?_;ac_nf
 ·obtain⟨t,l,g,w',cs,ps,rfl,ht,G,hL,hl,hP,q⟩:=h;have h10:=LandOf.len G hL;refine⟨_,bB (bF (gH (a1.c hr (aG (pv 0) (aG (pv 1) aB))) (gI (a2.c hr (aG (pv 0) aB))))),?_⟩;refine⟨_,rfl,_,rfl,t,l,cs,ps,_,rfl,ht,by omega,hl,hP,λH1 s1=> ⟨_,rfl,cU (λe=> ?_) λe=> ?_⟩⟩
  ·refine⟨_,rfl,t,cs,rfl,A6.ext ht s1.ext,h10,λb H2 s2 hb=> ?_⟩;have:=q H2 (s1.trans s2);unfold gG at this;rw[e,Ad,←A1b (LandOf.up hL) hb]at this;exact this
  ·have:=q H1 s1;unfold gG at this;rw[e,yu]at this;exact this
theorem oU (h6:cY g<=6):(A9 (bD pos g)).length<=64:=by rw[tV,fL];exact gc (sg (by decide) h6) (by decide)
theorem A9z:(["land","roadside"]:List Str).Nodup:=by decide +kernel
theorem B1z (F:D1 K mg "sound_lands" uQ ["mead"])(a1:A1 P w K mg base 7 "cells_at_road" oD)(a2:A1 P w K mg base 1 "rising_tuples" sX)(a3:A1 P w K mg base 6 "cells_of" (dS pos))(a4:A1 P w K mg base 4 "is_sound" uO):A1 P w K mg base 8 "sound_lands" zX:=by
 refine F.k ["mead","roadside"] ?_;ac_nf
 ·obtain⟨a,g,w',rfl,hA,G,c6,q⟩:=h;refine⟨_,aU (bP (i:=1) nd rfl (nz rfl) (a1.c hr (aG (pv 0) aB)))<|
   bB (bF (bU (bH uQ).names ["mead","roadside"] ["land"] [("roadside",1)] rfl (dH (a2.c hr (bQ (a3.c hr (aG (pv 0) aB)) aB))) rfl rfl rfl (by decide +kernel)
    (λZ=>A4 0 A9z) (λZ=>fP (bL (a4.c hr (aG (pv 0) (aG (pv 1) aB))))) (λZ=>pv 0))),?_⟩
  refine⟨_,rfl,a,g,w',rfl,hA,G,λH1 lr pr hlr s1 elr hR=> ?_⟩;refine⟨_,rfl,a,g,w',rfl,hA.same s1,G,λH2 lc pc hlc s2 elc hP=> ?_⟩;have hpl:pc.length=(bD pos g).length:=Paired.length hP;refine⟨lc,_,rfl,elc,by rw[b8,hpl,fL];exact c6,λlt qs H3 AG s3 AI hT=> ?_⟩;have hL:=A4u hT (hP.same s3);have hql:qs.length=_:=Paired.length hL;have h64:=oU c6;have s23:=s2.trans s3;refine⟨lt,rfl,⟨_,A2.of AI⟩,λZ l hl=> ?_⟩;refine kZ (R:=λH q cs=>A6 H q cs) (λe h=>A6.ext h e) (rest:=[some (.ref lr)]) (gG g) jR (λH' hs=>A2.of (hs _ _ AI)) hL hl (by omega) (λb c H' Q' hc hb hs k=> ?_) λσ H' qs' hs el' hP'=> ?_
  ·exact⟨_,rfl,_,rfl,b,lr,g,w',c,pr,rfl,hb,G,hX hc,hs _ _ (s23 _ _ elr),(hR.same s23).same hs,λH2' s2'=> ⟨_,rfl,k H2' s2'⟩⟩
  ·have sA:=(s1.trans s23).trans hs;exact q l qs' H' ((s1.trans s23).free hl) sA el' hP'
theorem A32:mq "abs" =some (.builtin "abs"):=by decide +kernel
noncomputable def pK:Sp:=λvs H Q _=> ∃p g w cs cl od i l qs Ls,vs=[.ref p,.int i,.ref l]/\PleA H p g w cs cl od/\bY cl i=true/\H l=some (.lst ((qs:List gy).map V.ref))/\LansAt H qs Ls/\Ls.length<=64/\(∀L∈Ls,LandOf g L)/\∀l' qs' H',H l'=none->Same H H'->H' l'=some (.lst ((qs':List gy).map V.ref))->LansAt H' qs' (Ls.filter (fU g cs cl od i))->Q (.ref l') H'
theorem yR {g:bE}{w:Nat}(G:cR g w){c:Pl}(hc:c∈bD pos g):0<=atG g c/\atG g c<=99:=by obtain⟨i,j,xs,x,rfl,hx,hj,hp⟩:=mem_gridF.mp hc;rw[iZ hx hj];exact⟨of_decide_eq_true hp,(G.num xs (d3 hx) x (d3 hj)).2⟩
theorem vV {g:bE}{w:Nat}(G:cR g w){L:List Pl}(h:∀c∈L,c∈bD pos g)(h10:L.length<=10):0<=cX g L/\cX g L<=990:=by
 have hv:∀c∈bD pos g,0<=atG g c/\atG g c<=99:=λc hc=>yR G hc;have:0<=cX g L/\cX g L<=99*L.length:=by
  unfold cX;clear h10
  induction L with
  |nil=>exact⟨by simp,by simp⟩
  |cons c L ih=>
   have i:=ih λd hd=>h d (AW _ hd);have hc:=hv c (h c AX);rw[cz,fm,b4];omega
 omega
noncomputable abbrev nWD:List Str:=["plea","holder","lands","mead","custom","claims","odd","top","bottom"]
theorem A8r:(["land","mead","bottom","top","odd"]:List Str).Nodup:=by decide +kernel
theorem A4i (F:D1 K mg "worth_the_due" uI ["plea","holder","lands"])(T2:eN mg)(a1:A1 P w K mg base 9 "due_of" qW)(a2:A1 P w K mg base 1 "worth_together" pI):A1 P w K mg base 10 "worth_the_due" pK:=by
 refine F.k nWD ?_;ac_nf
 ·obtain⟨p,g,w',cs,cl,od,i,l,qs,Ls,rfl,D,hh,hl,hL,h64,hLs,q⟩:=h;obtain⟨m,c,a,hp,hm,hc,ha⟩:=D.ex;refine⟨_,aU (cK (pv 0) (bN rfl (bC (aQ (i:=3) nd rfl (nz rfl)) (bC (A4 4 nd) (bC (A4 5 nd) (bC (aQ (i:=6) nd rfl (nz rfl)) bO))))))<|
   aU (cK (a1.c hr (aG (pv 0) (aG (pv 1) aB))) (bN rfl (bC (aQ (i:=7) nd rfl (nz rfl)) (bC (aQ (i:=8) nd rfl (nz rfl)) bO))))<|
   bB (bF (bU (bH uI).names nWD ["land"] [("mead",3),("bottom",8),("top",7),("odd",6)] rfl (dH (pv 2)) rfl rfl rfl (by decide +kernel)
    (λZ=>A4 0 A8r) (λZ=>fP (cI jF (bJ B4f rfl T2.abs A32 (eM (bI jO (bI eE (a2.c hr (aG (pv 1) (aG (pv 0) aB))) (pv 2)) (pv 3)) aB)) (bI eE (pv 4) (pv 2)) (nomark _))) (λZ=>pv 0))),?_⟩
  refine⟨_,rfl,p,_,rfl,A3.of hp,rfl,_,_,rfl,_,_,rfl,_,_,rfl,_,_,rfl,rfl,?_⟩;refine⟨_,rfl,_,rfl,p,g,w',cs,cl,od,i,rfl,D,hh,λt H1 s1 ht=> ?_⟩;refine⟨t,_,rfl,A3.of ht,rfl,_,_,rfl,_,_,rfl,rfl,?_⟩;have hql:qs.length=_:=Paired.length hL;refine⟨_,rfl,l,rfl,⟨_,A2.of (s1 _ _ hl)⟩,λZ lz hlz=> ?_⟩;refine kZ (R:=λH q cs=>A6 H q cs) (λe h=>A6.ext h e) (rest:=[some (.ref m),some (.int (dueB g cs cl i)),some (.int (dueT g cs cl i)),some (.int od)]) (fU g cs cl od i) jR (λH' hs=>A2.of (hs _ _ (s1 _ _ hl))) (hL.ext s1.ext) hlz (by omega) (λb L H' Q' hc hb hs k=> ?_) λσ H' qs' hs el' hP'=> ?_
  ·have hLL:=hLs L hc;refine⟨_,rfl,_,rfl,m,b,g,w',L,rfl,(hm.same s1).same hs,D.G,hb,hLL,λH2 s2=> ?_⟩;have wb:=vV D.G (λc hc=>hLL.subset hc) (LandOf.len D.G hLL);refine⟨_,rfl,_,_,rfl,rfl,.inl ⟨by omega,by omega⟩,_,rfl,_,_,rfl,rfl,_,rfl,_,rfl,_,rfl,_,_,rfl,rfl,.inl ⟨by have:=D.o9;omega,by have:=D.o9;omega⟩,_,_,rfl,rfl,_,rfl,?_⟩;exact k H2 s2
  ·exact q lz qs' H' (s1.free hlz) (s1.trans hs) el' hP'
noncomputable def dI (g:bE)(cs:List Int)(cl:List C3)(od:Int)(i:Int):List (List Pl):=(lW g).filter (fU g cs cl od i)
noncomputable def Ba (cl:List C3):List Int:=(cH (holdS cl)).map λk:Nat=>(k:Int)
noncomputable def FitD (H:Hp)(d:gy)(hs:List Int)(F:Int->List (List Pl)):Prop:=∃ls:List gy,H d=some (.dK ((hs.zip ls).map λz=>(ie z.1,V.ref z.2)))/\Paired (λi l=> ∃qs,H l=some (.lst ((qs:List gy).map V.ref))/\LansAt H qs (F i)) hs ls
noncomputable def nI:Sp:=λvs H Q _=> ∃p g w cs cl od,vs=[.ref p]/\PleA H p g w cs cl od/\∀d H',H d=none->Same H H'->FitD H' d (Ba cl) (dI g cs cl od)->Q (.ref d) H'
theorem pQ (h:i∈Ba cl):bY cl i=true:=by
 unfold Ba at h;obtain⟨k,hk,rfl⟩:=dv.mp h;unfold cH at hk;have key:∀b0 b1 b2 b3:Bool,k∈L b0 b1 b2 b3->(k=0/\b0=true)\/(k=1/\b1=true)\/(k=2/\b2=true)\/(k=3/\b3=true):=by
  intro b0 b1 b2 b3 h;cases b0<;>cases b1<;>cases b2<;>cases b3<;>simp[L]at h<;>simp[h]
 rcases key _ _ _ _ hk with⟨rfl,e⟩| ⟨rfl,e⟩| ⟨rfl,e⟩| ⟨rfl,e⟩<;>exact e
theorem lS (cl:List C3):(Ba cl).length<=4:=by
 unfold Ba cH;rw[b8];have key:∀b0 b1 b2 b3:Bool,(L b0 b1 b2 b3).length<=4:=by decide
 exact key _ _ _ _
theorem gF (cl:List C3):(Ba cl).Nodup:=by
 unfold Ba cH;have key:∀b0 b1 b2 b3:Bool,((L b0 b1 b2 b3).map λk:Nat=>(k:Int)).Nodup:=by decide
 exact key _ _ _ _
noncomputable abbrev nFA:List Str:=["plea","mead","custom","claims","odd","lands"]
theorem A64:(["holder","plea","lands"]:List Str).Nodup:=by decide +kernel
theorem A2z (F:D1 K mg "fits_of_all" mY ["plea"])(a1:A1 P w K mg base 6 "check_plea" (iH .non))(a2:A1 P w K mg base 8 "sound_lands" zX)(a3:A1 P w K mg base 10 "worth_the_due" pK)(a4:A1 P w K mg base 6 "holders_of" jY):A1 P w K mg base 11 "fits_of_all" nI:=by
 refine F.k nFA ?_;ac_nf
 ·obtain⟨p,g,w',cs,cl,od,rfl,D,q⟩:=h;have hu:(A.deeper (sk "fits_of_all" (bH mY) s.heap.objs.size f cdv)).units<jt:=by have:=hr.un;omega
  refine⟨_,aU (cP (a1.c hr (aG (pv 0) aB)))<|
   aU (cK (pv 0) (bN rfl (bC (A4 1 nd) (bC (A4 2 nd) (bC (A4 3 nd) (bC (A4 4 nd) bO))))))<|
   aU (bP (i:=5) nd rfl (nz rfl) (a2.c hr (aG (pv 1) aB)))<|
   bB (bF (A1h (bH mY).names nFA ["holder"] [("plea",0),("lands",5)] rfl (dH (a4.c hr (aG (pv 3) aB))) rfl rfl rfl (by decide +kernel)
    (λZ=>A4 0 A64) (λZ=>cB) hu (λZ=>pv 0) (λZ=>a3.c hr (aG (pv 1) (aG (pv 0) (aG (pv 2) aB)))))),?_⟩
  refine⟨_,rfl,p,g,w',cs,cl,od,rfl,D,λH1 s1=> ?_⟩;obtain⟨m,c,a,hp,hm,hc,ha⟩:=(D.same s1).ex;refine⟨_,rfl,p,_,rfl,A3.of hp,rfl,_,_,rfl,_,_,rfl,_,_,rfl,_,_,rfl,rfl,?_⟩;refine⟨_,rfl,m,g,w',rfl,hm,D.G,D.c6,λll qs H2 hll s2 ell hL=> ?_⟩;refine⟨_,rfl,a,cl,rfl,ha.ext s2.ext,D.ck,λlh H3 hlh s3 elh=> ?_⟩;have eho:((cH (holdS cl)).map λk:Nat=>V.int (k:Int))=(Ba cl).map V.int:=by unfold Ba;rw[c9];rfl
  rw[eho]at elh;have s23:=s2.trans s3;have h64:(lW g).length<=64:=gc (b7 _ _) (oU D.c6);refine⟨lh,rfl,⟨_,A2.of elh⟩,λZ d hd=> ?_⟩;have hz4:(Ba cl).length<=4:=lS cl;refine eW (K:=K) (a:=lh) (xs:=(Ba cl).map V.int) (λi σ H'=>(∃o,σ=[o,some (.ref p),some (.ref ll)])/\Same H3 H'/\∃ls:List gy,H' d=some (.dK ((((Ba cl).take i).zip ls).map λz=>(ie z.1,V.ref z.2)))/\Paired (λi l=> ∃qs,H' l=some (.lst ((qs:List gy).map V.ref))/\LansAt H' qs (dI g cs cl od i)) ((Ba cl).take i) ls)
   ⟨⟨_,rfl⟩,aY hd,[],aJ,.nil⟩ (λi σ H' _ h=>A2.of (h.2.1 _ _ elh)) ?_ ?_
  ·rintro i x σ H' hx ⟨⟨o,rfl⟩,hs,ls,ed,hP⟩;rw[br]at hx;cases hb:(Ba cl)[i]? with
   |none=>rw[hb]at hx;cases hx
   |some k=>
    rw[hb]at hx;cases hx;have hi:i<(Ba cl).length:=(AR.mp hb).1;have hk:=pQ (d3 hb);have hll:ls.length=i:=by
     have:((Ba cl).take i).length=ls.length:=Paired.length hP;rw[cm]at this;omega
    refine iT ?_;refine⟨_,rfl,?_⟩;refine⟨_,rfl,_,rfl,_,rfl,p,g,w',cs,cl,od,k,ll,qs,lW g,rfl,(((D.same s1).same s23).same hs),hk,hs _ _ (s3 _ _ ell),(hL.ext s3.ext).ext hs.ext,h64,λL hL'=>hX (dj.mp hL').1,λl' qs' H4 zl s4 el' hL'=> ?_⟩;have ed4:=s4 _ _ ed;have hne:cE ((((Ba cl).take i).zip ls).map λz=>((ie z.1:Key),V.ref z.2)) (ie k)=none:=by
     unfold cE;rw[bf.mpr λz hz=> ?_];rfl;obtain⟨y,hy,rfl⟩:=dv.mp hz;have hy1:y.1∈(Ba cl).take i:=(fe hy).1;have hn:y.1≠k:=λe=>by
      rw[e]at hy1;obtain⟨j,hj,ej⟩:=vt.mp hy1;have:=(AR.mp hb).2;have hij:j=i:=(bw (gF cl)).mp (ej.trans this.symm);omega
     simp[hn]
    have et:(Ba cl).take (i+1)=(Ba cl).take i++[k]:=by rw[fq,hb];rfl
    have ez:(((Ba cl).take i++[k]).zip (ls++[l'])).map (λz=>((ie z.1:Key),V.ref z.2))=(((Ba cl).take i).zip ls).map (λz=>((ie z.1:Key),V.ref z.2))++[(ie k,.ref l')]:=by
     rw[zip_append (by rw[cm,hll];omega),cx];rfl
    refine⟨_,ie k,rfl,ed4,?_,⟨_,rfl⟩,λb u e=> ?_,ls++[l'],?_,?_⟩
    ·rw[b8,cp,cm,jh];omega
    ·rw[bA (bK e hd)];exact s4 _ _ (hs _ _ e)
    ·rw[aJ,yW _ hne,et,ez]
    ·have x4:∀b xs,H4 b=some (.lst xs)->(upd H4 d (.dK (cF ((((Ba cl).take i).zip ls).map λz=>((ie z.1:Key),V.ref z.2)) (ie k) (.ref l')))) b=some (.lst xs):=λb xs e=>by rw[bA (λz=>by rw[z,ed4]at e;cases e)];exact e
     have x5:∀b xs,H4 b=some (.tup xs)->(upd H4 d (.dK (cF ((((Ba cl).take i).zip ls).map λz=>((ie z.1:Key),V.ref z.2)) (ie k) (.ref l')))) b=some (.tup xs):=λb xs e=>by rw[bA (λz=>by rw[z,ed4]at e;cases e)];exact e
     have lx:∀{qs:List gy}{Ls:List (List Pl)},LansAt H4 qs Ls->LansAt (upd H4 d (.dK (cF ((((Ba cl).take i).zip ls).map λz=>((ie z.1:Key),V.ref z.2)) (ie k) (.ref l')))) qs Ls:=λh=>Paired.mapP h λ_ _ ⟨ps,h1,h2⟩=> ⟨ps,x5 _ _ h1,Paired.mapP h2 λ_ _ z=>x5 _ _ z⟩;rw[et];exact Paired.snoc (Paired.mapP hP λ_ _ ⟨qq,h1,h2⟩=> ⟨qq,x4 _ _ (s4 _ _ h1),lx (h2.ext s4.ext)⟩) ⟨qs',x4 _ _ el',lx hL'⟩
  ·rintro σ H' ⟨_,hs,ls,ed,hP⟩;rw[b8,fo (AY _)]at ed hP;exact q d H' ((s1.trans s23).free hd) ((s1.trans s23).trans hs) ⟨ls,ed,hP⟩
noncomputable def iR (g:bE)(cs:List Int)(cl:List C3)(od:Int)(i:Int):List Pl:=(bD pos g).filter λc=>(dI g cs cl od i).any λL=>decide (c∈L)
noncomputable def RcD (H:Hp)(d:gy)(hs:List Int)(F:Int->List Pl):Prop:=∃ls:List gy,H d=some (.dK ((hs.zip ls).map λz=>(ie z.1,V.ref z.2)))/\Paired (λi l=> ∃ps,H l=some (.lst ((ps:List gy).map V.ref))/\PlAt H ps (F i)) hs ls
noncomputable def uX:Sp:=λvs H Q _=> ∃p g w cs cl od,vs=[.ref p]/\PleA H p g w cs cl od/\∀d H',Same H H'->RcD H' d (Ba cl) (iR g cs cl od)->Q (.ref d) H'
noncomputable abbrev nBH:List Str:=["plea","fits","cells"]
theorem A5p:(["holder","cells","fits"]:List Str).Nodup:=by decide +kernel
theorem A4g:(["cell","fits","holder"]:List Str).Nodup:=by decide +kernel
theorem A4f:(["land","cell"]:List Str).Nodup:=by decide +kernel
theorem A41 (F:D1 K mg "cells_by_holder" nK ["plea"])(T2:eN mg)(a1:A1 P w K mg base 11 "fits_of_all" nI)(a2:A1 P w K mg base 6 "cells_of" (dS pos)):A1 P w K mg base 12 "cells_by_holder" uX:=by
 refine F.k nBH ?_;ac_nf
 ·obtain⟨p,g,w',cs,cl,od,rfl,D,q⟩:=h;have hu:(A.deeper (sk "cells_by_holder" (bH nK) s.heap.objs.size f cdv)).units<jt:=by have:=hr.un;omega
  refine⟨_,aU (bP (i:=1) nd rfl (nz rfl) (a1.c hr (aG (pv 0) aB)))<|
   aU (bP (i:=2) nd rfl (nz rfl) (a2.c hr (eF (cA cZ (pv 0) aV (λ_ _=>rfl)) aB)))<|
   bB (bF (A1h (bH nK).names nBH ["holder"] [("cells",2),("fits",1)] rfl (rA (pv 1)) rfl rfl rfl (by decide +kernel)
    (λZ=>aQ (i:=0) A5p rfl (nz rfl)) (λZ=>cB) hu (λZ=>pv 0)
    (λZ=>bU [(".0",.local),("holder",.cell),("cells",.cell),("fits",.cell)] ["holder","cells","fits"] ["cell"] [("fits",2),("holder",0)] rfl (dH (pv 1)) rfl rfl rfl (by decide +kernel)
     (λZ=>aQ (i:=0) A4g rfl (nz rfl)) (λZ=>fP (bL (bJ (lC rfl) rfl T2.any lB (cM (bU [(".0",.local),("cell",.cell),("any",.globalImplicit),("fits",.cell),("holder",.cell)] ["cell","fits","holder"] ["land"] [("cell",0)] rfl (dH (lR (gj (dX hr)) (pv 1) (pv 2) (λ_ _=>rfl))) rfl rfl rfl (by decide +kernel)
      (λZ=>A4 0 A4f) (λZ=>cB) (λZ=>dE (jV 1 (dX hr)) (pv 1) (pv 0) rfl)) aB)))) (λZ=>pv 0)))),?_⟩
  refine⟨_,rfl,p,g,w',cs,cl,od,rfl,D,λdf H1 hdf s1 hF=> ?_⟩;obtain⟨lf,edf,hLf⟩:=hF;obtain⟨m,c,a,hp,hm,hc,ha⟩:=(D.same s1).ex;refine⟨_,rfl,p,_,0,_,rfl,rfl,A3.of hp,rfl,m,g,w',rfl,hm,D.G,λH2 lc pc hlc s2 elc hP=> ?_⟩;have hpl:pc.length=(bD pos g).length:=Paired.length hP;have h10:(bD pos g).length<=6:=by rw[fL];exact D.c6
  have edf2:=s2 _ _ edf;have hlf:(Ba cl).length=lf.length:=Paired.length hLf;generalize hkv:((Ba cl).zip lf).map (λz=>((ie z.1:Key),V.ref z.2))=kvs at edf edf2;have hkl:kvs.length=(Ba cl).length:=by rw[←hkv,b8,cp,←hlf,Nat.min_self]
  have kat:∀{i:Nat}{k:Key}{x:V},kvs[i]?=some (k,x)->∃h lh,(Ba cl)[i]?=some h/\lf[i]?=some lh/\k=ie h/\x= .ref lh:=by
   intro i k x e;rw[←hkv,br]at e;cases ez:((Ba cl).zip lf)[i]? with
   |none=>rw[ez]at e;cases e
   |some z=>
    rw[ez]at e;obtain⟨z1,z2⟩:=z;cases e;obtain⟨y1,y2⟩:=bu.mp ez;exact⟨z1,z2,y1,y2,rfl,rfl⟩
  have knd:(kvs.map (·.1)).Nodup:=by
   have:kvs.map (·.1)=(Ba cl).map λi=>(ie i:Key):=by
    rw[←hkv,c9];have:((λx:Key×V=>x.1)∘λz:Int×gy=>((ie z.1:Key),V.ref z.2))=(λi=>(ie i:Key))∘vd:=rfl;rw[this,←c9,c7 (by omega)]
   rw[this];exact ny.map _ (λa b h e=>h (k9 e)) (gF cl)
  refine⟨_,rfl,df,kvs,rfl,edf2,λo Z d hd=> ?_⟩;generalize hH3:upd H2 df (.frz o (.dK kvs))=H3 at hd⊢;have e3:H3 df=some (.frz o (.dK kvs)):=by rw[←hH3];exact aJ
  have k3:∀b u,b≠df->H2 b=some u->H3 b=some u:=λb u n e=>by rw[←hH3,bA n];exact e
  have t3:∀b xs,H2 b=some (.tup xs)->H3 b=some (.tup xs):=λb xs e=>k3 b _ (λz=>by rw[z,edf2]at e;cases e) e;have l3:∀b xs,H2 b=some (.lst xs)->H3 b=some (.lst xs):=λb xs e=>k3 b _ (λz=>by rw[z,edf2]at e;cases e) e;have s3:Same H H3:=λb u e=>k3 b u (λz=>by rw[z,hdf]at e;cases e) (s2 _ _ (s1 _ _ e));have elc3:=l3 _ _ elc;have hP3:PlAt H3 pc (bD pos g):=Paired.mapP hP λ_ _ z=>t3 _ _ z;have hLf3:Paired (λi l=> ∃qs,H3 l=some (.lst ((qs:List gy).map V.ref))/\LansAt H3 qs (dI g cs cl od i)) (Ba cl) lf:=Paired.mapP hLf λ_ _ ⟨qq,h1,h2⟩=> ⟨qq,l3 _ _ (s2 _ _ h1),Paired.mapP (h2.ext s2.ext) λ_ _ ⟨ps,y1,y2⟩=> ⟨ps,t3 _ _ y1,Paired.mapP y2 λ_ _ z=>t3 _ _ z⟩⟩;have hz4:(Ba cl).length<=4:=lS cl;refine pG (d:=df) (o:=o) (kvs:=kvs) (λi σ H'=>(∃o,σ=[o,some (.ref lc),some (.ref df)])/\Same H3 H'/\∃ls:List gy,H' d=some (.dK ((((Ba cl).take i).zip ls).map λz=>(ie z.1,V.ref z.2)))/\Paired (λi l=> ∃ps,H' l=some (.lst ((ps:List gy).map V.ref))/\PlAt H' ps (iR g cs cl od i)) ((Ba cl).take i) ls)
   ⟨⟨_,rfl⟩,aY hd,[],aJ,.nil⟩ (λi σ H' h=>h.2.1 _ _ e3) ?_ ?_
  ·rintro i k x σ H' hx ⟨⟨o',rfl⟩,hs,ls,ed,hPl⟩;obtain⟨hh,lh,hb,hlh,rfl,rfl⟩:=kat hx;have hi:i<(Ba cl).length:=(AR.mp hb).1;have hvl:=mM knd hx;have hll:ls.length=i:=by
    have:((Ba cl).take i).length=ls.length:=Paired.length hPl;rw[cm]at this;omega
   obtain⟨lh',hlh',qs,elh,hqs⟩:=fM hLf3 hb;rw[hlh]at hlh';cases hlh';have h64:(dI g cs cl od hh).length<=64:=gc (b7 _ _) (gc (b7 _ _) (oU D.c6));have hql:qs.length=(dI g cs cl od hh).length:=Paired.length hqs;refine iT ?_;refine⟨_,rfl,_,rfl,lc,rfl,⟨_,A2.of (hs _ _ elc3)⟩,λZ2 l2 AF=> ?_⟩;refine kZ (R:=λH q c=>PlA H q c) (λe h=>e.tup _ _ h) (rest:=[some (.ref df),some (.int hh)]) (λc=>(dI g cs cl od hh).any λL=>decide (c∈L)) jR (λH' AB=>A2.of (AB _ _ (hs _ _ elc3))) (hP3.same hs) AF (by omega) (λb c H4 Q' hc hbc hs4 k=> ?_) λσ H4 qs' hs4 el' hP'=> ?_
   ·refine⟨_,rfl,_,rfl,df,_,rfl,.inl ⟨kvs,ie hh,.inr ⟨o,hs4 _ _ (hs _ _ e3)⟩,rfl,hvl.symm⟩,lh,rfl,⟨_,A2.of (hs4 _ _ (hs _ _ elh))⟩,λZ3 l3 hl3=> ?_⟩;refine eW (K:=K) (a:=lh) (xs:=qs.map V.ref) (λj σ H5=>(∃o,σ=[o,some (.ref b)])/\Same H4 H5/\H5 l3=some (.lst (((dI g cs cl od hh).take j).map λL=>V.bl (decide (c∈L))))) ⟨⟨_,rfl⟩,aY hl3,by rw[aJ];rfl⟩ (λj σ H5 _ h=>A2.of (h.2.1 _ _ (hs4 _ _ (hs _ _ elh)))) ?_ ?_
    ·rintro j y σ H5 hy ⟨⟨o',rfl⟩,hs5,hl5⟩;obtain⟨t,htj,rfl⟩:=eY hy;obtain⟨L,hL,pt,ht,hpt⟩:=fM hqs htj;have hj:j<(dI g cs cl od hh).length:=(AR.mp hL).1;have sT:=(hs.trans hs4).trans hs5;show cS _ _ _ [some (.ref t),some (.ref b)] H5;refine⟨_,rfl,_,rfl,t,_,_,rfl,.inl (sT _ _ ht),jG (hs5.ext.tup _ _ hbc) (Paired.mapP hpt λ_ _ z=>sT _ _ z),?_⟩;rw[lV];refine⟨_,hl5,cG (by rw[b8,cm];omega),⟨_,rfl⟩,λb' u e'=> ?_,?_⟩
     ·rw[bA (bK e' hl3)];exact hs5 _ _ e'
     ·rw[aJ,fq,hL,cx];rfl
    ·rintro σ H5 ⟨_,hs5,hl5⟩;rw[b8,hql,fo (AY _)]at hl5;refine⟨l3,(dI g cs cl od hh).map λL=>decide (c∈L),rfl,A2.of (by rw[hl5,c9];rfl),_,rfl,?_⟩;have e:((dI g cs cl od hh).map λL=>decide (c∈L)).any id=(dI g cs cl od hh).any λL=>decide (c∈L):=by rw[ai];rfl
     rw[e];exact k H5 hs5
   ·have ed4:=hs4 _ _ ed;have hne:cE ((((Ba cl).take i).zip ls).map λz=>((ie z.1:Key),V.ref z.2)) (ie hh)=none:=by
     unfold cE;rw[bf.mpr λz hz=> ?_];rfl;obtain⟨y,hy,rfl⟩:=dv.mp hz;have hy1:y.1∈(Ba cl).take i:=(fe hy).1;have hn:y.1≠hh:=λe=>by
      rw[e]at hy1;obtain⟨j,hj,ej⟩:=vt.mp hy1;have:=(AR.mp hb).2;have hij:j=i:=(bw (gF cl)).mp (ej.trans this.symm);omega
     simp[hn]
    have et:(Ba cl).take (i+1)=(Ba cl).take i++[hh]:=by rw[fq,hb];rfl
    have ez:(((Ba cl).take i++[hh]).zip (ls++[l2])).map (λz=>((ie z.1:Key),V.ref z.2))=(((Ba cl).take i).zip ls).map (λz=>((ie z.1:Key),V.ref z.2))++[(ie hh,.ref l2)]:=by
     rw[zip_append (by rw[cm,hll];omega),cx];rfl
    refine⟨_,ie hh,rfl,ed4,?_,⟨_,rfl⟩,λb u e=> ?_,ls++[l2],?_,?_⟩
    ·rw[b8,cp,cm,jh];omega
    ·rw[bA (bK e hd)];exact hs4 _ _ (hs _ _ e)
    ·rw[aJ,yW _ hne,et,ez]
    ·have x4:∀b xs,H4 b=some (.lst xs)->(upd H4 d (.dK (cF ((((Ba cl).take i).zip ls).map λz=>((ie z.1:Key),V.ref z.2)) (ie hh) (.ref l2)))) b=some (.lst xs):=λb xs e=>by rw[bA (λz=>by rw[z,ed4]at e;cases e)];exact e
     have x5:∀b xs,H4 b=some (.tup xs)->(upd H4 d (.dK (cF ((((Ba cl).take i).zip ls).map λz=>((ie z.1:Key),V.ref z.2)) (ie hh) (.ref l2)))) b=some (.tup xs):=λb xs e=>by rw[bA (λz=>by rw[z,ed4]at e;cases e)];exact e
     have lx:∀{qs:List gy}{Ls:List Pl},PlAt H4 qs Ls->PlAt (upd H4 d (.dK (cF ((((Ba cl).take i).zip ls).map λz=>((ie z.1:Key),V.ref z.2)) (ie hh) (.ref l2)))) qs Ls:=λh=>Paired.mapP h λ_ _ z=>x5 _ _ z;rw[et];exact Paired.snoc (Paired.mapP hPl λ_ _ ⟨qq,h1,h2⟩=> ⟨qq,x4 _ _ (hs4 _ _ h1),lx (h2.same hs4)⟩) ⟨qs',x4 _ _ el',lx hP'⟩
  ·rintro σ H' ⟨_,hs,ls,ed,hPl⟩;rw[hkl,fo (AY _)]at ed hPl;exact q d H' (s3.trans hs) ⟨ls,ed,hPl⟩
noncomputable def nQ (g:bE)(R:Int->List Pl)(ks:List Int):List Pl:=(bD pos g).filter λc=>ks.any λk=>decide (c∈R k)
noncomputable def tQ:Sp:=λvs H Q _=> ∃m d t g w hs R ks,vs=[.ref m,.ref d,.ref t]/\GridAt H m g/\cR g w/\RcD H d hs R/\hs.Nodup/\H t=some (.tup ((ks:List Int).map V.int))/\ks.length<=900/\(∀k∈ks,k∈hs)/\∀t' H',H t'=none->Same H H'->A6 H' t' (nQ g R ks)->Q (.ref t') H'
noncomputable abbrev nCF:List Str:=["mead","reach","holders"]
theorem A54:(["cell","holders","reach"]:List Str).Nodup:=by decide +kernel
theorem B3t:(["holder","cell","reach"]:List Str).Nodup:=by decide +kernel
theorem B21 (F:D1 K mg "cells_for" pE ["mead","reach","holders"])(T:Txt mg)(T2:eN mg)(a1:A1 P w K mg base 6 "cells_of" (dS pos)):A1 P w K mg base 7 "cells_for" tQ:=by
 refine F.k nCF ?_;ac_nf
 ·obtain⟨m,d,t,g,w',hos,R,ks,rfl,hm,G,hR,hnd,ht,hz9,hin,q⟩:=h;refine⟨_,bB (bF (fK gM rfl T.tuple k7 (cM (bU (bH pE).names nCF ["cell"] [("holders",2),("reach",1)] rfl (dH (a1.c hr (aG (pv 0) aB))) rfl rfl rfl (by decide +kernel)
     (λZ=>aQ (i:=0) A54 rfl (nz rfl)) (λZ=>fP (bL (bJ (lC rfl) rfl T2.any lB (cM (bU [(".0",.local),("cell",.cell),("any",.globalImplicit),("holders",.cell),("reach",.cell)] ["cell","holders","reach"] ["holder"] [("cell",0),("reach",2)] rfl (dM (pv 1)) rfl rfl rfl (by decide +kernel)
      (λZ=>A4 0 B3t) (λZ=>cB) (λZ=>dE (jV 1 (dX hr)) (pv 1) (lR (gj (dX hr)) (pv 2) (pv 0) (λ_ _=>rfl)) rfl)) aB)))) (λZ=>pv 0)) aB))),?_⟩
  refine⟨_,rfl,m,g,w',rfl,hm,G,λH1 lc pc hlc s1 elc hP=> ?_⟩;have hpl:pc.length=(bD pos g).length:=Paired.length hP;have h10:(bD pos g).length<=10:=by rw[fL];exact G.c10
  obtain⟨ls,ed,hL⟩:=hR;have hll:hos.length=ls.length:=Paired.length hL;refine⟨lc,rfl,⟨_,A2.of elc⟩,λZ l hl=> ?_⟩;refine kZ (R:=λH q c=>PlA H q c) (λe h=>e.tup _ _ h) (rest:=[some (.ref t),some (.ref d)]) (λc=>ks.any λk=>decide (c∈R k)) jR (λH' AB=>A2.of (AB _ _ elc)) hP hl (by omega) (λb c H4 Q' hc hbc hs4 k=> ?_) λσ H4 qs' hs4 el' hP'=> ?_
  ·have sT:=s1.trans hs4;refine⟨_,rfl,t,rfl,⟨_,A3.of (sT _ _ ht)⟩,λZ3 l3 hl3=> ?_⟩;refine iK (K:=K) (a:=t) (xs:=ks.map V.int) (λj σ H5=>(∃o,σ=[o,some (.ref b),some (.ref d)])/\Same H4 H5/\H5 l3=some (.lst ((ks.take j).map λk=>V.bl (decide (c∈R k))))) ⟨⟨_,rfl⟩,aY hl3,by rw[aJ];rfl⟩ (λj σ H5 _ h=>A3.of (h.2.1 _ _ (sT _ _ ht))) ?_ ?_
   ·rintro j y σ H5 hy ⟨⟨o',rfl⟩,hs5,hl5⟩;rw[br]at hy;cases hkj:ks[j]? with
    |none=>rw[hkj]at hy;cases hy
    |some kk=>
     rw[hkj]at hy;cases hy;have hj:j<ks.length:=(AR.mp hkj).1;obtain⟨i,hi⟩:=du.mp (hin kk (d3 hkj));obtain⟨lh,hlh,ps,elh,hps⟩:=fM hL hi;have sU:=sT.trans hs5;have hv:cE ((hos.zip ls).map λz=>((ie z.1:Key),V.ref z.2)) (ie kk)=some (.ref lh):=by
      refine mM (i:=i) ?_ ?_
      ·have:((hos.zip ls).map λz=>((ie z.1:Key),V.ref z.2)).map (·.1)=hos.map λi=>(ie i:Key):=by
        rw[c9];have:((λx:Key×V=>x.1)∘λz:Int×gy=>((ie z.1:Key),V.ref z.2))=(λi=>(ie i:Key))∘vd:=rfl;rw[this,←c9,c7 (by omega)]
       rw[this];exact ny.map _ (λa b h e=>h (k9 e)) hnd
      ·rw[br,bu (z:=(kk,lh))|>.mpr ⟨hi,hlh⟩];rfl
     show cS _ _ _ [some (.int kk),some (.ref b),some (.ref d)] H5;refine⟨_,rfl,_,rfl,_,rfl,d,_,rfl,.inl ⟨_,ie kk,.inl (sU _ _ ed),rfl,hv.symm⟩,lh,_,_,rfl,.inr (sU _ _ elh),jG (hs5.ext.tup _ _ hbc) (hps.same sU),?_⟩;rw[lV];refine⟨_,hl5,cG (by rw[b8,cm];omega),⟨_,rfl⟩,λb' u e'=> ?_,?_⟩
     ·rw[bA (bK e' hl3)];exact hs5 _ _ e'
     ·rw[aJ,fq,hkj,cx];rfl
   ·rintro σ H5 ⟨_,hs5,hl5⟩;rw[b8,fo (AY _)]at hl5;refine⟨l3,ks.map λk=>decide (c∈R k),rfl,A2.of (by rw[hl5,c9];rfl),_,rfl,?_⟩;have e:(ks.map λk=>decide (c∈R k)).any id=ks.any λk=>decide (c∈R k):=by rw[ai];rfl
    rw[e];exact k H5 hs5
  ·refine⟨l,_,rfl,.inl ⟨A2.of el',λt' ht'=> ?_⟩⟩;have sA:=s1.trans hs4;refine q t' _ (sA.free ht') (sA.trans (aY ht')) ⟨qs',aJ,?_⟩;exact(show PlAt H4 qs' (nQ g R ks)from hP').same (aY ht')
noncomputable def ofL (cl:List C3)(ks:List Int):List C3:=cl.filter λc=>decide (c.1∈ks)
theorem Fine.subL (h:Fine cs cl)(ks:List Int):Fine cs (ofL cl ks):=⟨gc (b7 _ _) h.1,λc hc=>h.2 c (dj.mp hc).1⟩
noncomputable def iS (g:bE)(cs:List Int)(cl:List C3)(od:Int)(ks:List Int)(L:List Pl):Bool:=decide (L.length<ks.length)||decide (cX g L*cntAll cs cl<totG g*cntAll cs (ofL cl ks) - od*cntAll cs cl*ks.length)
noncomputable def uN:Sp:=λvs H Q _=> ∃p t u g w cs cl od ks L,vs=[.ref p,.ref t,.ref u]/\PleA H p g w cs cl od/\H t=some (.tup ((ks:List Int).map V.int))/\ks.length<=900/\A6 H u L/\LandOf g L/\∀H',Same H H'->Q (.bl (iS g cs cl od ks L)) H'
noncomputable abbrev nTL:List Str:=["plea","holders","cells","mead","custom","claims","odd","whole_count","count","must_have"]
theorem A47:(["claim","holders"]:List Str).Nodup:=by decide +kernel
theorem B4y (F:D1 K mg "is_too_little" tO ["plea","holders","cells"])(T:Txt mg)(a1:A1 P w K mg base 1 "count_together" nM)(a2:A1 P w K mg base 7 "whole_worth" nW)(a3:A1 P w K mg base 1 "worth_together" pI):A1 P w K mg base 8 "is_too_little" uN:=by
 refine F.k nTL ?_;ac_nf
 ·obtain⟨p,t,u,g,w',cs,cl,od,ks,L,rfl,D,ht,hk9,⟨pu,hu,hpu⟩,hL,q⟩:=h;obtain⟨m,c,a,hp,hm,hc,ha⟩:=D.ex;refine⟨_,aU (cK (pv 0) (bN rfl (bC (A4 3 nd) (bC (A4 4 nd) (bC (A4 5 nd) (bC (A4 6 nd) bO))))))<|
   aU (bS (cI iM (bJ eK rfl T.len jm (aG (pv 2) aB)) (bJ eK rfl T.len jm (aG (pv 1) aB)) (nomark _)) (bB (bF fD)) bT)<|
   aU (bP (i:=7) nd rfl (jr rfl) (a1.c hr (aG (pv 4) (aG (pv 5) aB))))<|
   aU (bP (i:=8) nd rfl (jr rfl) (a1.c hr (aG (pv 4) (cM (bU (bH tO).names nTL ["claim"] [("holders",1)] rfl (dM (pv 5)) rfl rfl rfl (by decide +kernel)
    (λZ=>A4 0 A47) (λZ=>fP (cI A4t (cA cZ (pv 0) aV (λ_ _=>rfl)) (pv 1) rfl)) (λZ=>pv 0)) aB))))<|
   aU (bP (i:=9) nd rfl (jr rfl) (bI jO (bI eE (a2.c hr (aG (pv 3) aB)) (pv 8)) (bI eE (bI eE (pv 6) (pv 7)) (bJ eK rfl T.len jm (aG (pv 1) aB)))))<|
   bB (bF (dE iM (bI eE (a3.c hr (aG (pv 3) (aG (pv 2) aB))) (pv 7)) (pv 9) (nomark _))),?_⟩
  refine⟨_,rfl,p,_,rfl,A3.of hp,rfl,_,_,rfl,_,_,rfl,_,_,rfl,_,_,rfl,rfl,?_⟩;refine⟨_,rfl,u,_,rfl,.inr (A3.of hu),_,rfl,t,_,rfl,.inr (A3.of ht),?_⟩;have hul:pu.length=L.length:=Paired.length hpu;refine⟨_,_,rfl,rfl,_,rfl,eZ (λz=> ?_) λz=> ?_⟩
  ·rw[b8,b8,hul]at z;have e:iS g cs cl od ks L=true:=by
    unfold iS;rw[AS (show L.length<ks.length by omega),Bool.true_or]
   rw[e]at q;exact q H (Same.refl _)
  ·rw[b8,b8,hul]at z;obtain⟨bs,ha,hC⟩:=ha;have hbl:bs.length=cl.length:=Paired.length hC;have h12:=D.ck.l12;refine⟨_,rfl,_,rfl,c,a,cs,bs,cl,rfl,hc,D.cu,.inl ha,hC,mE D.ck D.un,λH1 s1=> ?_⟩;refine⟨_,rfl,_,rfl,a,rfl,⟨_,A3.of (s1 _ _ ha)⟩,λZ l hl=> ?_⟩;refine kZ (R:=λH q (c:C3)=>H q=some (.tup [.int c.1,.int c.2.1,.int c.2.2])) (λe h=>e.tup _ _ h) (rest:=[some (.ref t)]) (λc=>decide (c.1∈ks)) lI (λH' hs=>A3.of (hs _ _ (s1 _ _ ha))) (hC.ext s1.ext) hl (by omega) (λb x H' Q' hx hb hs k=> ?_) λσ H2 qs' s2 el' hP'=> ?_
   ·refine⟨_,rfl,b,_,0,.int x.1,rfl,rfl,A3.of hb,dO (j:=0) rfl,_,rfl,t,_,rfl,.inr (A3.of (hs _ _ (s1 _ _ ht))),rfl,vQ ks,_,rfl,?_⟩;have:=k H' (Same.refl _);rw[←B3s]at this;exact this
   ·refine⟨c,l,cs,qs',ofL cl ks,rfl,s2 _ _ (s1 _ _ hc),D.cu,.inr el',hP',(mE D.ck D.un).subL ks,λH3 s3=> ?_⟩;have s13:=(s1.trans s2).trans s3;refine⟨_,rfl,m,g,w',rfl,hm.same s13,D.G,λH4 s4=> ?_⟩;have s14:=s13.trans s4;have tb:=mZ D.G D.c6;have wb:=vV D.G (λc hc=>hL.subset hc) (LandOf.len D.G hL);refine⟨_,rfl,_,_,rfl,rfl,.inl ⟨by omega,by omega⟩,_,rfl,_,rfl,_,_,rfl,rfl,.inl ⟨by have:=D.o9;omega,by have:=D.o9;omega⟩,?_⟩;refine⟨_,rfl,t,_,rfl,.inr (A3.of (s14 _ _ ht)),_,_,rfl,rfl,.inr ⟨by rw[b8];omega,by rw[b8];omega⟩,_,_,rfl,rfl,?_⟩;refine⟨_,rfl,_,rfl,m,u,g,w',L,rfl,hm.same s14,D.G,⟨pu,s14 _ _ hu,hpu.same s14⟩,hL,λH5 s5=> ?_⟩;refine⟨_,rfl,_,_,rfl,rfl,.inl ⟨by omega,by omega⟩,_,rfl,_,_,rfl,rfl,?_⟩;have e:iS g cs cl od ks L=decide (cX g L*cntAll cs cl<totG g*cntAll cs (ofL cl ks) - od*cntAll cs cl*ks.length):=by
     unfold iS;rw[AU (show¬L.length<ks.length by omega),Bool.false_or]
    have:=q H5 (s14.trans s5);rw[e]at this;simpa only [b8]using this
noncomputable def eD (g:bE)(cs:List Int)(cl:List C3)(od:Int)(ks:List Int):List Pl:=nQ g (iR g cs cl od) ks
noncomputable def gY (g:bE)(cs:List Int)(cl:List C3)(od:Int)(ks:List Int):Bool:=iS g cs cl od ks (eD g cs cl od ks)
noncomputable def gQ (cl:List C3):List (List Int):=(A9 (Ba cl)).tail
noncomputable def kJ (g:bE)(cs:List Int)(cl:List C3)(od:Int):Option (List Int):=(gQ cl).find? (gY g cs cl od)
noncomputable def xO (H:Hp)(v:V)(F:List Int->List Pl)(r:Option (List Int)):Prop:=match r with
 |none=>v= .non
 |some ks=> ∃p t u,v= .ref p/\H p=some (.tup [.ref t,.ref u])/\H t=some (.tup (ks.map V.int))/\A6 H u (F ks)
noncomputable def sN:Sp:=λvs H Q _=> ∃p g w cs cl od,vs=[.ref p]/\PleA H p g w cs cl od/\∀v H',Same H H'->xO H' v (eD g cs cl od) (kJ g cs cl od)->Q v H'
theorem uZ (h:ks∈gQ cl):ks.Sublist (Ba cl):=hX (sf h)
theorem qB (g:bE)(cs:List Int)(cl:List C3)(od:Int)(ks:List Int):LandOf g (eD g cs cl od ks):=a8
noncomputable abbrev nFL:List Str:=["plea","mead","custom","claims","odd","reach","holders","cells"]
theorem B29 (F:D1 K mg "first_lack" wJ ["plea"])(a1:A1 P w K mg base 6 "check_plea" (iH .non))(a2:A1 P w K mg base 12 "cells_by_holder" uX)(a3:A1 P w K mg base 1 "rising_tuples" sX)(a4:A1 P w K mg base 6 "holders_of" jY)(a5:A1 P w K mg base 7 "cells_for" tQ)(a6:A1 P w K mg base 8 "is_too_little" uN):A1 P w K mg base 13 "first_lack" sN:=by
  refine F.k nFL ?_;ac_nf
  · obtain⟨p,g,w',cs,cl,od,rfl,D,q⟩:=h
    refine⟨_,aU (cP (a1.c hr (aG (pv 0) aB)))<|
      aU (cK (pv 0) (bN rfl (bC (A4 1 nd) (bC (A4 2 nd) (bC (A4 3 nd) (bC (A4 4 nd) bO))))))<|
      aU (bP (i:=5) nd rfl (jr rfl) (a2.c hr (aG (pv 0) aB)))<|
      aU (fZ jk rfl (dH (gC mL (a3.c hr (bQ (a4.c hr (aG (pv 3) aB)) aB)) (fY aV) gX)) (A4 6 nd)
        (aU (bP (i:=7) nd rfl (jr rfl) (a5.c hr (aG (pv 1) (aG (pv 5) (aG (pv 6) aB)))))<|
         bB (bS (bL (a6.c hr (aG (pv 0) (aG (pv 6) (aG (pv 7) aB))))) (bB (bF (cL (aG (pv 6) (aG (pv 7) aB))))) bT)))<|
      bB (bF iX),?_⟩
    refine⟨_,rfl,p,g,w',cs,cl,od,rfl,D,λH1 s1=> ?_⟩;obtain⟨m,c,a,hp,hm,hc,ha⟩:=(D.same s1).ex;refine⟨_,rfl,p,_,rfl,A3.of hp,rfl,_,_,rfl,_,_,rfl,_,_,rfl,_,_,rfl,rfl,?_⟩;refine⟨_,rfl,p,g,w',cs,cl,od,rfl,D.same s1,λd H2 s2 hR=> ?_⟩;refine⟨_,rfl,a,cl,rfl,ha.ext s2.ext,D.ck,λlh H3 hlh s3 elh=> ?_⟩;have eho:((cH (holdS cl)).map λk:Nat=>V.int (k:Int))=(Ba cl).map V.int:=by unfold Ba;rw[c9];rfl
    rw[eho]at elh;have hz4:(Ba cl).length<=4:=lS cl;refine⟨lh,_,rfl,elh,by rw[b8];omega,λlt qs H4 AG s4 AI hT=> ?_⟩;rw[uJ]at hT;have hql:qs.length=((A9 (Ba cl)).map (vc V.int)).length:=Paired.length hT;have hq1:1<=qs.length:=by
      obtain⟨R',eR⟩:=kS (Ba cl);rw[hql,b8,eR];simp
    have s34:=s3.trans s4;have hR4:RcD H4 d (Ba cl) (iR g cs cl od):=by
      obtain⟨ls,e1,e2⟩:=hR;exact⟨ls,s34 _ _ e1,Paired.mapP e2 λ_ _ ⟨ps,y1,y2⟩=> ⟨ps,s34 _ _ y1,y2.same s34⟩⟩
    have hTt:TusAt H4 (qs.drop 1) ((gQ cl).map (vc V.int)):=by
      have:=vJ hT;unfold gQ;rw[map_tail];exact this
    refine⟨_,rfl,lt,_,rfl,A2.of AI,λlz hlz=> ?_⟩;have ec:cJ (qs.map V.ref) (some 1) none=(qs.drop 1).map V.ref:=by
      rw[uW _ (by rw[b8];exact hq1),c5]
    have sz:=aY (o:=.lst (cJ (qs.map V.ref) (some 1) none)) hlz;have ez:(upd H4 lz (.lst (cJ (qs.map V.ref) (some 1) none))) lz=some (.lst ((qs.drop 1).map V.ref)):=by rw[aJ,ec]
    generalize upd H4 lz (.lst (cJ (qs.map V.ref) (some 1) none))=H5 at sz ez⊢;have s15:=(s2.trans s34).trans sz;have D5:=(D.same s1).same s15;have hR5:RcD H5 d (Ba cl) (iR g cs cl od):=by
      obtain⟨ls,e1,e2⟩:=hR4;exact⟨ls,sz _ _ e1,Paired.mapP e2 λ_ _ ⟨ps,y1,y2⟩=> ⟨ps,sz _ _ y1,y2.same sz⟩⟩
    have hT5:=hTt.same sz;have rg:(qs.drop 1).length=(gQ cl).length:=by have:(qs.drop 1).length=((gQ cl).map (vc V.int)).length:=Paired.length hTt;rw[this,b8]
    refine⟨lz,rfl,⟨_,A2.of ez⟩,?_⟩;refine eW (K:=K) (a:=lz) (xs:=(qs.drop 1).map V.ref) (λi σ H'=>(∃o1 o2,σ=[some (.ref p),some (.ref m),some (.ref c),some (.ref a),some (.int od),some (.ref d),o1,o2])/\Same H5 H'/\kJ g cs cl od=((gQ cl).drop i).find? (gY g cs cl od))
      ⟨⟨_,_,rfl⟩,Same.refl _,rfl⟩ (λi σ H' _ h=>A2.of (h.2.1 _ _ ez)) ?_ ?_
    · rintro i x σ H' hx ⟨⟨o1,o2,rfl⟩,hs,hfi⟩
      obtain⟨t,htj,rfl⟩:=eY hx;obtain⟨xs,hxs,et⟩:=fM hT5 htj;rw[br]at hxs;cases hki:(gQ cl)[i]? with
      |none=>rw[hki]at hxs;cases hxs
      |some ks=>
        rw[hki]at hxs;cases hxs;have hsub:=uZ (d3 hki);have hk4:=hsub.length_le;have ed:(gQ cl).drop i=ks::(gQ cl).drop (i+1):=by
          exact oz ..|>.trans (by rw[hki];rfl)
        show oZ _ _ _ [some (.ref p),some (.ref m),some (.ref c),some (.ref a),some (.int od),some (.ref d),some (.ref t),o2] H';have hR6:RcD H' d (Ba cl) (iR g cs cl od):=by
          obtain⟨ls,e1,e2⟩:=hR5;exact⟨ls,hs _ _ e1,Paired.mapP e2 λ_ _ ⟨ps,y1,y2⟩=> ⟨ps,hs _ _ y1,y2.same hs⟩⟩
        refine⟨_,rfl,_,rfl,_,rfl,m,d,t,g,w',Ba cl,iR g cs cl od,ks,rfl,(hm.same s15).same hs,D.G,hR6,gF cl,hs _ _ et,by omega,λk hk=>hsub.subset hk,λu H6 hu s6 hU=> ?_⟩;refine⟨_,rfl,_,rfl,_,rfl,p,t,u,g,w',cs,cl,od,ks,eD g cs cl od ks,rfl,(D5.same hs).same s6,s6 _ _ (hs _ _ et),by omega,hU,qB g cs cl od ks,λH7 s7=> ⟨_,rfl,cU (λe=> ?_) λe=> ?_⟩⟩
        · refine⟨_,rfl,_,rfl,by show 2<=gz;decide,λz hz=> ?_⟩
          have sA:=((((s1.trans s15).trans hs).trans s6).trans s7).trans (aY (o:=.tup [.ref t,.ref u]) hz);refine q _ _ sA ?_;rw[hfi,ed,bb (show gY g cs cl od ks=true from e)];have s67:=s7.trans (aY (o:=.tup [.ref t,.ref u]) hz);exact⟨z,t,u,rfl,aJ,s67 _ _ (s6 _ _ (hs _ _ et)),A6.ext hU s67.ext⟩
        · refine⟨⟨_,_,rfl⟩,(hs.trans s6).trans s7,?_⟩
          rw[hfi,ed,ba (by rw[show gY g cs cl od ks=false from e];decide)]
    · rintro σ H' ⟨⟨o1,o2,rfl⟩,hs,hfi⟩
      rw[b8,rg,List.drop_length]at hfi;refine q _ _ ((s1.trans s15).trans hs) ?_;rw[hfi];rfl
theorem zR (v:Int)(x:Int):∀{ks:List Int},ks.Nodup->(ks.map λk=>if x=k then v else 0).sum=if x∈ks then v else 0
 | [],_=>by simp
 |k::ks,h=>by
  have hk:=d9.mp h;rw[cz,fm,zR v x hk.2];by_cases e:x=k
  ·subst e;simp[hk.1]
  ·simp[e]
theorem A1q (f h:Int->Int):∀ks:List Int,(ks.map λk=>f k+h k).sum=(ks.map f).sum+(ks.map h).sum
 | []=>by simp
 |k::ks=>by
  rw[cz,fm,A1q f h ks,cz,fm,cz,fm];omega
theorem qD (cs:List Int)(nd:ks.Nodup):∀cl:List C3,(ks.map (cntH cs cl)).sum=cntAll cs (ofL cl ks)
 | []=>by
  have:ks.map (cntH cs [])=ks.map λ_=>0:=cy λk _=>rfl;rw[this];have z:∀l:List Int,(l.map λ_=>(0:Int)).sum=0:=λl=>by induction l with|nil=>rfl|cons a l ih=>rw[cz,fm,ih];rfl
  rw[z];rfl
 |c::cl=>by
  have ih:=qD cs nd cl;have e:ks.map (cntH cs (c::cl))=ks.map λk=>(if c.1=k then cw cs c else 0)+cntH cs cl k:=cy λk _=>by
   unfold cntH ofH;by_cases z:c.1=k
   ·rw[ax (by simp[z]),if_pos z];unfold cntAll;rw[cz,fm]
   ·rw[aw (by simp[z]),if_neg z,Ap]
  rw[e,A1q,zR _ _ nd,ih];unfold ofL;by_cases z:c.1∈ks
  ·rw[ax (by simp[z]),if_pos z];unfold cntAll;rw[cz,fm]
  ·rw[aw (by simp[z]),if_neg z,Ap]
noncomputable def upI (ks:List Int):Bool:=((ks.zip (ks.drop 1)).map λp=>decide (p.1<p.2)).all id
theorem uG:∀ks:List Int,upI ks=true↔ks.Pairwise (· < ·)
 | []=>by simp[upI]
 | [a]=>by simp[upI]
 |a::b::ks=>by
  have e:upI (a::b::ks)=(decide (a<b)&&upI (b::ks)):=rfl;rw[e,i4,uG (b::ks),decide_eq_true_eq,ff (a:=a)];constructor
  ·rintro⟨h1,h2⟩;refine⟨λx hx=> ?_,h2⟩;rcases di.mp hx with rfl|hx
   ·exact h1
   ·have:=(ff.mp h2).1 x hx;omega
  ·rintro⟨h1,h2⟩;exact⟨h1 b AX,h2⟩
noncomputable def vY:Sp:=λvs H Q _=> ∃a ks,vs=[.ref a]/\H a=some (.tup ((ks:List Int).map V.int))/\ks≠[]/\ks.length<=1000/\∀H',Same H H'->Q (.bl (upI ks)) H'
noncomputable def fN (xs:List V):List Int:=xs.filterMap λ| .int i=>some i|_=>none
noncomputable def eU (H:Hp)(cl:List C3)(v:V):Option (List Int):=match tupOf H v with
 |some xs=>if (!xs.isEmpty&&(xs.all (eB cl)&&upI (fN xs)))=true then some (fN xs)else none
 |none=>none
noncomputable def wN:Sp:=λvs H Q _=> ∃a cl v,vs=[.ref a,v]/\ClT H a cl/\cl.length<=12/\Kn H 2 v/\∀H',Same H H'->Q (.bl (eU H cl v).isSome) H'
theorem pX:∀{xs:List V},xs.all (eB cl)=true->xs=(fN xs).map V.int/\∀k∈fN xs,bY cl k=true
 | [],_=> ⟨rfl,λk hk=>by cases hk⟩
 |x::xs,h=>by
  rw[aa,i4]at h;obtain⟨e,hk⟩:=pX h.2;obtain⟨i,rfl⟩:∃i,x= .int i:=by
   have h1:=h.1;cases x<;>first|exact⟨_,rfl⟩|cases h1
  have e2:fN (.int i::xs)=i::fN xs:=rfl;rw[e2];refine⟨by rw[cz,←e],λk hk'=> ?_⟩;rcases di.mp hk' with rfl|hk'
  ·exact h.1
  ·exact hk k hk'
theorem B4p (h:eU H cl v=some ks):∃t,v= .ref t/\H t=some (.tup (ks.map V.int))/\ks≠[]/\(∀k∈ks,bY cl k=true)/\ks.Pairwise (· < ·):=by
 unfold eU at h;cases z:tupOf H v with
 |none=>rw[z]at h;cases h
 |some xs=>
  rw[z]at h;dsimp only at h
  split at h
  ·rename_i y;cases h;rw[i4,i4]at y;obtain⟨t,rfl,ht⟩:=gU z;obtain⟨e,hk⟩:=pX y.2.1;refine⟨t,rfl,by rw[←e];exact ht,λe0=> ?_,hk,(uG _).mp y.2.2⟩;rw[e0]at e;rw[e]at y;exact absurd y.1 (by decide)
  ·cases h
theorem A2o (s:Same H H')(k:Kn H 1 v):eU H' cl v=eU H cl v:=by unfold eU;rw[s.tupOf k]
theorem A3t (F:D1 K mg "is_rising" iY ["things"])(T:Txt mg)(T2:eN mg):A1 P w K mg base 1 "is_rising" vY:=by
 refine F.k ["things"] ?_;ac_nf
 ·obtain⟨a,ks,rfl,ha,hne,hz,q⟩:=h;have h1:1<=ks.length:=uf.mpr hne;refine⟨_,bB (bF (bJ (fE rfl) rfl T.all m5 (cM (bU (bH iY).names ["things"] ["one","other"] [] rfl (rK kT_ok rfl T2.zip (aG (pv 0) (eF (gC jM (pv 0) (fY aV) gX) aB))) rfl rfl rfl (by decide +kernel)
   (λZ=>bN rfl (bC (A4 0 kO) (bC (A4 1 kO) bO))) (λZ=>cB) (λZ=>dE iM (pv 0) (pv 1) (nomark _))) aB))),?_⟩
  refine⟨_,rfl,_,rfl,_,rfl,a,_,rfl,ha,λt H1 s1 ht=> ?_⟩;rw[uW _ (by rw[b8];exact h1),←c5]at ht;refine⟨a,t,ks.map V.int,(ks.drop 1).map V.int,rfl,A3.of (s1 _ _ ha),A3.of ht,λZ r hr'=> ?_⟩;refine nZ (xs:=ks.map V.int) (ys:=(ks.drop 1).map V.int) (by rw[b8,b8,b5];omega) (λi σ H'=>σ.length=2/\Same H1 H'/\H' r=some (.lst ((((ks.zip (ks.drop 1)).map λp=>decide (p.1<p.2)).take i).map V.bl))) ⟨rfl,aY hr',by rw[aJ];rfl⟩
   (λi σ H' h=> ⟨A3.of (h.2.1 _ _ (s1 _ _ ha)),A3.of (h.2.1 _ _ ht)⟩) ?_ ?_
  ·rintro i x y p3 σ H' hx hy ⟨hσ,hs,zl⟩ hp3
   match σ,hσ with
   | [x0,x1],_=>
   rw[br]at hx hy;cases hb:ks[i]? with
   |none=>rw[hb]at hx;cases hx
   |some b=>
   cases hb2:(ks.drop 1)[i]? with
   |none=>rw[hb2]at hy;cases hy
   |some b2=>
   rw[hb]at hx;cases hx;rw[hb2]at hy;cases hy;have s3:=aY (o:=.tup [.int b,.int b2]) hp3;refine⟨p3,_,rfl,A3.of aJ,rfl,_,_,rfl,_,_,rfl,rfl,?_⟩;refine gV ?_;have hz1:(ks.zip (ks.drop 1))[i]?=some (b,b2):=bu.mpr ⟨hb,hb2⟩;have hi:i<ks.length:=(AR.mp hb).1;refine⟨_,rfl,_,rfl,_,_,rfl,rfl,?_⟩;refine⟨_,s3 _ _ zl,cG (by rw[b8,cm];omega),rfl,λb' u e'=> ?_,?_⟩
   ·rw[bA (bK e' hr')];exact s3 _ _ (hs _ _ e')
   ·rw[aJ,fq,br,hz1,cx];rfl
  ·rintro σ H' ⟨_,hs,zl⟩;rw[fo (by rw[b8,cp,b5,b8,b5];omega)]at zl;exact⟨r,_,rfl,A2.of zl,q H' (s1.trans hs)⟩
theorem B4z:(["holder","claims"]:List Str).Nodup:=by decide +kernel
theorem B02 (F:D1 K mg "is_lot" rP ["claims","thing"])(T:Txt mg)(a1:A1 P w K mg base 2 "is_holder" mD)(a2:A1 P w K mg base 1 "is_rising" vY):A1 P w K mg base 3 "is_lot" wN:=by
 refine F.k ["claims","thing"] ?_;ac_nf
 ·obtain⟨a,cl,v,rfl,hA,h12,k,q⟩:=h;refine⟨_,aU (bS (PW.pt (fH (bV (bL (bJ mG rfl T.isinstance pj (aG (pv 1) (aG (kX (v:=.ty "tuple") rfl T.tuple k7 rfl) aB))))) (fH (cI (B4x (gj (dX hr))) (pv 1) (cL aB) (nomark _)) (gJ (bV (bL (bJ (fE rfl) rfl T.all m5 (cM (bU (bH rP).names ["claims","thing"] ["holder"] [("claims",0)] rfl (dM (pv 1)) rfl rfl rfl (by decide +kernel)
    (λZ=>A4 0 B4z) (λZ=>cB) (λZ=>a1.c hr (aG (pv 1) (aG (pv 0) aB)))) aB)))))))) (bB (bF fD)) bT)<|
   bB (bF (a2.c hr (aG (pv 1) aB))),?_⟩
  obtain⟨ty,hty,_,_,k3⟩:=oN (K:=K) (k.le (show 1<=2 by decide));refine⟨_,rfl,_,"tuple",ty,_,rfl,hty,k3,_,rfl,cU (λe=> ?_) λe=> ?_⟩
  ·refine dW ?_;have:eU H cl v=none:=by
    unfold eU;cases z:tupOf H v with
    |none=>rfl
    |some xs=>rw[z]at e;cases e
   have q':=q H (Same.refl _);rw[this]at q';exact q'
  ·cases z:tupOf H v with
   |none=>rw[z]at e;cases e
   |some xs=>
   obtain⟨t,rfl,ht⟩:=gU z;obtain⟨hz,hk⟩:=k.items ht;have hV:eU H cl (.ref t)=if (!xs.isEmpty&&(xs.all (eB cl)&&upI (fN xs)))=true then some (fN xs)else none:=by unfold eU;rw[z]
   refine⟨_,rfl,by show 0<=gz;decide,λt0 ht0=> ?_⟩;have u0:=aY (o:=.tup []) ht0;refine⟨t,t0,xs,rfl,rfl,u0 _ _ ht,aJ,_,rfl,cU (λe1=> ?_) λe1=> ?_⟩
   ·refine dW ?_;have q':=q _ u0;rw[hV,e1]at q';exact q'
   rw[e1]at hV;generalize upd H t0 (.tup [])=H1 at u0⊢;have ht1:=u0 _ _ ht;refine⟨_,rfl,t,rfl,⟨xs,A3.of ht1⟩,λZ l hl=> ?_⟩;refine iG (λx=> .bl (eB cl x)) ht1 hl hz (λx H' Q' hm hs hq=> ?_) λσ H2 s2 AF=> ?_
   ·exact⟨_,rfl,_,rfl,a,cl,x,rfl,(hA.ext u0.ext).ext hs.ext,h12,((hk x hm).ext u0.ext).ext hs.ext,λH3 s3=>hq H3 s3⟩
   ·refine⟨l,xs.map (eB cl),rfl,A2.of (by rw[AF,c9];rfl),_,rfl,?_⟩;have ea:(xs.map (eB cl)).all id=xs.all (eB cl):=by rw[af];rfl
    rw[ea];have s02:=u0.trans s2;refine cU (λe2=> ?_) λe2=> ?_
    ·have q':=q H2 s02;have e2':xs.all (eB cl)=false:=by simpa using e2
     rw[hV,e2']at q';exact q'
    ·have e2':xs.all (eB cl)=true:=by simpa using e2
     obtain⟨ex,_⟩:=pX e2';refine⟨_,rfl,t,fN xs,rfl,by rw[←ex];exact s02 _ _ ht,λe0=> ?_,?_,λH3 s3=> ?_⟩
     ·rw[e0]at ex;rw[ex]at e1;cases e1
     ·have:=congrArg kq ex;rw[b8]at this;omega
     ·have q':=q H3 (s02.trans s3);rw[hV,e2']at q';cases eu:upI (fN xs)with
      |true=>rw[eu]at q';exact q'
      |false=>rw[eu]at q';exact q'
open Classical in
noncomputable def sqB (H:Hp)(b:V)(L:List Pl):Bool:=decide (∃t,b= .ref t/\A6 H t L)
open Classical in
theorem A11 {H:Hp}{b:V}{L:List Pl}(h:∃t,b= .ref t/\A6 H t L):sqB H b L=true:=by unfold sqB;exact AS h
open Classical in
theorem xX {H:Hp}{b:V}{L:List Pl}(h:¬ ∃t,b= .ref t/\A6 H t L):sqB H b L=false:=by unfold sqB;exact AU h
noncomputable def gL (H:Hp)(g:bE)(cs:List Int)(cl:List C3)(od:Int)(v:V):Bool:=match tupOf H v with
 |some [a,b]=>(match eU H cl a with
  |some ks=>sqB H b (eD g cs cl od ks)&&gY g cs cl od ks
  |none=>false)
 |_=>false
theorem A6.func {H:Hp}{t:gy}{L M:List Pl}(h1:A6 H t L)(h2:A6 H t M):L=M:=by
 obtain⟨ps,e1,p1⟩:=h1;obtain⟨qs,e2,p2⟩:=h2;rw[e1]at e2;have e:ps.map V.ref=qs.map V.ref:=HO.tup.inj (ig e2);have e':ps=qs:=List.map_inj_right (λa b z=>by cases z;rfl)|>.mp e;subst e';clear e e1 e2
 induction p1 generalizing M with
 |nil=>cases p2;rfl
 |cons r t ih=>
  cases p2 with
  |cons r2 t2=>
   rw[ih t2];have:some (HO.tup _)=some (HO.tup _):=r.symm.trans r2;injection this with this
   injection this with this;injection this with h1 h2;injection h2 with h2 _;rw[rm (V.int.inj h1) (V.int.inj h2)]
theorem yJ {H:Hp}{g:bE}{t:gy}{L:List Pl}(h:A6 H t L)(hl:LandOf g L):landV H g (.ref t)=true:=by
 obtain⟨ps,ht,hP⟩:=h;have key:∀{ps:List gy}{L:List Pl},PlAt H ps L->(∀c∈L,c∈bD pos g)->(ps.map V.ref).all (isCell H g)=true/\eP H (ps.map V.ref)=L:=by
  intro ps L h
  induction h with
  |nil=>exact λ_=> ⟨rfl,rfl⟩
  |cons r t ih=>
   intro hc;obtain⟨i1,i2⟩:=ih λc h=>hc c (AW _ h);have e:=B0n r;refine⟨?_,?_⟩
   ·rw[cz,aa,i1,Aa];unfold isCell;rw[e];exact AS (hc _ AX)
   ·rw[cz];unfold eP at i2⊢;rw[ar,e,i2]
 obtain⟨k1,k2⟩:=key hP λc hc=>hl.subset hc;unfold landV;rw[gK ht];dsimp only
 rw[k1,k2,Ad];exact AS (LandOf.up hl)
theorem kH (G:cN cl)(h:bY cl k=true):k∈Ba cl:=by
 obtain⟨c,hc,e⟩:=ah.mp h;have e:=of_decide_eq_true e;have hn:=(G.num c hc).1;obtain⟨n,rfl⟩:=ja (show 0<=k by omega);have hn4:n<4:=by omega
 unfold Ba cH;have h':holdS cl n=true:=h;generalize holdS cl=S at h';refine dv.mpr ⟨n,?_,rfl⟩;have key:∀b0 b1 b2 b3:Bool,(b0=true->0∈L b0 b1 b2 b3)/\(b1=true->1∈L b0 b1 b2 b3)/\(b2=true->2∈L b0 b1 b2 b3)/\(b3=true->3∈L b0 b1 b2 b3):=by decide
 obtain⟨k0,k1,k2,k3⟩:=key (S 0) (S 1) (S 2) (S 3)
 match n,hn4,h' with
 |0,_,h'=>exact k0 h'
 |1,_,h'=>exact k1 h'
 |2,_,h'=>exact k2 h'
 |3,_,h'=>exact k3 h'
theorem A5q {cl:List C3}(G:cN cl){ks:List Int}(h:∀k∈ks,bY cl k=true)(hu:ks.Pairwise (· < ·)):ks.Nodup/\ks.length<=4:=by
 have nd:ks.Nodup:=hu.imp fun{a b} z e=>by omega
 exact⟨nd,gc (fS nd λk hk=>kH G (h k hk)) (lS cl)⟩
noncomputable def pN:Sp:=λvs H Q _=> ∃p v g w cs cl od,vs=[.ref p,v]/\PleA H p g w cs cl od/\Kn H 4 v/\∀H',Same H H'->Q (.bl (gL H g cs cl od v)) H'
noncomputable abbrev nIL:List Str:=["plea","thing","mead","custom","claims","odd","holders","cells"]
theorem A8x (F:D1 K mg "is_lack" wK ["plea","thing"])(a1:A1 P w K mg base 6 "check_plea" (iH .non))(a2:A1 P w K mg base 1 "is_tuple_within" gW)(a3:A1 P w K mg base 3 "is_lot" wN)(a4:A1 P w K mg base 6 "is_land" uK)(a5:A1 P w K mg base 7 "cells_for" tQ)(a6:A1 P w K mg base 12 "cells_by_holder" uX)(a7:A1 P w K mg base 8 "is_too_little" uN):A1 P w K mg base 13 "is_lack" pN:=by
 refine F.k nIL ?_;ac_nf
 ·obtain⟨p,v,g,w',cs,cl,od,rfl,D,kv,q⟩:=h;refine⟨_,aU (cP (a1.c hr (aG (pv 0) aB)))<|
   aU (cK (pv 0) (bN rfl (bC (A4 2 nd) (bC (A4 3 nd) (bC (A4 4 nd) (bC (A4 5 nd) bO))))))<|
   aU (bS (bV (bL (a2.c hr (aG (pv 1) (cO aV (cO aV aB)))))) (bB (bF fD)) bT)<|
   aU (cK (pv 1) (bN rfl (bC (A4 6 nd) (bC (A4 7 nd) bO))))<|
   aU (bS (PW.pt (fH (bV (bL (a3.c hr (aG (pv 4) (aG (pv 6) aB))))) (gJ (bV (bL (a4.c hr (aG (pv 2) (aG (pv 7) aB)))))))) (bB (bF fD)) bT)<|
   aU (bS (cI (B2m (dX hr)) (pv 7) (a5.c hr (aG (pv 2) (bQ (a6.c hr (aG (pv 0) aB)) (aG (pv 6) aB)))) (nomark _)) (bB (bF fD)) bT)<|
   bB (bF (a7.c hr (aG (pv 0) (aG (pv 6) (aG (pv 7) aB))))),?_⟩
  refine⟨_,rfl,p,g,w',cs,cl,od,rfl,D,λH1 s1=> ?_⟩;have D1:=D.same s1;obtain⟨m,c,a,hp,hm,hc,ha⟩:=D1.ex;refine⟨_,rfl,p,_,rfl,A3.of hp,rfl,_,_,rfl,_,_,rfl,_,_,rfl,_,_,rfl,rfl,?_⟩;have e1:=s1.tupOf (kv.le (show 1<=4 by decide));refine⟨_,rfl,_,2,2,rfl,(kv.ext s1.ext).le (by decide),_,rfl,?_⟩;have ef:∀{r:Bool},gL H g cs cl od v=r->∀H',Same H1 H'->Q (.bl r) H':=λe H' s'=>by rw[←e];exact q H' (s1.trans s')
  unfold dA;rw[e1];cases z:tupOf H v with
  |none=>
   refine dW (ef ?_ _ (Same.refl _));unfold gL;rw[z]
  |some xs=>
   match xs,z with
   | [],z=>refine dW (ef ?_ _ (Same.refl _));unfold gL;rw[z]
   | [_],z=>refine dW (ef ?_ _ (Same.refl _));unfold gL;rw[z]
   |x1::x2::x3::xs,z=>
    have:(decide ((2:Int)<=(x1::x2::x3::xs).length)&&decide (((x1::x2::x3::xs).length:Int)<=2))=false:=by
     rw[AU (show¬(((x1::x2::x3::xs).length:Int)<=2) by rw[b4,b4,b4];omega),yx]
    dsimp only
    rw[this];refine dW (ef ?_ _ (Same.refl _));unfold gL;rw[z]
   | [x,y],z=>
    refine bR ?_;have eV:gL H g cs cl od v=(match eU H cl x with|some ks=>sqB H y (eD g cs cl od ks)&&gY g cs cl od ks|none=>false):=by unfold gL;rw[z]
    obtain⟨t,rfl,ht⟩:=gU z;obtain⟨_,hk⟩:=kv.items ht;have kx:=hk x AX;have ky:=hk y (AW _ AX);refine⟨_,rfl,t,_,rfl,A3.of (s1 _ _ ht),rfl,_,_,rfl,_,_,rfl,rfl,?_⟩;refine⟨_,rfl,_,rfl,a,cl,x,rfl,ha,D.ck.l12,(kx.ext s1.ext).le (by decide),λH2 s2=> ⟨_,rfl,?_⟩⟩;rw[A2o s1 (kx.le (by decide))];cases el:eU H cl x with
    |none=>
     refine dW (ef ?_ _ s2);rw[eV,el]
    |some ks=>
     rw[el]at eV;dsimp only at eV;refine bR ?_;have s12:=s1.trans s2;refine⟨_,rfl,_,rfl,m,g,w',y,rfl,hm.same s2,D.G,ky.ext s12.ext,λH3 s3=> ⟨_,rfl,?_⟩⟩;rw[Same.landV s12 (ky.le (by decide))];have s23:=s2.trans s3;cases eL:landV H g y with
     |false=>
      refine dW (ef ?_ _ s23);have:sqB H y (eD g cs cl od ks)=false:=xX λ⟨t',e,h⟩=>by
       subst e;rw[yJ h (qB g cs cl od ks)]at eL;cases eL
      rw[eV,this];rfl
     |true=>
      refine bR ?_;obtain⟨tx,rfl,htx,hne,hks,hup⟩:=B4p el;obtain⟨ty,L,rfl,hty,hLd⟩:=A4z eL;obtain⟨hnd,hk4⟩:=A5q D.ck hks hup;have s13:=s1.trans s23;refine⟨_,rfl,_,rfl,_,rfl,p,g,w',cs,cl,od,rfl,D1.same s23,λd H4 s4 hR=> ?_⟩;have s14:=s13.trans s4;have s24:=s23.trans s4;refine⟨_,rfl,m,d,tx,g,w',Ba cl,iR g cs cl od,ks,rfl,hm.same s24,D.G,hR,gF cl,s14 _ _ htx,by omega,λk hk=>kH D.ck (hks k hk),λu H5 hu s5 hU=> ?_⟩;have s15:=s14.trans s5;refine⟨ty,u,L,eD g cs cl od ks,rfl,rfl,A6.ext hty s15.ext,hU,_,rfl,?_⟩;by_cases eq:L=eD g cs cl od ks
      ·subst eq;rw[AS rfl];refine bR ?_;refine⟨_,rfl,_,rfl,_,rfl,p,tx,ty,g,w',cs,cl,od,ks,_,rfl,D.same s15,s15 _ _ htx,by omega,A6.ext hty s15.ext,hLd,λH6 s6=> ?_⟩;have:sqB H (.ref ty) (eD g cs cl od ks)=true:=A11 ⟨ty,rfl,hty⟩;refine ef ?_ H6 ((s24.trans s5).trans s6);rw[eV,this];rfl
      ·rw[AU eq];refine dW (ef ?_ _ (s24.trans s5));have:sqB H (.ref ty) (eD g cs cl od ks)=false:=xX λ⟨t',e,h⟩=>by
        cases e;exact eq (A6.func hty h)
       rw[eV,this];rfl
theorem xJ {H:Hp}{t:gy}{L:List Pl}(h:A6 H t L)(hz:L.length<=1000):Kn H 3 (.ref t):=by obtain⟨ps,ht,hP⟩:=h;have hl:ps.length=L.length:=Paired.length hP;refine .inr (.inr ⟨_,ht,by rw[b8];omega,λx hx=> ?_⟩);obtain⟨p,hp,rfl⟩:=dv.mp hx;obtain⟨i,hi⟩:=du.mp hp;obtain⟨c,_,e⟩:=hP.at hi;refine .inr (.inr ⟨_,e,by show 2<=1000;decide,λx hx=> ?_⟩);simp only[di,fc,or_false]at hx;rcases hx with rfl|rfl<;>trivial
noncomputable def dC (g:bE)(cs:List Int)(cl:List C3)(od i:Int)(L:List Pl):Bool:=gG g L&&fU g cs cl od i L
noncomputable def nP:Sp:=λvs H Q _=> ∃a g w t L,vs=[.ref a,.ref t]/\GridAt H a g/\cR g w/\A6 H t L/\LandOf g L/\∀H',Same H H'->Q .non H'
noncomputable def lK:Sp:=λvs H Q _=> ∃p g w cs cl od i t L,vs=[.ref p,.int i,.ref t]/\PleA H p g w cs cl od/\bY cl i=true/\A6 H t L/\LandOf g L/\∀H',Same H H'->Q (.bl (dC g cs cl od i L)) H'
theorem B36 (hr:Room k A):A.units+3<jt:=gh (tu (by decide:3<=64) _) hr.units
theorem A6d (F:D1 K mg "check_land" A2e ["mead","land"])(a1:A1 P w K mg base 6 "is_land" uK):A1 P w K mg base 7 "check_land" nP:=by
 refine F.k ["mead","land"] ?_;ac_nf
 ·obtain⟨a,g,w',t,L,rfl,hA,G,ht,hL,q⟩:=h;refine⟨_,bB (bS (bV (bL (a1.c hr (aG (pv 0) (aG (pv 1) aB))))) dR bT),?_⟩;refine⟨_,rfl,_,rfl,a,g,w',_,rfl,hA,G,xJ ht (by have:=LandOf.len G hL;omega),λH' hs=> ⟨_,rfl,?_⟩⟩;rw[yJ ht hL];exact bR (q H' hs)
theorem B2i (F:D1 K mg "is_fit" yX ["plea","holder","land"])(a1:A1 P w K mg base 4 "is_sound" uO)(a2:A1 P w K mg base 7 "cells_at_road" oD)(a3:A1 P w K mg base 10 "worth_the_due" pK):A1 P w K mg base 11 "is_fit" lK:=by
 refine F.k ["plea","holder","land"] ?_;ac_nf
 ·obtain⟨p,g,w',cs,cl,od,i,t,L,rfl,D,hh,ht,hL,q⟩:=h;obtain⟨m,c,a,hp,hm,hc,ha⟩:=D.ex;refine⟨_,bB (bF (gH (a1.c hr (aG (pv 2) (bQ (a2.c hr (eF (cA cZ (pv 0) aV (λ_ _=>rfl)) aB)) aB))) (gI (dE (B0h (B36 hr)) (a3.c hr (aG (pv 0) (aG (pv 1) (lM (eG (aG (pv 2) aB)) aB)))) (eG (aG (pv 2) aB)) (nomark _))))),?_⟩;refine⟨_,rfl,_,rfl,p,_,0,_,rfl,rfl,A3.of hp,rfl,m,g,w',rfl,hm,D.G,λH1 lr pr hlr s1 elr hR=> ?_⟩;refine⟨t,lr,g,w',L,pr,rfl,A6.ext ht s1.ext,D.G,hL,elr,hR,λH2 s2=> ⟨_,rfl,cU (λe=> ?_) λe=> ?_⟩⟩
  ·have s12:=s1.trans s2;refine⟨_,rfl,_,rfl,_,rfl,by show 1<=gz;decide,λl1 hl1=> ?_⟩;have u1:=aY (o:=.lst [.ref t]) hl1;refine⟨p,g,w',cs,cl,od,i,l1,[t],[L],rfl,(D.same s12).same u1,hh,aJ,.cons (A6.ext (A6.ext ht s12.ext) u1.ext) .nil,by show 1<=64;decide,λM hM=>by rw[d6.mp hM];exact hL,λl2 qs H3 AF s3 el2 hF=> ?_⟩;refine⟨_,rfl,by show 1<=gz;decide,λl4 hl4=> ?_⟩;have u4:=aY (o:=.lst [.ref t]) hl4;have s14:=(s12.trans u1).trans (s3.trans u4);refine⟨l2,l4,qs,[t],_,[L],rfl,rfl,u4 _ _ el2,aJ,hF.ext u4.ext,.cons (A6.ext ht s14.ext) .nil,?_⟩;have q':=q _ s14;unfold dC at q';rw[e,Ad]at q';have e2:decide ([L].filter (fU g cs cl od i)=[L])=fU g cs cl od i L:=by
    cases hd:fU g cs cl od i L with
    |true=>rw[ax hd];exact AS rfl
    |false=>rw[aw (by rw[hd];decide)];exact AU (by simp)
   rw[e2];exact q'
  ·have q':=q H2 (s1.trans s2);unfold dC at q';rw[e,yu]at q';exact q'
theorem B1g (F:D1 K mg "fits_holder" yZ ["plea","holder","land"])(a1:A1 P w K mg base 7 "check_plea_and_holder" sK)(a2:A1 P w K mg base 7 "check_land" nP)(a3:A1 P w K mg base 11 "is_fit" lK):A1 P w K mg base 12 "fits_holder" lK:=by
 refine F.k ["plea","holder","land"] ?_;ac_nf
 ·obtain⟨p,g,w',cs,cl,od,i,t,L,rfl,D,hh,ht,hL,q⟩:=h;refine⟨_,aU (cP (a1.c hr (aG (pv 0) (aG (pv 1) aB))))<|
   aU (cP (a2.c hr (eF (cA cZ (pv 0) aV (λ_ _=>rfl)) (aG (pv 2) aB))))<|
   bB (bF (a3.c hr (aG (pv 0) (aG (pv 1) (aG (pv 2) aB))))),?_⟩
  refine⟨_,rfl,_,rfl,p,g,w',cs,cl,od,i,rfl,D,hh,λH1 s1=> ?_⟩;obtain⟨m,c,a,hp,hm,hc,ha⟩:=(D.same s1).ex;refine⟨_,rfl,p,_,0,_,rfl,rfl,A3.of hp,rfl,_,rfl,m,g,w',t,L,rfl,hm,D.G,A6.ext ht s1.ext,hL,λH2 s2=> ?_⟩;have s12:=s1.trans s2;exact⟨_,rfl,_,rfl,_,rfl,p,g,w',cs,cl,od,i,t,L,rfl,D.same s12,hh,A6.ext ht s12.ext,hL,λH3 s3=>q H3 (s12.trans s3)⟩
theorem ab_le:ab x<=k↔ -k<=x/\x<=k:=by
 unfold ab
 split<;>constructor<;>intro h<;>(try constructor)<;>omega
theorem iW {b x y:Int}(hb:1<=b):b*x<=b*y↔x<=y:=
 ⟨λh=>Int.le_of_mul_le_mul_left h (by omega),λh=>Int.mul_le_mul_of_nonneg_left h (by omega)⟩
theorem A94 {W b t N D od:Int}(hb:1<=b)(hN:1<=N)(e:t*N=D*b):ab (W*b - t)<=od*b↔ab (W*N - D)<=od*N:=by
 rw[ab_le,ab_le];have k1:N*(W*b - t)=b*(W*N - D):=by
  rw[Int.mul_sub,Int.mul_sub,kz N t,e,kz D b]
  congr 1
  rw[←j5,kz N W,kz (W*N) b]
 have k2:N*(od*b)=b*(od*N):=by rw[←j5,kz N od,kz (od*N) b]
 have k3:N* -(od*b)=b* -(od*N):=by rw[Int.mul_neg,Int.mul_neg,k2]
 constructor
 ·rintro⟨h1,h2⟩;have h1':=(iW hN).mpr h1;have h2':=(iW hN).mpr h2;rw[k3,k1]at h1';rw[k1,k2]at h2';exact⟨(iW hb).mp h1',(iW hb).mp h2'⟩
 ·rintro⟨h1,h2⟩;have h1':=(iW hb).mpr h1;have h2':=(iW hb).mpr h2;rw[←k3,←k1]at h1';rw[←k1,←k2]at h2';exact⟨(iW hN).mp h1',(iW hN).mp h2'⟩
theorem tZ (hT:0<=totG g)(hC:0<=cntH cs cl i)(hN:1<=cntAll cs cl):1<=dueB g cs cl i/\dueT g cs cl i*cntAll cs cl=(totG g*cntH cs cl i)*dueB g cs cl i:=by
 obtain⟨s0,s1,_,_,s4⟩:=lG hC hN;have hs0:0<=totG g*frTop (cntH cs cl i) (cntAll cs cl):=ze hT s0;obtain⟨d0,d1,_,_,d4⟩:=lG hs0 s1;refine⟨d1,?_⟩;show frTop (totG g*frTop (cntH cs cl i) (cntAll cs cl)) (frBot (cntH cs cl i) (cntAll cs cl))*cntAll cs cl=totG g*cntH cs cl i*frBot (totG g*frTop (cntH cs cl i) (cntAll cs cl)) (frBot (cntH cs cl i) (cntAll cs cl));generalize frTop (cntH cs cl i) (cntAll cs cl)=sT at*;generalize frBot (cntH cs cl i) (cntAll cs cl)=sB at*;generalize frTop (totG g*sT) sB=dT at*;generalize frBot (totG g*sT) sB=dB at*;have hne:sB≠0:=by omega
 refine Int.eq_of_mul_eq_mul_left hne ?_
 calc sB*(dT*cntAll cs cl)=dT*sB*cntAll cs cl:=by rw[←j5,kz sB dT]
  _=totG g*sT*dB*cntAll cs cl:=by rw[d4]
  _=totG g*(sT*cntAll cs cl)*dB:=by rw[j5 (totG g*sT) dB,kz dB,←j5,j5 (totG g)]
  _=totG g*(cntH cs cl i*sB)*dB:=by rw[s4]
  _=sB*(totG g*cntH cs cl i*dB):=by rw[←j5 (totG g),kz _ sB,j5 sB]
theorem A48 {g:bE}{cs:List Int}{cl:List C3}{od i:Int}{L:List Pl}(hT:0<=totG g)(hC:0<=cntH cs cl i)(hN:1<=cntAll cs cl):fU g cs cl od i L= !decide (od*cntAll cs cl<ab (cX g L*cntAll cs cl - totG g*cntH cs cl i)):=by obtain⟨h1,h2⟩:=tZ (g:=g) hT hC hN;have:=A94 (W:=cX g L) (od:=od) h1 hN h2;unfold fU;rw[iy,decide_eq_true_eq,this];simp
theorem B18:∀{xs:List Pl},xs.Pairwise A8->(A9 xs).Pairwise λa b=>HT.lexLt (fl a) (fl b)=true:=by
 intro xs
 induction xs with
 |nil=>intro _;exact List.pairwise_singleton _ _
 |cons x xs ih0=>
  intro h;rw[ff]at h;have ih:=ih0 h.2;have ne:∀b∈(A9 xs).tail,b≠[]:=by
   obtain⟨t,e⟩:=kS xs;rw[e,ff]at ih;rw[e];intro b hb z;have:=ih.1 b hb;rw[z,gZ]at this;cases this
  have nil:∀b:List Pl,b≠[]->HT.lexLt (fl []) (fl b)=true:=λb hb=>by
   cases b with
   |nil=>exact absurd rfl hb
   |cons c b=>rfl
  show([]::((A9 xs).map (x:: ·)++(A9 xs).tail)).Pairwise _;rw[ff,List.pairwise_append,fh];refine⟨λb hb=> ?_,ih.imp fun{a b} z=> ?_,ih.sublist (List.tail_sublist _),λa ha b hb=> ?_⟩
  ·rcases da.mp hb with z|z
   ·obtain⟨c,_,rfl⟩:=dv.mp z;exact nil _ (by simp)
   ·exact nil b (ne b z)
  ·show HT.lexLt (x.1::x.2::fl a) (x.1::x.2::fl b)=true;rw[HT.lexLt_cons,if_pos rfl,HT.lexLt_cons,if_pos rfl];exact z
  ·obtain⟨c,_,rfl⟩:=dv.mp ha;have hs:=hX (sf hb);cases b with
   |nil=>exact absurd rfl (ne _ hb)
   |cons y b=>
    have lt:HT.lexLt [x.1,x.2] [y.1,y.2]=true:=h.1 y (hs.subset AX);show HT.lexLt (x.1::x.2::fl c) (y.1::y.2::fl b)=true;rw[HT.lexLt_cons,HT.lexLt_cons]at lt⊢;by_cases e1:x.1=y.1
    ·rw[if_pos e1]at lt⊢;by_cases e2:x.2=y.2
     ·rw[if_pos e2]at lt;cases lt
     ·rw[if_neg e2]at lt⊢;exact lt
    ·rw[if_neg e1]at lt⊢;exact lt
theorem hZ (g:bE):(bD pos g).Nodup:=(lY pos g).imp fun{a b} z e=>by
 have z:HT.lexLt [a.1,a.2] [b.1,b.2]=true:=z;rw[e,gZ]at z;cases z
noncomputable def bZ (g:bE)(ks:List Int)(i:Int):List Pl:=(((bD pos g).zip ks).filter λz=>decide (z.2=i)).map (·.1)
theorem kU (i:Int)(h:ks.length=(bD pos g).length):LandOf g (bZ g ks i):=by have e1:(bD pos g)=((bD pos g).zip ks).map (·.1):=(c7 (by omega)).symm;have:(bZ g ks i).Sublist (((bD pos g).zip ks).map (·.1)):=a8.map _;rw[←e1]at this;exact this
noncomputable def fQ (g:bE)(cs:List Int)(cl:List C3)(od:Int)(ks:List Int):Bool:=(cH (holdS cl)).all λh:Nat=>dC g cs cl od (h:Int) (bZ g ks (h:Int))
noncomputable def uF:Sp:=λvs H Q _=> ∃a t g w ks i,vs=[.ref a,.ref t,.int i]/\GridAt H a g/\cR g w/\H t=some (.tup ((ks:List Int).map V.int))/\ks.length=(bD pos g).length/\∀t' H',Same H H'->A6 H' t' (bZ g ks i)->Q (.ref t') H'
structure ParA (H:Hp)(p t:gy)(g:bE)(w:Nat)(cs:List Int)(cl:List C3)(od:Int)(ks:List Int):Prop where
 D:PleA H p g w cs cl od
 t:H t=some (.tup (ks.map V.int))
 l:ks.length=(bD pos g).length
 h:∀k∈ks,bY cl k=true
theorem ParA.same {H H':Hp}{p t:gy}{g:bE}{w:Nat}{cs:List Int}{cl:List C3}{od:Int}{ks:List Int}(h:ParA H p t g w cs cl od ks)(s:Same H H'):ParA H' p t g w cs cl od ks:=⟨h.D.same s,s _ _ h.t,h.l,h.h⟩
theorem ParA.l10 {H:Hp}{p t:gy}{g:bE}{w:Nat}{cs:List Int}{cl:List C3}{od:Int}{ks:List Int}(h:ParA H p t g w cs cl od ks):ks.length<=6:=by rw[h.l,fL];exact h.D.c6
noncomputable def kR:Sp:=λvs H Q _=> ∃p t g w cs cl od ks,vs=[.ref p,.ref t]/\ParA H p t g w cs cl od ks/\∀H',Same H H'->Q (.bl (fQ g cs cl od ks)) H'
noncomputable def vP:Sp:=λvs H Q _=> ∃p t g w cs cl od ks,vs=[.ref p,.ref t]/\ParA H p t g w cs cl od ks/\fQ g cs cl od ks=true/\∀H',Same H H'->Q .non H'
theorem zC:(["cell","number","holder"]:List Str).Nodup:=by decide +kernel
theorem B3m (F:D1 K mg "land_within" sLW ["mead","numbers","holder"])(T:Txt mg)(T2:eN mg)(a1:A1 P w K mg base 6 "cells_of" (dS pos)):A1 P w K mg base 7 "land_within" uF:=by
 refine F.k ["mead","numbers","holder"] ?_;ac_nf
 ·obtain⟨a,n,g,w',ns,i,rfl,hA,G,hn,hl,q⟩:=h;refine⟨_,bB (bF (fK gM rfl T.tuple k7 (cM (bU (bH sLW).names ["mead","numbers","holder"] ["cell","number"] [("holder",2)] rfl (A62 rfl T2.zip (bQ (a1.c hr (aG (pv 0) aB)) (aG (pv 1) aB))) rfl rfl rfl (by decide +kernel)
   (λZ=>bN rfl (bC (A4 0 zC) (bC (A4 1 zC) bO))) (λZ=>fP (cI gB (pv 1) (pv 2) (nomark _))) (λZ=>pv 0)) aB))),?_⟩
  have h10:(bD pos g).length<=10:=by rw[fL];exact G.c10
  refine⟨_,rfl,a,g,w',rfl,hA,G,λH2 lc ps hlc s2 hlc2 hP=> ?_⟩;have hpl:ps.length=(bD pos g).length:=Paired.length hP;have hn2:=s2 _ _ hn;refine⟨_,rfl,lc,n,_,_,rfl,A2.of hlc2,A3.of hn2,λZ l zl=> ?_⟩;refine nZ (xs:=ps.map V.ref) (ys:=ns.map V.int) (by rw[b8,b8];omega)
   (λj σ H'=>(∃o0 o1,σ=[o0,o1,some (.int i)])/\Same H2 H'/\∃qs,H' l=some (.lst ((qs:List gy).map V.ref))/\PlAt H' qs (((((bD pos g).zip ns).take j).filter λz=>decide (z.2=i)).map (·.1))/\qs.length<=j)
   ⟨⟨_,_,rfl⟩,aY zl,[],by rw[aJ];rfl,.nil,gv _⟩ (λj σ H' h=> ⟨A2.of (h.2.1 _ _ hlc2),A3.of (h.2.1 _ _ hn2)⟩) ?_ ?_
  ·rintro j x y pz σ H3 hx hy ⟨⟨o0,o1,rfl⟩,hs3,qs,hl3,hq3,hql⟩ hpz;obtain⟨b,hb,rfl⟩:=eY hx;obtain⟨c,hc,he⟩:=hP.at hb;obtain⟨m,hm,rfl⟩:∃m,ns[j]?=some m/\V.int m=y:=by
    rw[br]at hy;cases e:ns[j]? with
    |none=>rw[e]at hy;cases hy
    |some m=>rw[e]at hy;exact⟨m,rfl,ig hy⟩
   have s4:=aY (o:=.tup [.ref b,.int m]) hpz;have ez:((bD pos g).zip ns)[j]?=some (c,m):=bu.mpr ⟨hc,hm⟩;have hjl:j<(bD pos g).length:=(AR.mp hc).1;have et:(((((bD pos g).zip ns).take (j+1)).filter λz=>decide (z.2=i)).map (·.1))=(((((bD pos g).zip ns).take j).filter λz=>decide (z.2=i)).map (·.1))++(if m=i then [c]else []):=by
    rw[fq,ez,au,cx]
    congr 1
    by_cases z:m=i
    ·simp[z]
    ·simp only[Option.toList,List.filter_cons,List.filter_nil,AU z,if_neg z];rfl
   rw[et];have hl4:=s4 _ _ hl3;refine⟨pz,_,rfl,A3.of aJ,rfl,_,_,rfl,_,_,rfl,rfl,?_⟩;refine⟨_,rfl,_,rfl,rfl,_,rfl,eZ (λz=> ?_) λz=> ?_⟩
   ·rw[if_pos (V.int.inj z)];refine⟨_,rfl,_,hl4,cG (by rw[b8];omega),⟨_,_,rfl⟩,λb' u e'=> ?_,qs++[b],?_,?_,?_⟩
    ·rw[bA (bK e' zl)];exact s4 _ _ (hs3 _ _ e')
    ·rw[aJ,cx];rfl
    ·exact PlAt.snoc (Paired.mapP hq3 λ_ _ z=>PlA.put hl4 (s4 _ _ z)) (PlA.put hl4 (s4 _ _ (hs3 _ _ he)))
    ·rw[bz];show _+1<=_;omega
   ·rw[if_neg (λy=>z (by rw[y])),ak];exact⟨⟨_,_,rfl⟩,hs3.trans s4,qs,hl4,hq3.same s4,by omega⟩
  ·rintro σ H3 ⟨⟨o0,o1,rfl⟩,hs3,qs,hl3,hq3,hql⟩;have el:(ns.map V.int).length=((bD pos g).zip ns).length:=by rw[b8,cp];omega
   rw[el,fo (AY _)]at hq3;refine⟨l,_,rfl,.inl ⟨A2.of hl3,λtt htt=> ?_⟩⟩;have s4:=aY (o:=.tup (qs.map V.ref)) htt;exact q tt _ ((s2.trans hs3).trans s4) ⟨qs,aJ,hq3.same s4⟩
noncomputable abbrev nPa:List Str:=["plea","thing","mead","custom","claims","odd","many"]
theorem A3w:(["number","claims"]:List Str).Nodup:=by decide +kernel
theorem A6o:(["holder","plea","mead","thing"]:List Str).Nodup:=by decide +kernel
theorem A5b (F:D1 K mg "is_parting" nS ["plea","thing"])(T:Txt mg)(a1:A1 P w K mg base 6 "check_plea" (iH .non))(a2:A1 P w K mg base 6 "cells_of" (dS pos))(a3:A1 P w K mg base 1 "is_tuple_within" gW)(a4:A1 P w K mg base 2 "is_holder" mD)(a5:A1 P w K mg base 6 "holders_of" jY)(a6:A1 P w K mg base 11 "is_fit" lK)(a7:A1 P w K mg base 7 "land_within" uF):A1 P w K mg base 12 "is_parting" kR:=by
 refine F.k nPa ?_;ac_nf
 ·obtain⟨p,t,g,w',cs,cl,od,ks,rfl,B,q⟩:=h;refine⟨_,aU (cP (a1.c hr (aG (pv 0) aB)))<|
   aU (cK (pv 0) (bN rfl (bC (aQ (i:=2) nd rfl (nz rfl)) (bC (A4 3 nd) (bC (aQ (i:=4) nd rfl (nz rfl)) (bC (A4 5 nd) bO))))))<|
   aU (bP (i:=6) nd rfl (jr rfl) (bJ eK rfl T.len jm (bQ (a2.c hr (aG (pv 2) aB)) aB)))<|
   aU (bS (PW.pt (fH (bV (bL (a3.c hr (aG (pv 1) (aG (pv 6) (aG (pv 6) aB)))))) (gJ (bV (bL (bJ (fE rfl) rfl T.all m5 (cM (bU (bH nS).names nPa ["number"] [("claims",4)] rfl (dM (pv 1)) rfl rfl rfl (by decide +kernel)
    (λZ=>A4 0 A3w) (λZ=>cB) (λZ=>a4.c hr (aG (pv 1) (aG (pv 0) aB)))) aB))))))) (bB (bF fD)) bT)<|
   bB (bF (bJ (fE rfl) rfl T.all m5 (cM (bU (bH nS).names nPa ["holder"] [("plea",0),("mead",2),("thing",1)] rfl (dH (a5.c hr (aG (pv 4) aB))) rfl rfl rfl (by decide +kernel)
    (λZ=>A4 0 A6o) (λZ=>cB) (λZ=>a6.c hr (aG (pv 1) (aG (pv 0) (bQ (a7.c hr (aG (pv 2) (aG (pv 3) (aG (pv 0) aB)))) aB))))) aB))),?_⟩
  refine⟨_,rfl,p,g,w',cs,cl,od,rfl,B.D,λH1 s1=> ?_⟩;have B1:=B.same s1;obtain⟨m,c,a,hp,hm,hc,ha⟩:=B1.D.ex;refine⟨_,rfl,p,_,rfl,A3.of hp,rfl,_,_,rfl,_,_,rfl,_,_,rfl,_,_,rfl,rfl,?_⟩;refine⟨_,rfl,m,g,w',rfl,hm,B.D.G,λH2 lc pc hlc s2 elc hP=> ?_⟩;refine⟨lc,_,rfl,.inl (A2.of elc),?_⟩;have hpl:pc.length=(bD pos g).length:=Paired.length hP;have B2:=B1.same s2;have hl6:=B.l10;rw[b8,hpl,←B.l];have e4:dA H2 ks.length ks.length (.ref t)=true:=by unfold dA;rw[gK B2.t];simp
  have kt:Kn H2 1 (.ref t):=.inr (.inr ⟨_,B2.t,by rw[b8];omega,λ_ _=>trivial⟩);refine⟨_,rfl,_,rfl,_,rfl,_,_,_,rfl,kt,_,rfl,?_⟩;rw[e4];refine bR ⟨_,rfl,t,rfl,⟨_,A3.of B2.t⟩,λZ l hl=> ?_⟩;refine iG (λx=> .bl (eB cl x)) B2.t hl (by rw[b8];omega) (λx H' Q' hm' hs hq=> ?_) λσ H3 s3 hl3=> ?_
  ·obtain⟨k,hk,rfl⟩:=dv.mp hm';exact⟨_,rfl,_,rfl,a,cl,_,rfl,(ha.ext s2.ext).ext hs.ext,B.D.ck.l12,trivial,λH3 s3=>hq H3 s3⟩
  refine⟨l,ks.map λk=>eB cl (.int k),rfl,A2.of (by rw[hl3,c9,c9];rfl),_,rfl,?_⟩;have ea:(ks.map λk=>eB cl (.int k)).all id=true:=by
   rw[af,ae];exact λk hk=>B.h k hk
  rw[ea];refine bR ?_;have s13:=s2.trans s3;refine⟨_,rfl,a,cl,rfl,ha.ext s13.ext,B.D.ck,λlh H4 hlh s4 elh=> ?_⟩;have s14:=s13.trans s4;have B4:=B1.same s14;refine⟨lh,rfl,⟨_,A2.of elh⟩,λZ r hr'=> ?_⟩;refine eW (K:=K) (a:=lh) (xs:=(cH (holdS cl)).map λk:Nat=>V.int (k:Int)) (λj σ H'=>(∃o,σ=[o,some (.ref p),some (.ref m),some (.ref t)])/\Same H4 H'/\H' r=some (.lst (((cH (holdS cl)).take j).map λk:Nat=>V.bl (dC g cs cl od (k:Int) (bZ g ks (k:Int))))))
   ⟨⟨_,rfl⟩,aY hr',aJ⟩ (λj σ H' _ h=>A2.of (h.2.1 _ _ elh)) ?_ ?_
  ·rintro j x σ H' hx ⟨⟨o,rfl⟩,hs,zl⟩;rw[br]at hx;cases hb:(cH (holdS cl))[j]? with
   |none=>rw[hb]at hx;cases hx
   |some k=>
    rw[hb]at hx;cases hx;have hk:bY cl (k:Int)=true:=(mem_mem4.mp (d3 hb)).2;have hj:j<(cH (holdS cl)).length:=(AR.mp hb).1;have h4:(cH (holdS cl)).length<=4:=by
     unfold cH;have key:∀b0 b1 b2 b3:Bool,(L b0 b1 b2 b3).length<=4:=by decide
     exact key _ _ _ _
    refine iT ?_;refine⟨_,rfl,_,rfl,_,rfl,_,rfl,_,rfl,m,t,g,w',ks,(k:Int),rfl,(hm.same s14).same hs,B.D.G,hs _ _ B4.t,B.l,λtl H5 s5 hL=> ?_⟩;refine⟨p,g,w',cs,cl,od,(k:Int),tl,_,rfl,(B4.D.same hs).same s5,hk,hL,kU _ B.l,λH6 s6=> ?_⟩;refine⟨_,s6 _ _ (s5 _ _ zl),cG (by rw[b8,cm];omega),⟨_,rfl⟩,λb' u e'=> ?_,?_⟩
    ·rw[bA (bK e' hr')];exact s6 _ _ (s5 _ _ (hs _ _ e'))
    ·rw[aJ,fq,hb,cx];rfl
  ·rintro σ H' ⟨_,hs,zl⟩;rw[b8,fo (AY _)]at zl;refine⟨r,(cH (holdS cl)).map λk:Nat=>dC g cs cl od (k:Int) (bZ g ks (k:Int)),rfl,A2.of (by rw[zl,c9];rfl),?_⟩;have e:((cH (holdS cl)).map λk:Nat=>dC g cs cl od (k:Int) (bZ g ks (k:Int))).all id=fQ g cs cl od ks:=by unfold fQ;rw[af];rfl
   rw[e];exact q H' ((s1.trans s14).trans hs)
theorem A9e (F:D1 K mg "check_parting" wU ["plea","parting"])(a1:A1 P w K mg base 12 "is_parting" kR):A1 P w K mg base 13 "check_parting" vP:=by
 refine F.k ["plea","parting"] ?_;ac_nf
 ·obtain⟨p,t,g,w',cs,cl,od,ks,rfl,B,hB,q⟩:=h;refine⟨_,bB (bS (bV (bL (a1.c hr (aG (pv 0) (aG (pv 1) aB))))) dR bT),?_⟩;refine⟨_,rfl,_,rfl,p,t,g,w',cs,cl,od,ks,rfl,B,λH' hs=> ⟨_,rfl,?_⟩⟩;rw[hB];exact bR (q H' hs)
structure TxW (mg:Str->Option gw):Prop where
 divmod:mg "divmod" =none
 min:mg "min" =none
 figs:∃t,mg "FIGURES" =some (.int 4 t)
noncomputable def rZ:Sp:=λvs H Q _=> ∃lc t pc ps C L,vs=[.ref lc,.ref t]/\H lc=some (.lst ((pc:List gy).map V.ref))/\PlAt H pc C/\C.length<=10/\(H t=some (.tup ((ps:List gy).map V.ref))\/H t=some (.lst (ps.map V.ref)))/\PlAt H ps L/\Q (.int (Wy.mk C L)) H
noncomputable def xF:Sp:=λvs H Q _=> ∃(lc:gy)(pc:List gy)(f:Nat->Int)(n:Nat),vs=[.ref lc,.int (Wy.V4 (iq n) f)]/\H lc=some (.lst (pc.map V.ref))/\pc.length=n/\n<=10/\Wy.Fig (iq n) f/\∀t H',H t=none->Same H H'->H' t=some (.tup (((iq n).map f).map V.int))->Q (.ref t) H'
theorem qY {n:Nat}(h:n<=10):(4:Int)^n<=1048576:=by have:(4:Nat)^n<=4^10:=sg (by decide) h;have h2:((4^n:Nat):Int)<=((4^10:Nat):Int):=Int.ofNat_le.mpr this;rw[Int.natCast_pow]at h2;exact h2
theorem A5u (F:D1 K mg "marks_of" yD ["cells","land"])(T:TxW mg):A1 P w K mg base 1 "marks_of" rZ:=by
 obtain⟨tf,mF⟩:=T.figs;refine F.k ["cells","land","marks","cell"] ?_;ac_nf
 ·obtain⟨lc,t,pc,ps,C,L,rfl,hlc,hPc,h10,ht,hPs,q⟩:=h;have hpl:pc.length=C.length:=Paired.length hPc;refine⟨_,aU (bP (i:=2) nd rfl (jr rfl) aV)<|
   aU (fZ jk rfl (dH (pv 0)) (A4 3 nd) (bB (bP (i:=2) nd rfl (jr rfl) (bI dG (bI eE (pv 2) (eJ (v:=.int 4) rfl mF ⟨_,rfl⟩)) (B2r (cI (jV 1 (dX hr)) (pv 3) (pv 1) rfl) aV aV)))))<|
   bB (bF (pv 2)),?_⟩
  refine⟨_,rfl,lc,rfl,⟨_,A2.of hlc⟩,?_⟩;refine eW (K:=K) (a:=lc) (xs:=pc.map V.ref) (λi σ H'=>(∃o,σ=[some (.ref lc),some (.ref t),some (.int (Wy.mk (C.take i) L)),o])/\H'=H)
   ⟨⟨_,rfl⟩,rfl⟩ (λi σ H' _ h=>by rw[h.2];exact A2.of hlc) ?_ ?_
  ·rintro i x σ H' hx ⟨⟨o,rfl⟩,rfl⟩;obtain⟨p,hp,rfl⟩:=eY hx;obtain⟨c,hc,he⟩:=hPc.at hp;have hi:i<C.length:=(AR.mp hc).1;have hr1:=Wy.mk_ran (C.take i) L;have hp10:=qY (n:=(C.take i).length) (by rw[cm];omega);refine⟨_,rfl,_,_,rfl,rfl,(.inr (by decide)),_,rfl,_,rfl,t,_,_,rfl,ht,jG he hPs,?_⟩;rw[lV];have et:C.take (i+1)=C.take i++[c]:=by rw[fq,hc];rfl
   have em:Wy.mk (C.take (i+1)) L=Wy.mk (C.take i) L*4+(if c∈L then 1 else 0):=by
    rw[et];unfold Wy.mk;rw[Wy.V4_snoc];unfold Wy.ind;by_cases e:c∈L<;>simp[e]
   rw[em];refine⟨_,rfl,eZ (λe=> ?_) λe=> ?_⟩
   ·rw[if_pos e];exact⟨_,_,rfl,rfl,⟨_,rfl⟩,rfl⟩
   ·rw[if_neg e];exact⟨_,_,rfl,rfl,⟨_,rfl⟩,rfl⟩
  ·rintro σ H' ⟨⟨o,rfl⟩,rfl⟩;rw[b8,hpl,fo (AY _)];exact⟨_,rfl,q⟩
theorem B14 (F:D1 K mg "parting_written" A0w ["cells","number"])(T:TxW mg)(T1:Txt mg):A1 P w K mg base 1 "parting_written" xF:=by
  obtain⟨tf,mF⟩:=T.figs;refine F.k ["cells","number","figures","figure"] ?_;ac_nf
  · obtain⟨lc,pc,fg,n,rfl,hlc,hn,h10,hf,q⟩:=h
    refine⟨_,aU (bP (i:=2) nd rfl (jr rfl) (eG aB))<|
      aU (nC jk (cI iM (bJ eK rfl T1.len jm (aG (pv 2) aB)) (bJ eK rfl T1.len jm (aG (pv 0) aB)) (nomark _))
        (aU (cK (bJ A9s rfl T.divmod boot_divmod (aG (pv 1) (aG (eJ (v:=.int 4) rfl mF ⟨_,rfl⟩) aB))) (bN rfl (bC (A4 1 nd) (bC (A4 3 nd) bO))))<|
         bB (cP (jB ka mx my lH (pv 2) (aG (pv 3) aB)))))<|
      bB (bF (fK gM rfl T1.tuple k7 (eF (B0g (pv 2) (jP kK aV)) aB))),?_⟩
    refine⟨by show 0<=gz;decide,λlf hlf=> ?_⟩;refine A17 (λσ H'=> ∃(k:Nat)(xs:List Int),k<=n/\(∃o,σ=[some (.ref lc),some (.int (Wy.V4 (iq k) fg)),some (.ref lf),o])/\Same H H'/\H' lf=some (.lst (xs.map V.int))/\xs.length=n - k/\xs.reverse=((iq n).drop k).map fg) (λ_ H'=>match H' lf with|some (.lst xs)=>n - xs.length|_=>0)
      ⟨n,[],AY _,⟨_,rfl⟩,aY hlf,aJ,by simp,by rw[List.drop_of_length_le (by rw[cb];exact AY _)];rfl⟩ ?_ (λσ H' R R' hi hc=> ?_)
    · rintro σ H' ⟨k,xs,hk,⟨o,rfl⟩,hs,hl,hxl,hx⟩
      refine⟨_,rfl,lf,_,rfl,.inl (A2.of hl),_,rfl,lc,_,rfl,.inl (A2.of (hs _ _ hlc)),_,_,rfl,rfl,_,rfl,?_⟩;rw[b8,b8,hn];refine eZ (λAG=> ?_) λAG=> ?_
      · obtain⟨k',rfl⟩:∃k',k=k'+1:=⟨k - 1,by omega⟩
        have ev:Wy.V4 (iq (k'+1)) fg=Wy.V4 (iq k') fg*4+fg k':=by rw[fi,Wy.V4_snoc]
        have hb:=hf k' (d5.mpr (by omega));rw[ev];refine⟨_,rfl,_,_,rfl,⟨by decide,by decide⟩,λpt hpt=> ?_⟩;have e1:(Wy.V4 (iq k') fg*4+fg k')/4=Wy.V4 (iq k') fg:=by omega
        have e2:(Wy.V4 (iq k') fg*4+fg k')%4=fg k':=by omega
        rw[e1,e2];have u:=aY (o:=.tup [.int (Wy.V4 (iq k') fg),.int (fg k')]) hpt;refine⟨pt,_,rfl,A3.of aJ,rfl,_,_,rfl,_,_,rfl,rfl,?_⟩;have el:=u _ _ hl;refine⟨_,rfl,.inl ⟨rfl,_,A2.of el⟩,_,rfl,lf,_,_,rfl,rfl,el,cG (by rw[b8];omega),?_⟩;refine⟨⟨k',xs++[fg k'],by omega,⟨_,rfl⟩,λb o' e=> ?_,by rw[aJ,cx];rfl,by rw[bz,hxl];show n -(k'+1)+1=_;omega,?_⟩,?_⟩
        · rw[bA (bK e hlf)];exact u _ _ (hs _ _ e)
        · rw[List.reverse_append,hx]
          have hd:(iq n).drop k'=k'::(iq n).drop (k'+1):=by
            rw[List.drop_eq_getElem_cons (by rw[cb];omega),List.getElem_range]
          rw[hd];rfl
        · show(match (upd _ lf _) lf with|some (HO.lst xs)=>n - xs.length|_=>0)<(match H' lf with|some (HO.lst xs)=>n - xs.length|_=>0)
          rw[aJ,hl];show n -(xs.map V.int++[V.int (fg k')]).length<n -(xs.map V.int).length;rw[bz,b8];show n -(xs.length+1)<_;omega
      · have hk0:k=0:=by omega
        subst hk0;refine⟨_,rfl,_,rfl,rfl,lf,_,rfl,hl,λl2 AF=> ?_⟩;rw[B22,←List.map_reverse,hx,List.drop_zero];have u2:=aY (o:=.lst (((iq n).map fg).map V.int)) AF;refine⟨l2,_,rfl,.inl ⟨A2.of aJ,λt ht=> ?_⟩⟩;have u3:=aY (o:=.tup (((iq n).map fg).map V.int)) ht;have sA:=(hs.trans u2).trans u3;exact q t _ ((hs.trans u2).free ht) sA aJ
    · obtain⟨v,e1,p,ys,e2,e3,v',e4,p',ys',e5,e6,i,j,e7,e8,c,e9,h⟩:=hc
      exact⟨v,e1,p,ys,e2,e3,v',e4,p',ys',e5,e6,i,j,e7,e8,c,e9,hi _ _ h⟩
noncomputable def Sb (l:gy)(H H':Hp):Prop:=∀b u,b≠l->H b=some u->H' b=some u
theorem wL:mq "min" =some (.builtin "min"):=by decide +kernel
noncomputable def WyA (H:Hp)(v:V)(x:Wy.W):Prop:=∃a b,v= .ref a/\H a=some (.tup [.int x.1,.ref b])/\H b=some (.tup [.int x.2.1,.int x.2.2])
noncomputable def WaysK (H:Hp)(kvs:List (Key×V))(M:List (Int×Wy.W)):Prop:=Paired (λkv m=>kv.1=ie m.1/\WyA H kv.2 m.2) kvs M
noncomputable def LdA (H:Hp)(l:gy)(xs:List (Int×Int)):Prop:=∃ls:List gy,H l=some (.lst (ls.map V.ref))/\Paired (λa x=>H a=some (.tup [.int x.1,.int x.2])) ls xs
theorem WyA.ext {H H':Hp}{v:V}{x:Wy.W}(h:WyA H v x)(e:∀b ys,H b=some (.tup ys)->H' b=some (.tup ys)):WyA H' v x:=let ⟨a,b,h1,h2,h3⟩:=h;⟨a,b,h1,e _ _ h2,e _ _ h3⟩
theorem WaysK.ext {H H':Hp}{kvs:List (Key×V)}{M:List (Int×Wy.W)}(h:WaysK H kvs M)(e:∀b ys,H b=some (.tup ys)->H' b=some (.tup ys)):WaysK H' kvs M:=Paired.mapP h λ_ _ z=> ⟨z.1,z.2.ext e⟩
theorem WaysK.val {H:Hp}{kvs:List (Key×V)}{M:List (Int×Wy.W)}(h:WaysK H kvs M)(k:Int):(Wy.look M k=none->cE kvs (ie k)=none)/\∀x,Wy.look M k=some x->∃v,cE kvs (ie k)=some v/\WyA H v x:=by
 induction h with
 |nil=>exact⟨λ_=>rfl,λx e=>(by cases e)⟩
 | @cons kv m kvs M r t ih=>
  rw[Wy.look_cons];by_cases z:m.1=k
  ·rw[if_pos z];exact⟨λe=>(by cases e),λx e=> ⟨kv.2,lE (by rw[r.1,z]),ig e▸r.2⟩⟩
  ·rw[if_neg z,mB (by rw[r.1];exact λy=>z (k9 y))];exact ih
theorem WaysK.put {H:Hp}{kvs:List (Key×V)}{M:List (Int×Wy.W)}{v:V}{x:Wy.W}(h:WaysK H kvs M)(k:Int)(hv:WyA H v x):WaysK H (cF kvs (ie k) v) (Wy.put M k x):=by
 have ea:(kvs.any λkv=>decide (kv.1=ie k))=M.any λe=>decide (e.1=k):=by
  clear hv
  induction h with
  |nil=>rfl
  | @cons kv m kvs M r t ih=>
   rw[ag,ag,ih,r.1]
   congr 1
   exact decide_eq_decide.mpr ⟨λz=>k9 z,λz=>by rw[z]⟩
 unfold cF Wy.put;rw[ea]
 split
 ·clear ea;rename_i hh;clear hh
  induction h with
  |nil=>exact .nil
  | @cons kv m kvs M r t ih=>
   rw[cz,cz];refine .cons ?_ ih;by_cases z:m.1=k
   ·rw[if_pos z,if_pos (by rw[r.1,z])];exact⟨r.1,hv⟩
   ·rw[if_neg z,if_neg (by rw[r.1];exact λy=>z (k9 y))];exact r
 ·exact Paired.snoc h ⟨rfl,hv⟩
theorem A46 {M:List (Int×Wy.W)}(nd:(M.map (·.1)).Nodup)(hk:∀k∈M.map (·.1),0<=k/\k<2*1048576):M.length<=2097152:=by
 have:=fS (ys:=(iq 2097152).map λn:Nat=>(n:Int)) nd λk h=>by
  obtain⟨h0,h1⟩:=hk k h;obtain⟨n,rfl⟩:=ja h0;exact dv.mpr ⟨n,d5.mpr (by omega),rfl⟩
 rwa [b8,b8,cb]at this
noncomputable def mJ (xs:List Int):Prop:=∀k∈xs,0<=k/\k<1048576
noncomputable def pT:Sp:=λvs H Q _=> ∃d h l kvs M lands,vs=[.ref d,.int h,.ref l]/\H d=some (.dK kvs)/\WaysK H kvs M/\(M.map (·.1)).Nodup/\mJ (M.map (·.1))/\LdA H l lands/\mJ (lands.map (·.1))/\(0<=h/\h<4)/\∀d' kvs' H',H d'=none->Sb d H H'->H' d'=some (.dK kvs')->WaysK H' kvs' (Wy.more h M lands)->Q (.ref d') H'
noncomputable abbrev nMo:List Str:=["ways","holder","lands","led_on","dealt","many","cost","number","marks","more","way","others","least"]
theorem scMo:iJ nMo ["ways","holder","lands"] (bH mI):=by ac_rfl
noncomputable abbrev XMo (P:il)(w:i6)(K:W.Frag)(mg:Str->Option gw)(base:iw)(f:gy)(cdv:gw)(A:kb)(outer:List Env)(s:h7)(H0:Hp)(E:XK):Cx:=(fC CX0 P w K mg base nMo "with_one_more" (bH mI) f cdv A outer s H0 E).nox
noncomputable abbrev bMo:List je:=iU ((dN mI).getD 1 (.Pass ⟨0,0,0,0⟩))
noncomputable abbrev bMi:List je:=iU (bMo.getD 1 (.Pass ⟨0,0,0,0⟩))
section
variable {f:gy}{cdv:gw}{A:kb}{outer:List Env}{s:h7}{H0:Hp}{E:XK}
theorem A6n (T:TxW mg)(hr:Room 1 (XMo P w K mg base f cdv A outer s H0 E).A):∃tt,A0 (XMo P w K mg base f cdv A outer s H0 E) bMi tt/\
    ∀(D:eA)(o0 o2 o10 o11 o12:Option V)(dl:gy)(h:Int)(e:Int×Wy.W)(l:Int×Int)(kvs:List (Key×V))(acc:List (Int×Wy.W))(H:Hp),H dl=some (.dK kvs)->WaysK H kvs acc->acc.length<=2097152->(0<=h/\h<4)->
      (∀o10' o11' o12' kvs' H',Sb dl H H'->H' dl=some (.dK kvs')->WaysK H' kvs' (Wy.step1 h e acc l)->D.nx [o0,some (.int h),o2,some (.ref dl),some (.int e.1),some (.int e.2.1),some (.int e.2.2.1),some (.int e.2.2.2),some (.int l.1),some (.int l.2),o10',o11',o12'] H')->
      tt D [o0,some (.int h),o2,some (.ref dl),some (.int e.1),some (.int e.2.1),some (.int e.2.2.1),some (.int e.2.2.2),some (.int l.1),some (.int l.2),o10,o11,o12] H:=by
  have nd:=scMo.nd;have hu:=dX hr;refine⟨_,bB (bS (cI gB (bI A5e (pv 4) (pv 8)) aV (nomark _))
    (aU (bP (i:=10) nd rfl (jr rfl) (cL (eM (bI dG (pv 6) (pv 9)) (eM (bI dG (pv 7) (bI eE (pv 1) (pv 8))) aB))))<|
     aU (cK (B0f (gj hu) (pv 3) (bI dG (pv 4) (pv 8)) (cL (cO aV (aG (pv 10) aB))) ⟨rfl,rfl,rfl,rfl⟩) (bN rfl (bC (A4 11 nd) (bC (A4 12 nd) bO))))<|
     bB (A1w (gj hu) (pv 3) (bI dG (pv 4) (pv 8)) (cL (eM (bI dG (pv 11) (pv 5)) (bQ (bJ (A51 rfl (gj hu)) rfl T.min wL (aG (pv 12) (aG (pv 10) aB))) aB))) rfl)) bT),?_⟩
  intro D o0 o2 o10 o11 o12 dl h e l kvs acc H hd hW hal hh k;refine⟨_,rfl,_,rfl,_,_,rfl,rfl,rfl,_,rfl,?_⟩;refine eZ (λhb=> ?_) λhb=> ?_
  · have hb:jg e.1 l.1=0:=V.int.inj hb
    refine⟨_,rfl,_,rfl,_,_,rfl,rfl,_,rfl,_,rfl,_,rfl,_,_,rfl,rfl,(.inl (by omega)),_,_,rfl,rfl,by show 2<=gz;decide,λpw hpw=> ?_⟩;have u1:=aY (o:=.tup [.int (e.2.2.1+l.2),.int (e.2.2.2+h*l.1)]) hpw;have ew:(upd H pw (.tup [.int (e.2.2.1+l.2),.int (e.2.2.2+h*l.1)])) pw=some (.tup [.int (e.2.2.1+l.2),.int (e.2.2.2+h*l.1)]):=aJ;generalize hH1:upd H pw (.tup [.int (e.2.2.1+l.2),.int (e.2.2.2+h*l.1)])=H1 at u1 ew⊢;have hd1:=u1 _ _ hd;have hW1:=hW.ext (λb ys z=>u1 _ _ z);refine⟨_,rfl,dl,rfl,.inl ⟨_,.inl hd1⟩,_,rfl,_,rfl,_,_,rfl,rfl,_,rfl,by show 2<=gz;decide,λpz hpz=> ?_⟩;have u2:=aY (o:=.tup [.int 0,.ref pw]) hpz;have ez:(upd H1 pz (.tup [.int 0,.ref pw])) pz=some (.tup [.int 0,.ref pw]):=aJ;generalize hH2:upd H1 pz (.tup [.int 0,.ref pw])=H2 at u2 ez⊢;have hd2:=u2 _ _ hd1;have ew2:=u2 _ _ ew;have hW2:=hW1.ext (λb ys z=>u2 _ _ z);refine⟨_,DGet.k (k:=ie (e.1+l.1)) hd2,?_⟩;obtain⟨v,pl,oth,lst,ev,e1,e2,eg⟩:∃v pl oth lst,(cE kvs (ie (e.1+l.1))).getD (.ref pz)= .ref v/\H2 v=some (.tup [.int oth,.ref pl])/\H2 pl=some (.tup [.int (lst:Int×Int).1,.int lst.2])/\(Wy.look acc (e.1+l.1)).getD (0,(e.2.2.1+l.2,e.2.2.2+h*l.1))=(oth,lst):=by
      obtain⟨w1,w2⟩:=hW2.val (e.1+l.1);cases hl:Wy.look acc (e.1+l.1)with
      |none=>rw[w1 hl];exact⟨pz,pw,0,(e.2.2.1+l.2,e.2.2.2+h*l.1),rfl,ez,ew2,rfl⟩
      |some x=>
        obtain⟨v,h1,a,b,rfl,h2,h3⟩:=w2 x hl;rw[h1];exact⟨a,b,x.1,x.2,rfl,h2,h3,rfl⟩
    rw[ev];refine⟨v,_,rfl,A3.of e1,rfl,_,_,rfl,_,_,rfl,rfl,?_⟩;refine⟨_,rfl,_,rfl,_,_,rfl,rfl,_,rfl,_,rfl,pl,pw,[lst.1,lst.2],[e.2.2.1+l.2,e.2.2.2+h*l.1],rfl,e2,ew2,by show 2<=gz;decide,λpn hpn=> ?_⟩;generalize hn:(if HT.lexLt [e.2.2.1+l.2,e.2.2.2+h*l.1] [lst.1,lst.2]=true then pw else pl)=pm at hpn⊢;have u3:=aY (o:=.tup [.int (oth+e.2.1),.ref pm]) hpn;have en:(upd H2 pn (.tup [.int (oth+e.2.1),.ref pm])) pn=some (.tup [.int (oth+e.2.1),.ref pm]):=aJ;generalize hH3:upd H2 pn (.tup [.int (oth+e.2.1),.ref pm])=H3 at u3 en⊢;have hd3:=u3 _ _ hd2;have hW3:=hW2.ext (λb ys z=>u3 _ _ z);have hm:H3 pm=some (.tup [.int (Wy.mn2 lst (e.2.2.1+l.2,e.2.2.2+h*l.1)).1,.int (Wy.mn2 lst (e.2.2.1+l.2,e.2.2.2+h*l.1)).2]):=by
      rw[←hn];unfold Wy.mn2 Wy.lt2
      split
      · exact u3 _ _ ew2
      · exact u3 _ _ e2
    have hkl:kvs.length=acc.length:=Paired.length hW;refine⟨_,rfl,_,rfl,_,rfl,_,_,rfl,rfl,dl,_,rfl,DPut.k (k:=ie (e.1+l.1)) hd3 (by rw[jh];omega),?_⟩;have s3:=(u1.trans u2).trans u3;have tp:∀b ys,H3 b=some (.tup ys)->(upd H3 dl (.dK (cF kvs (ie (e.1+l.1)) (.ref pn)))) b=some (.tup ys):=λb ys z=>by rw[bA (λy=>by rw[y,hd3]at z;cases z)];exact z
    refine k _ _ _ _ _ (λb u n z=>by rw[bA n];exact s3 _ _ z) aJ ?_;have hp:=(hW3.put (e.1+l.1) (v:=.ref pn) (x:=(oth+e.2.1,Wy.mn2 lst (e.2.2.1+l.2,e.2.2.2+h*l.1))) ⟨pn,pm,rfl,en,hm⟩).ext tp;unfold Wy.step1;rw[if_pos hb,eg];exact hp
  · have hb:¬jg e.1 l.1=0:=λz=>hb (by show V.int (jg e.1 l.1)=V.int 0;rw[z])
    refine k _ _ _ kvs H (λ_ _ _ z=>z) hd ?_;unfold Wy.step1;rw[if_neg hb];exact hW
theorem A9u (T:TxW mg)(hr:Room 1 (XMo P w K mg base f cdv A outer s H0 E).A):∃tt,A0 (XMo P w K mg base f cdv A outer s H0 E) bMo tt/\
  ∀(D:eA)(o5 o6 o7 o8 o9 o10 o11 o12:Option V)(d dl ll:gy)(h:Int)(e:Int×Wy.W)(lands:List (Int×Int))(o:Obj)(kws:List (Key×V))(M:List (Int×Wy.W))(kvs:List (Key×V))(acc:List (Int×Wy.W))(H:Hp),H d=some (.frz o (.dK kws))->WaysK H kws M->Wy.look M e.1=some e.2->dl≠d->dl≠ll->H dl=some (.dK kvs)->WaysK H kvs acc->(acc.map (·.1)).Nodup->(∀k∈acc.map (·.1),0<=k/\k<2*1048576)->(0<=e.1/\e.1<1048576)->LdA H ll lands->mJ (lands.map (·.1))->(0<=h/\h<4)->
   (∀o5' o6' o7' o8' o9' o10' o11' o12' kvs' H',Sb dl H H'->H' dl=some (.dK kvs')->WaysK H' kvs' (Wy.more1 h lands acc e)->((Wy.more1 h lands acc e).map (·.1)).Nodup->(∀k∈(Wy.more1 h lands acc e).map (·.1),0<=k/\k<2*1048576)->D.nx [some (.ref d),some (.int h),some (.ref ll),some (.ref dl),some (.int e.1),o5',o6',o7',o8',o9',o10',o11',o12'] H')->
   tt D [some (.ref d),some (.int h),some (.ref ll),some (.ref dl),some (.int e.1),o5,o6,o7,o8,o9,o10,o11,o12] H:=by
 have nd:=scMo.nd;have hu:=dX hr;obtain⟨tb,hb,rb⟩:=A6n (P:=P) (w:=w) (K:=K) (mg:=mg) (base:=base) (f:=f) (cdv:=cdv) (A:=A) (outer:=outer) (s:=s) (H0:=H0) (E:=E) T hr;refine⟨_,aU (cK (lR (gj hu) (pv 0) (pv 4) (λ_ _=>rfl)) (bN rfl (bC (A4 5 nd) (bC (bN rfl (bC (A4 6 nd) (bC (A4 7 nd) bO))) bO))))<|
  bB (fZ jk rfl (dH (pv 2)) (bN rfl (bC (A4 8 nd) (bC (A4 9 nd) bO))) hb),?_⟩
 intro D o5 o6 o7 o8 o9 o10 o11 o12 d dl ll h e lands o kws M kvs acc H hfz hWM hlk ndl nll hdl hW hnd hks he ⟨ls,ell,hL⟩ hsm hh k;obtain⟨v,ev,a,b,rfl,ea,eb⟩:=(hWM.val e.1).2 _ hlk;have dg:DGet H d (.int e.1) (some (.ref a)):=.inl ⟨kws,ie e.1,.inr ⟨o,hfz⟩,rfl,ev.symm⟩;refine⟨_,rfl,_,rfl,d,_,rfl,dg,a,_,rfl,A3.of ea,rfl,_,_,rfl,_,_,rfl,b,_,rfl,A3.of eb,rfl,_,_,rfl,_,_,rfl,rfl,rfl,?_⟩;have hll:ls.length=lands.length:=Paired.length hL;refine⟨_,rfl,ll,rfl,⟨_,A2.of ell⟩,?_⟩;refine eW (K:=K) (a:=ll) (xs:=ls.map V.ref) (λj σ H'=>(∃o8 o9 o10 o11 o12,σ=[some (.ref d),some (.int h),some (.ref ll),some (.ref dl),some (.int e.1),some (.int e.2.1),some (.int e.2.2.1),some (.int e.2.2.2),o8,o9,o10,o11,o12])/\Sb dl H H'/\∃kv2,H' dl=some (.dK kv2)/\WaysK H' kv2 ((lands.take j).foldl (Wy.step1 h e) acc)/\(((lands.take j).foldl (Wy.step1 h e) acc).map (·.1)).Nodup/\∀k∈((lands.take j).foldl (Wy.step1 h e) acc).map (·.1),0<=k/\k<2*1048576)
  ⟨⟨_,_,_,_,_,rfl⟩,λ_ _ _ z=>z,kvs,hdl,hW,hnd,hks⟩ (λj σ H' _ h=>A2.of (h.2.1 _ _ (k6 nll) ell)) ?_ ?_
 ·rintro j x σ H' hx ⟨⟨o8,o9,o10,o11,o12,rfl⟩,hs,kv2,ed,hW2,n2,k2⟩;obtain⟨q,hq,rfl⟩:=eY hx;obtain⟨l,hl,el⟩:=fM hL hq;have hlm:=hsm l.1 (dv.mpr ⟨l,d3 hl,rfl⟩);have nq:q≠dl:=λz=>by rw[z,hdl]at el;cases el
  have et:(lands.take (j+1)).foldl (Wy.step1 h e) acc=Wy.step1 h e ((lands.take j).foldl (Wy.step1 h e) acc) l:=by rw[fq,hl,bj];rfl
  obtain⟨n3,k3⟩:=Wy.step1_keys (B:=1048576) (h:=h) n2 k2 he hlm;refine⟨q,_,rfl,A3.of (hs _ _ nq el),rfl,_,_,rfl,_,_,rfl,rfl,?_⟩;refine rb _ _ _ _ _ _ dl h e l kv2 _ H' ed hW2 (A46 n2 k2) hh λo10' o11' o12' kv3 H2 s2 e2 hW3=> ?_;refine⟨⟨_,_,_,_,_,rfl⟩,λb u n z=>s2 b u n (hs b u n z),kv3,e2,?_⟩;rw[et];exact⟨hW3,n3,k3⟩
 ·rintro σ H' ⟨⟨o8,o9,o10,o11,o12,rfl⟩,hs,kv2,ed,hW2,n2,k2⟩;rw[b8,hll,fo (AY _)]at hW2 n2 k2;exact k _ _ _ _ _ _ _ _ kv2 H' hs ed hW2 n2 k2
theorem B0p (F:D1 K mg "with_one_more" mI ["ways","holder","lands"])(T:TxW mg):A1 P w K mg base 2 "with_one_more" pT:=by
 refine F.k nMo ?_;ac_nf
 ·obtain⟨d,h,ll,kws,M,lands,rfl,hd,hWM,ndM,hsM,hL,hsm,hh,q⟩:=h;obtain⟨tb,hb,rb⟩:=A9u (P:=P) (w:=w) (K:=K) (mg:=mg) (base:=base) (f:=f) (cdv:=cdv) (A:=A) (outer:=outer) (s:=s) (H0:=H) (E:=E) T hr;refine⟨_,aU (bP (i:=3) nd rfl (jr rfl) A6q)<|
   aU (fZ jk rfl (rA (pv 0)) (A4 4 nd) hb)<|
   bB (bF (pv 3)),?_⟩
  intro dl hdl;have u1:=aY (o:=.dK []) hdl;have ndl:dl≠d:=λz=>by rw[z,hd]at hdl;cases hdl
  refine⟨_,rfl,d,kws,rfl,u1 _ _ hd,λo=> ?_⟩;have edl:(upd (upd H dl (.dK [])) d (.frz o (.dK kws))) dl=some (.dK []):=by rw[bA ndl];exact aJ
  have efz:(upd (upd H dl (.dK [])) d (.frz o (.dK kws))) d=some (.frz o (.dK kws)):=aJ;have s1:Sb d H (upd (upd H dl (.dK [])) d (.frz o (.dK kws))):=λb u n z=>by rw[bA n];exact u1 _ _ z
  generalize upd (upd H dl (.dK [])) d (.frz o (.dK kws))=H1 at edl efz s1⊢;have tp:∀{H2:Hp},Sb dl H1 H2->∀b ys,H b=some (.tup ys)->H2 b=some (.tup ys):=λs2 b ys z=>s2 _ _ (λy=>by rw[y,hdl]at z;cases z) (s1 _ _ (λy=>by rw[y,hd]at z;cases z) z);have hkl:kws.length=M.length:=Paired.length hWM;refine pG (d:=d) (o:=o) (kvs:=kws) (λj σ H'=>(∃o4 o5 o6 o7 o8 o9 o10 o11 o12,σ=[some (.ref d),some (.int h),some (.ref ll),some (.ref dl),o4,o5,o6,o7,o8,o9,o10,o11,o12])/\Sb dl H1 H'/\∃kv2,H' dl=some (.dK kv2)/\WaysK H' kv2 ((M.take j).foldl (Wy.more1 h lands) [])/\(((M.take j).foldl (Wy.more1 h lands) []).map (·.1)).Nodup/\∀k∈((M.take j).foldl (Wy.more1 h lands) []).map (·.1),0<=k/\k<2*1048576)
   ⟨⟨_,_,_,_,_,_,_,_,_,rfl⟩,λ_ _ _ z=>z,[],edl,.nil,fb,λk z=>(by cases z)⟩ (λj σ H' h=>h.2.1 _ _ (k6 ndl) efz) ?_ ?_
  ·rintro j kk x σ H' hx ⟨⟨o4,o5,o6,o7,o8,o9,o10,o11,o12,rfl⟩,hs,kv2,ed,hW2,n2,k2⟩;obtain⟨e,he,hkk,_⟩:=fM hWM hx;have hem:=d3 he;have hkk:kk=ie e.1:=hkk;subst hkk;obtain⟨ls,ell,hLs⟩:=id hL;have nll:dl≠ll:=λz=>by rw[←z,hdl]at ell;cases ell
   have nld:ll≠d:=λz=>by rw[z,hd]at ell;cases ell
   have et:(M.take (j+1)).foldl (Wy.more1 h lands) []=Wy.more1 h lands ((M.take j).foldl (Wy.more1 h lands) []) e:=by rw[fq,he,bj];rfl
   refine rb _ _ _ _ _ _ _ _ _ d dl ll h e lands o kws M kv2 _ H' (hs _ _ (k6 ndl) efz) (hWM.ext (tp hs)) (Wy.mem_look ndM hem) ndl nll ed hW2 n2 k2 (hsM e.1 (dv.mpr ⟨e,hem,rfl⟩)) ⟨ls,hs _ _ (k6 nll) (s1 _ _ nld ell),Paired.mapP hLs λ_ _ z=>tp hs _ _ z⟩ hsm hh λo5' o6' o7' o8' o9' o10' o11' o12' kv3 H2 s2 e2 hW3 n3 k3=> ?_;refine⟨⟨_,_,_,_,_,_,_,_,_,rfl⟩,λb u n z=>s2 b u n (hs b u n z),kv3,e2,?_⟩;rw[et];exact⟨hW3,n3,k3⟩
  ·rintro σ H' ⟨⟨o4,o5,o6,o7,o8,o9,o10,o11,o12,rfl⟩,hs,kv2,ed,hW2,n2,k2⟩;rw[hkl,fo (AY _)]at hW2;refine⟨_,rfl,q dl kv2 H' hdl (λb u n z=>hs _ _ (λy=>by rw[y,hdl]at z;cases z) (s1 _ _ n z)) ed hW2⟩
end
noncomputable def djB (L:List Pl)(q:List (List Pl)):Bool:=L.all λc=> !decide (c∈q.flatten)
noncomputable def jE (Ls:List (List Pl))(cs:List (List (List Pl))):List (List (List Pl)):=Ls.flatMap λL=>(cs.filter (djB L)).map (· ++[L])
theorem wZ {Ls:List (List Pl)}{cs:List (List (List Pl))}{q:List (List Pl)}(h:q∈jE Ls cs):∃q0 L,q=q0++[L]/\q0∈cs/\L∈Ls/\djB L q0=true:=by obtain⟨L,hL,hq⟩:=dm.mp h;obtain⟨q0,h0,rfl⟩:=dv.mp hq;exact⟨q0,L,rfl,(dj.mp h0).1,hL,(dj.mp h0).2⟩
theorem xK:∀{Ls:List (List Pl)}{cs:List (List (List Pl))},Ls.Nodup->cs.Nodup->(jE Ls cs).Nodup
 | [],cs,_,_=>fb
 |L::Ls,cs,h1,h2=>by
  rw[d9]at h1;have ih:=xK h1.2 h2;have e:jE (L::Ls) cs=(cs.filter (djB L)).map (· ++[L])++jE Ls cs:=rfl;rw[e,d8];refine⟨?_,ih,λa ha b hb e=> ?_⟩
  ·rw[ee,fh];exact(ee.mp (h2.sublist a8)).imp fun{a b} z e=>z (List.append_cancel_right e)
  ·obtain⟨q0,_,rfl⟩:=dv.mp ha;obtain⟨q1,L1,rfl,_,hL,_⟩:=wZ hb;have:=List.append_inj_right' e (by rfl);injection this with this _
   exact h1.1 (this▸hL)
structure Ln (Lfs:List (List (List Pl)))(q:List (List Pl)):Prop where
 p:Paired (λL Ls=>L∈Ls) q Lfs
 nd:q.flatten.Nodup
noncomputable def cV (Lfs:List (List (List Pl))):List (List (List Pl)):=Lfs.foldl (λcs Ls=>jE Ls cs) [[]]
theorem mX (Lfs:List (List (List Pl)))(Ls:List (List Pl)):cV (Lfs++[Ls])=jE Ls (cV Lfs):=by unfold cV;rw[bj];rfl
theorem pS:∀(n:Nat){Lfs:List (List (List Pl))},Lfs.length=n->(∀Ls∈Lfs,∀L∈Ls,L.Nodup)->∀q∈cV Lfs,Ln Lfs q
 |0,Lfs,h,_,q,hq=>by
  have:Lfs=[]:=kh h;subst this;rw[d6.mp hq];exact⟨.nil,fb⟩
 |n+1,Lfs,h,hn,q,hq=>by
  rcases qr Lfs with e| ⟨Ms,Ls,e⟩
  ·rw[e]at h;cases h
  ·rw[qt]at e;subst e;rw[bz,cj]at h;rw[mX]at hq;obtain⟨q0,L,rfl,h0,hL,hd⟩:=wZ hq;have ih:=pS n (Lfs:=Ms) (by omega) (λLs h=>hn Ls (de _ h)) q0 h0;refine⟨Paired.snoc ih.p hL,?_⟩;rw[uc,d8];refine⟨ih.nd,?_,λa ha b hb e=> ?_⟩
   ·rw[qk];exact hn Ls (dh _ AX) L hL
   ·rw[qk]at hb;have:=ae.mp hd b hb;rw[←e]at this;simp[ha]at this
theorem A0t:∀(n:Nat){Lfs:List (List (List Pl))},Lfs.length=n->(∀Ls∈Lfs,Ls.Nodup)->(cV Lfs).Nodup
 |0,Lfs,h,_=>by
  have:Lfs=[]:=kh h;subst this;exact d9.mpr ⟨by simp,fb⟩
 |n+1,Lfs,h,hn=>by
  rcases qr Lfs with e| ⟨Ms,Ls,e⟩
  ·rw[e]at h;cases h
  ·rw[qt]at e;subst e;rw[bz,cj]at h;rw[mX];exact xK (hn Ls (dh _ AX)) (A0t n (by omega) λLs h=>hn Ls (de _ h))
noncomputable abbrev kp (c:Pl):List Key:=[ie c.1,ie c.2]
noncomputable def ents (hs:List Int)(q:List (List Pl)):List (List Key×V):=(hs.zip q).flatMap λz=>z.2.map λc=>(kp c,V.int z.1)
noncomputable def own (hs:List Int)(q:List (List Pl))(c:Pl):Option Int:=((hs.zip q).find? λz=>decide (c∈z.2)).map (·.1)
theorem wX {c d:Pl}(h:kp c=kp d):c=d:=by injection h with h1 h2;injection h2 with h2 _;exact rm (k9 h1) (k9 h2)
theorem A6p {l m:List (List Key×V)}(k:List Key):cE (l++m) k=(cE l k).or (cE m k):=by unfold cE;rw[List.find?_append];cases l.find? λkv=>decide (kv.1=k)<;>rfl
theorem B4b {L:List Pl}{h:Int}{c:Pl}:cE (L.map λc=>(kp c,V.int h)) (kp c)=if c∈L then some (.int h)else none:=by
 induction L with
 |nil=>rfl
 |cons d L ih=>
  rw[cz];by_cases e:d=c
  ·rw[lE (by rw[e]),if_pos (by rw[e];exact AX)]
  ·rw[mB (λz=>e (wX z)),ih];by_cases hc:c∈L
   ·rw[if_pos hc,if_pos (AW _ hc)]
   ·rw[if_neg hc,if_neg (λz=>(di.mp z).elim (λz=>e z.symm) hc)]
theorem yG:∀(hs:List Int)(q:List (List Pl))(c:Pl),cE (ents hs q) (kp c)=(own hs q c).map V.int
 | [],q,c=>by simp[ents,own,cE]
 |h::hs,[],c=>by simp[ents,own,cE]
 |h::hs,L::q,c=>by
  have ih:=yG hs q c;have e:ents (h::hs) (L::q)=(L.map λc=>(kp c,V.int h))++ents hs q:=rfl;rw[e,A6p,B4b,ih];unfold own;rw[ft];by_cases hc:c∈L
  ·rw[if_pos hc,bb (by simpa using hc)];rfl
  ·rw[if_neg hc,ba (by simpa using hc)];rfl
theorem wC:∀(hs:List Int)(q:List (List Pl)),hs.length=q.length->(ents hs q).map (·.1)=q.flatten.map kp
 | [],[],_=>rfl
 | [],_::_,h=>by cases h
 |_::_,[],h=>by cases h
 |h::hs,L::q,hl=>by
  have ih:=wC hs q (by simpa using hl);have e:ents (h::hs) (L::q)=(L.map λc=>(kp c,V.int h))++ents hs q:=rfl;rw[e,cx,ih,bh,cx,c9];rfl
theorem xW {hs:List Int}{q:List (List Pl)}{c:Pl}(hl:hs.length=q.length):(own hs q c).isSome=decide (c∈q.flatten):=by
 have h1:=congrArg Option.isSome (yG hs q c);rw[wd]at h1;rw[←h1,←oS,iy,ah,decide_eq_true_eq];have hk:=wC hs q hl;constructor
 ·rintro⟨kv,hkv,e⟩;have e:=of_decide_eq_true e;have:kv.1∈(ents hs q).map (·.1):=dv.mpr ⟨kv,hkv,rfl⟩;rw[hk,e]at this;obtain⟨d,hd,ed⟩:=dv.mp this;rw[←wX ed];exact hd
 ·intro hc;have:kp c∈(ents hs q).map (·.1):=by rw[hk];exact dv.mpr ⟨c,hc,rfl⟩
  obtain⟨kv,hkv,e⟩:=dv.mp this;exact⟨kv,hkv,AS e⟩
noncomputable def eT (A:List Pl)(hs:List Int)(q:List (List Pl)):List Int:=A.map λc=>(own hs q c).getD 0
theorem A3i {A L:List Pl}(hA:A.Nodup)(h:L.Sublist A):A.filter (λc=>decide (c∈L))=L:=by
 induction h with
 |slnil=>rfl
 |cons a h ih=>
  rw[d9]at hA;rw[aw (by simpa using λz=>hA.1 (h.subset z))];exact ih hA.2
 |cons_cons a h ih=>
  rename_i L A;rw[d9]at hA;rw[ax (by simp)]
  congr 1
  rw[←ih hA.2];refine av λc hc=> ?_;rw[iy,decide_eq_true_eq,decide_eq_true_eq,ih hA.2];exact⟨λz=>(di.mp z).elim (λe=>absurd hc (e▸hA.1)) id,λz=>AW _ z⟩
theorem sO:∀{hs:List Int}{q:List (List Pl)}{c:Pl},hs.Nodup->q.flatten.Nodup->hs.length=q.length->∀{h:Int}{L:List Pl}{j:Nat},hs[j]?=some h->q[j]?=some L->(own hs q c=some h↔c∈L)
 | [],_,c,_,_,_,h,L,j,e1,_=>by simp at e1
 |h0::hs,[],c,_,_,hl,_,_,_,_,_=>by cases hl
 |h0::hs,L0::q,c,n1,n2,hl,h,L,j,e1,e2=>by
  rw[d9]at n1;rw[bh,d8]at n2;have zl:hs.length=q.length:=by simpa using hl
  unfold own;rw[ft];cases j with
  |zero=>
   cases e1;cases e2;by_cases hc:c∈L0
   ·rw[bb (by simpa using hc)];exact⟨λ_=>hc,λ_=>rfl⟩
   ·rw[ba (by simpa using hc)];refine⟨λz=> ?_,λz=>absurd z hc⟩;have hm:h0∈hs:=by
     cases e:(hs.zip q).find? λz=>decide (c∈z.2)with
     |none=>rw[e]at z;cases z
     |some y=>
      rw[e]at z;have:y.1=h0:=ig z;rw[←this];exact(fe (dz e)).1
    exact absurd hm n1.1
  |succ j=>
   have e1':hs[j]?=some h:=by simpa using e1
   have e2':q[j]?=some L:=by simpa using e2
   have hLq:∀c∈L,c∈q.flatten:=λc hc=>dq.mpr ⟨L,d3 e2',hc⟩;by_cases hc:c∈L0
   ·rw[bb (by simpa using hc)];refine⟨λz=> ?_,λz=>absurd rfl (n2.2.2 c hc c (hLq c z))⟩;have:h0=h:=ig z;exact absurd (d3 e1') (this▸n1.1)
   ·rw[ba (by simpa using hc)];exact sO n1.2 n2.2.1 zl e1' e2'
theorem pR (f:Pl->Int):∀A:List Pl,A.zip (A.map f)=A.map λc=>(c,f c)
 | []=>rfl
 |c::A=>by rw[cz,ft,pR f A];rfl
noncomputable def trip (C:List Pl)(AH:List Pl->Int)(hs:List Int)(q:List (List Pl)):Wy.Tr:=(Wy.mk C q.flatten,((q.map AH).sum,Wy.V4 C λc=>(own hs q c).getD 0))
theorem B1n {hs:List Int}{q:List (List Pl)}(hl:hs.length=q.length)(h:Int)(L:List Pl)(c:Pl):own (hs++[h]) (q++[L]) c=(own hs q c).or (if c∈L then some h else none):=by
 unfold own;rw[zip_append hl,List.find?_append];cases (hs.zip q).find? λz=>decide (c∈z.2)with
 |some y=>rfl
 |none=>
  show Option.map (λx:Int×List Pl=>x.1) ([(h,L)].find? λz=>decide (c∈z.2))=if c∈L then some h else none
  by_cases e:c∈L
  ·rw[bb (by simpa using e),if_pos e];rfl
  ·rw[ba (by simpa using e),if_neg e];rfl
theorem A39 {hs:List Int}{q:List (List Pl)}{c:Pl}(h:c∉q.flatten):own hs q c=none:=by unfold own;rw[bf.mpr λz hz=> ?_];rfl;have:=(fe hz).2;simpa using λy=>h (dq.mpr ⟨z.2,this,y⟩)
theorem A2b {C L:List Pl}{q:List (List Pl)}(hL:∀c∈L,c∈C):djB L q=true↔ ∀c∈C,¬(c∈q.flatten/\c∈L):=by
 unfold djB;rw[ae];constructor
 ·intro h c _ ⟨h1,h2⟩;have:=h c h2;rw[AS h1]at this;cases this
 ·intro h c hc;rw[AU λz=>h c (hL c hc) ⟨z,hc⟩];rfl
theorem B25 {C L:List Pl}{AH:List Pl->Int}{hs:List Int}{q:List (List Pl)}{h:Int}(hl:hs.length=q.length)(hL:∀c∈L,c∈C)(hd:djB L q=true):trip C AH (hs++[h]) (q++[L])=Wy.tr h (Wy.mk C L,AH L) (trip C AH hs q):=by
 have hj:=(A2b hL).mp hd;have e1:Wy.mk C (q++[L]).flatten=Wy.mk C q.flatten+Wy.mk C L:=by
  rw[uc,qk];exact Wy.mk_app hj
 have e2:((q++[L]).map AH).sum=(q.map AH).sum+AH L:=by rw[cx,fk];simp
 have e3:(Wy.V4 C λc=>(own (hs++[h]) (q++[L]) c).getD 0)=(Wy.V4 C λc=>(own hs q c).getD 0)+h*Wy.mk C L:=by
  unfold Wy.mk;rw[←Wy.V4_mul,←Wy.V4_add];refine Wy.V4_congr λc hc=> ?_;rw[B1n hl];unfold Wy.ind;by_cases z:c∈L
  ·rw[A39 λy=>hj c hc ⟨y,z⟩];simp[z]
  ·simp only[z,if_false];cases own hs q c<;>simp
 unfold trip Wy.tr;rw[e1,e2,e3]
structure Lfo (C:List Pl)(Lfs:List (List (List Pl))):Prop where
 sub:∀Ls∈Lfs,∀L∈Ls,L.Sublist C
theorem oQ {C:List Pl}{Lfs:List (List (List Pl))}(hC:C.Nodup)(o:Lfo C Lfs){q:List (List Pl)}(hq:q∈cV Lfs):q.length=Lfs.length/\q.flatten.Nodup/\∀L∈q,L.Sublist C:=by have ln:=pS _ rfl (λLs hLs L hL=>hC.sublist (o.sub Ls hLs L hL)) q hq;refine⟨Paired.length ln.p,ln.nd,λL hL=> ?_⟩;obtain⟨i,hi⟩:=du.mp hL;obtain⟨Ls,hLs,hm⟩:=fM ln.p hi;exact o.sub Ls (d3 hLs) L hm
theorem A3d {C:List Pl}{AH:List Pl->Int}{hs:List Int}{Lfs:List (List (List Pl))}{h:Int}{Ls:List (List Pl)}{M:List (Int×Wy.W)}(hC:C.Nodup)(o:Lfo C (Lfs++[Ls]))(hl:hs.length=Lfs.length)(r:Wy.Rep M ((cV Lfs).map (trip C AH hs))):Wy.Rep (Wy.more h M (Ls.map λL=>(Wy.mk C L,AH L))) ((cV (Lfs++[Ls])).map (trip C AH (hs++[h]))):=by
 have o1:Lfo C Lfs:=⟨λLs h=>o.sub Ls (de _ h)⟩;have hLs:=o.sub Ls (dh _ AX);have:=Wy.rep_more (h:=h) (lands:=Ls.map λL=>(Wy.mk C L,AH L)) r;have e:((Ls.map λL=>(Wy.mk C L,AH L)).flatMap λl=>(((cV Lfs).map (trip C AH hs)).filter λt=>decide (jg t.1 l.1=0)).map (Wy.tr h l))=(cV (Lfs++[Ls])).map (trip C AH (hs++[h])):=by
  rw[mX];unfold jE;rw[List.flatMap_map,List.map_flatMap];have cg:∀(F G:List Pl->List Wy.Tr)(l:List (List Pl)),(∀x∈l,F x=G x)->l.flatMap F=l.flatMap G:=by
   intro F G l
   induction l with
   |nil=>intro _;rfl
   |cons x l ihl=>intro hx;rw[bg,bg,hx x AX,ihl λy hy=>hx y (AW _ hy)]
  refine cg _ _ Ls λL hL=> ?_;have hLC:=(hLs L hL).subset;rw[az,c9,c9];have ef:(cV Lfs).filter ((λt:Wy.Tr=>decide (jg t.1 (Wy.mk C L)=0))∘trip C AH hs)=(cV Lfs).filter (djB L):=by
   refine av λq _=> ?_;rw[iy];show decide (jg (Wy.mk C q.flatten) (Wy.mk C L)=0)=true↔_;rw[decide_eq_true_eq,Wy.mk_and,A2b λc hc=>hLC hc]
  show((cV Lfs).filter ((λt:Wy.Tr=>decide (jg t.1 (Wy.mk C L)=0))∘trip C AH hs)).map _=_;rw[ef];refine cy λq hq=> ?_;obtain⟨hq1,hq2⟩:=dj.mp hq;exact(B25 (hl.trans (oQ hC o1 hq1).1.symm) (λc hc=>hLC hc) hq2).symm
 rw[e]at this;exact this
theorem A6r (C:List Pl)(AH:List Pl->Int):Wy.Rep [(0,(1,(0,0)))] ((cV []).map (trip C AH [])):=by
 have z:∀C:List Pl,(Wy.V4 C λ_=>0)=0:=by
  refine Wy.snoc_ind rfl λC c ih=> ?_;rw[Wy.V4_snoc,ih];rfl
 have e:(cV []).map (trip C AH [])=[(0,(0,0))]:=by
  show [trip C AH [] []]=_;unfold trip Wy.mk;have e1:Wy.V4 C (Wy.ind ([]:List (List Pl)).flatten)=0:=(Wy.V4_congr λc _=>by unfold Wy.ind;simp).trans (z C);rw[e1];show [((0:Int),((0:Int),Wy.V4 C λc=>(own [] [] c).getD 0))]=_;rw[show(Wy.V4 C λc=>(own [] [] c).getD 0)=0 from z C]
 rw[e];refine⟨d9.mpr ⟨by simp,fb⟩,λk hk t ht=> ?_,λk m cn hk=> ?_⟩
 ·rw[d6.mp ht];intro y;rw[Wy.look_cons,if_pos y]at hk;cases hk
 ·rw[Wy.look_cons]at hk;by_cases y:(0:Int)=k
  ·rw[if_pos y]at hk;have hk:=ig hk;have h1:=congrArg vd hk;have h2:=congrArg Prod.snd hk;simp only at h1 h2;subst y;rw[←h1,←h2];exact⟨rfl,AX,λt ht _=>by rw[d6.mp ht];exact Wy.le2_refl _⟩
  ·rw[if_neg y]at hk;cases hk
theorem A7z {C:List Pl}{AH:List Pl->Int}{hs:List Int}{CS:List (List (List Pl))}{M:List (Int×Wy.W)}(h10:C.length<=10)(r:Wy.Rep M (CS.map (trip C AH hs))):mJ (M.map (·.1)):=λk hk=>by
 cases e:Wy.look M k with
 |none=>exact absurd hk (Wy.look_none.mp e)
 |some x=>
  obtain⟨_,h2,_⟩:=r.yes k x.1 x.2 e;obtain⟨q,_,hq⟩:=dv.mp h2;have:k=Wy.mk C q.flatten:=(congrArg vd hq).symm;rw[this];have h1:=Wy.mk_ran C q.flatten;have:=qY h10;omega
noncomputable def fB (C:List Pl)(Lfs:List (List (List Pl))):List (List (List Pl)):=(cV Lfs).filter λq=>decide (q.flatten.length=C.length)
noncomputable def eQ (AH:List Pl->Int)(q:List (List Pl)):Int:=(q.map AH).sum
structure B1i (P:il)(w:i6)(H:Hp)(lc df dc:gy)(C:List Pl)(hs:List Int)(Fh:Int->List (List Pl))(AH:List Pl->Int):Prop where
 c:∃pc:List gy,H lc=some (.lst (pc.map V.ref))/\PlAt H pc C
 nd:C.Nodup
 l:C.length<=10
 f:FitD H df hs Fh
 n:hs.Nodup
 h:∀i∈hs,0<=i/\i<4
 o:Lfo C (hs.map Fh)
 z:∀i∈hs,(Fh i).length<=1024
 k:CostA P w H dc AH
noncomputable def tT (P:il)(w:i6):Sp:=λvs H Q _=> ∃lc df dc C hs Fh AH,vs=[.ref lc,.ref df,.ref dc]/\B1i P w H lc df dc C hs Fh AH/\
 (∀t H',H t=none->Sb df H H'->fB C (hs.map Fh)=[]->H' t=some (.tup [.int 0,.non])->Q (.ref t) H')/\
 ∀t b tk q0 H',H t=none->Sb df H H'->q0∈fB C (hs.map Fh)->H' t=some (.tup [.int ((fB C (hs.map Fh)).length:Nat),.ref b])->H' b=some (.tup [.int (eQ AH q0),.ref tk])->H' tk=some (.tup ((eT C hs q0).map V.int))->(∀q∈fB C (hs.map Fh),HT.lexLt (eQ AH q::eT C hs q) (eQ AH q0::eT C hs q0)=false)->Q (.ref t) H'
noncomputable abbrev nWP:List Str:=["cells","fits","costs","ways","holder","whole","many","cost","number"]
theorem scWP:iJ nWP ["cells","fits","costs"] (bH gE):=by ac_rfl
theorem A8k:(["land","cells","costs"]:List Str).Nodup:=by decide +kernel
noncomputable abbrev XWP (P:il)(w:i6)(K:W.Frag)(mg:Str->Option gw)(base:iw)(f:gy)(cdv:gw)(A:kb)(outer:List Env)(s:h7)(H0:Hp)(E:XK):Cx:=(fC CX0 P w K mg base nWP "ways_to_part" (bH gE) f cdv A outer s H0 E).nox
noncomputable abbrev bWP:List je:=iU ((dN gE).getD 1 (.Pass ⟨0,0,0,0⟩))
section
variable {f:gy}{cdv:gw}{A:kb}{outer:List Env}{s:h7}{H0:Hp}{E:XK}
theorem A5r (hr:Room 2 (XWP P w K mg base f cdv A outer s H0 E).A)(aM:A1 P w K mg base 1 "marks_of" rZ)(aO:A1 P w K mg base 2 "with_one_more" pT):∃tt,A0 (XWP P w K mg base f cdv A outer s H0 E) bWP tt/\
  ∀(D:eA)(o5 o6 o7 o8:Option V)(lc df dc dw:gy)(h:Int)(o:Obj)(kfs kvs:List (Key×V))(lf:gy)(qs pc:List gy)(C:List Pl)(Ls:List (List Pl))(AH:List Pl->Int)(M:List (Int×Wy.W))(H:Hp),H df=some (.frz o (.dK kfs))->cE kfs (ie h)=some (.ref lf)->H lf=some (.lst (qs.map V.ref))->LansAt H qs Ls->Ls.length<=1024->H lc=some (.lst (pc.map V.ref))->PlAt H pc C->C.length<=10->CostA P w H dc AH->H dw=some (.dK kvs)->WaysK H kvs M->(M.map (·.1)).Nodup->mJ (M.map (·.1))->(0<=h/\h<4)->
   (∀dn kv2 H',H dn=none->Sb dw H H'->H' dn=some (.dK kv2)->WaysK H' kv2 (Wy.more h M (Ls.map λL=>(Wy.mk C L,AH L)))->D.nx [some (.ref lc),some (.ref df),some (.ref dc),some (.ref dn),some (.int h),o5,o6,o7,o8] H')->
   tt D [some (.ref lc),some (.ref df),some (.ref dc),some (.ref dw),some (.int h),o5,o6,o7,o8] H:=by
 have nd:=scWP.nd;have hu:=dX hr;refine⟨_,bB (bP (i:=3) nd rfl (jr rfl) (aO.c hr (aG (pv 3) (aG (pv 4) (cM (bU (bH gE).names nWP ["land"] [("cells",0),("costs",2)] rfl (dH (lR (gj hu) (pv 1) (pv 4) (λ_ _=>rfl))) rfl rfl rfl (by decide +kernel)
   (λZ=>A4 0 A8k) (λZ=>cB) (λZ=>cL (bQ (aM.c hr (aG (pv 1) (aG (pv 0) aB))) (bQ (A43 hu (pv 2) (pv 0) aV ⟨rfl,rfl,rfl,rfl⟩) aB)))) aB))))),?_⟩
 intro D o5 o6 o7 o8 lc df dc dw h o kfs kvs lf qs pc C Ls AH M H hfz hv elf hL hLl elc hPc h10 hco hdw hW hnd hsM hh k;refine⟨_,rfl,_,rfl,_,rfl,_,rfl,df,_,rfl,.inl ⟨kfs,ie h,.inr ⟨o,hfz⟩,rfl,hv.symm⟩,lf,rfl,⟨_,A2.of elf⟩,λZ l hl=> ?_⟩;have hql:qs.length=Ls.length:=Paired.length hL;refine eW (K:=K) (a:=lf) (xs:=qs.map V.ref) (λj σ H'=>(∃ol,σ=[ol,some (.ref lc),some (.ref dc)])/\Same H H'/\∃ls:List gy,H' l=some (.lst (ls.map V.ref))/\Paired (λa x=>H' a=some (.tup [.int x.1,.int x.2])) ls ((Ls.take j).map λL=>(Wy.mk C L,AH L)))
  ⟨⟨_,rfl⟩,aY hl,[],aJ,.nil⟩ (λj σ H' _ h=>A2.of (h.2.1 _ _ elf)) ?_ ?_
 ·rintro j x σ H' hx ⟨⟨ol,rfl⟩,hs,ls,el,hLs⟩;obtain⟨t,htj,rfl⟩:=eY hx;obtain⟨L,hLj,hT⟩:=fM hL htj;have hj:j<Ls.length:=(AR.mp hLj).1;have hT':=A6.same hT hs;obtain⟨ps,et,hPs⟩:=id hT';refine iT ?_;refine⟨_,rfl,_,rfl,lc,t,pc,ps,C,L,rfl,hs _ _ elc,hPc.same hs,h10,.inl et,hPs,?_⟩;refine⟨_,rfl,dc,AH,rfl,hco.same hs,_,rfl,t,L,rfl,rfl,hco.same hs,hT',by show 2<=gz;decide,λpt hpt=> ?_⟩;have u:=aY (o:=.tup [.int (Wy.mk C L),.int (AH L)]) hpt;have hll:ls.length=_:=Paired.length hLs;rw[b8,cm]at hll;have npl:pt≠l:=λz=>by rw[z,el]at hpt;cases hpt
  refine⟨_,u _ _ el,by rw[b8,jh];omega,⟨_,rfl⟩,λb z e=> ?_,ls++[pt],by rw[aJ,cx];rfl,?_⟩
  ·rw[bA (bK e hl)];exact u _ _ (hs _ _ e)
  ·have tp:∀b ys,H' b=some (.tup ys)->(upd (upd H' pt (.tup [.int (Wy.mk C L),.int (AH L)])) l (.lst (ls.map V.ref++[.ref pt]))) b=some (.tup ys):=λb ys z=>by
    rw[bA (λy=>by rw[y,el]at z;cases z)];exact u _ _ z
   rw[fq,hLj,cx];exact Paired.snoc (Paired.mapP hLs λ_ _ z=>tp _ _ z) (by rw[bA npl];exact aJ)
 ·rintro σ H' ⟨_,hs,ls,el,hLs⟩;rw[b8,hql,fo (AY _)]at hLs;refine⟨dw,h,l,kvs,M,_,rfl,hs _ _ hdw,hW.ext (λb ys z=>hs _ _ z),hnd,hsM,⟨ls,el,hLs⟩,λkk hk=> ?_,hh,λdn kv2 H2 hdn s2 ed hW2=> ?_⟩
  ·rw[c9]at hk;obtain⟨L,_,rfl⟩:=dv.mp hk;have h1:=Wy.mk_ran C L;have:=qY h10;show 0<=Wy.mk C L/\Wy.mk C L<1048576;omega
  ·exact k dn kv2 H2 (hs.free hdn) (λb u n z=>s2 b u n (hs _ _ z)) ed hW2
end
theorem B1l {C:List Pl}{q:List (List Pl)}(hC:C.Nodup)(hn:q.flatten.Nodup)(hs:∀L∈q,L.Sublist C):Wy.mk C q.flatten=Wy.mk C C↔q.flatten.length=C.length:=by
 have hin:∀c∈q.flatten,c∈C:=λc hc=>by
  obtain⟨L,hL,h⟩:=dq.mp hc;exact(hs L hL).subset h
 rw[Wy.mk_whole];constructor
 ·intro h;have h1:=fS hC h;have h2:=fS hn hin;omega
 ·intro h c hc;by_cases z:c∈q.flatten
  ·exact z
  ·have:=fS (d9.mpr ⟨z,hn⟩) (λd hd=>(di.mp hd).elim (λe=>e▸hc) (hin d));rw[b4]at this;omega
theorem B4v {hs:List Int}{q:List (List Pl)}{c:Pl}{h:Int}(e:own hs q c=some h):h∈hs:=by
 unfold own at e;cases ef:(hs.zip q).find? λz=>decide (c∈z.2)with
 |none=>rw[ef]at e;cases e
 |some y=>
  rw[ef]at e;have:y.1=h:=ig e;rw[←this];exact(fe (dz ef)).1
theorem qN {C:List Pl}{hs:List Int}{q:List (List Pl)}(h4:∀i∈hs,0<=i/\i<4):Wy.Fig C λc=>(own hs q c).getD 0:=λc _=>by
 show 0<=(own hs q c).getD 0/\(own hs q c).getD 0<4;cases e:own hs q c with
 |none=>exact⟨(by decide:(0:Int)<=0),(by decide:(0:Int)<4)⟩
 |some h=>exact h4 h (B4v e)
theorem A8d {C:List Pl}(f:Pl->Int):Wy.V4 C f=Wy.V4 (iq C.length) λk=>f (C.getD k (0,0)):=by
 refine Wy.snoc_ind (P:=λC:List Pl=>Wy.V4 C f=Wy.V4 (iq C.length) λk=>f (C.getD k (0,0))) rfl (λC c ih=> ?_) C;rw[Wy.V4_snoc,bz,cj,fi,Wy.V4_snoc,ih]
 congr 1
 ·congr 1
  refine Wy.V4_congr λk hk=> ?_;have:=d5.mp hk;rw[bo,bo,md this]
 ·simp
theorem B0b {C:List Pl}(f:Pl->Int):(iq C.length).map (λk=>f (C.getD k (0,0)))=C.map f:=by refine aq (by simp) λi h1 h2=> ?_;simp at h1;simp[h1]
end
section
variable {C:List Pl}{hs:List Int}{Lfs:List (List (List Pl))}{AH:List Pl->Int}{M:List (Int×Wy.W)}
theorem oO (hC:C.Nodup)(o:Lfo C Lfs):((cV Lfs).map (trip C AH hs)).filter (λt=>decide (t.1=Wy.mk C C))=(fB C Lfs).map (trip C AH hs):=by
 unfold fB;rw[az]
 congr 1
 refine av λq hq=> ?_;obtain⟨_,h2,h3⟩:=oQ hC o hq;show decide (Wy.mk C q.flatten=Wy.mk C C)=_;exact decide_eq_decide.mpr (B1l hC h2 h3)
theorem A84 (hC:C.Nodup)(o:Lfo C Lfs)(r:Wy.Rep M ((cV Lfs).map (trip C AH hs)))(hl:Wy.look M (Wy.mk C C)=none):fB C Lfs=[]:=by
 have:(fB C Lfs).map (trip C AH hs)=[]:=by
  rw[←oO hC o];exact ay.mpr λt ht=>by simpa using r.no _ hl t ht
 exact List.map_eq_nil_iff.mp this
theorem A58 (hC:C.Nodup)(o:Lfo C Lfs)(h4:∀i∈hs,0<=i/\i<4)(r:Wy.Rep M ((cV Lfs).map (trip C AH hs))){m:Int}{cn:Int×Int}(hl:Wy.look M (Wy.mk C C)=some (m,cn)):
  m=((fB C Lfs).length:Nat)/\∃q0∈fB C Lfs,cn=(eQ AH q0,Wy.V4 C λc=>(own hs q0 c).getD 0)/\∀q∈fB C Lfs,HT.lexLt (eQ AH q::eT C hs q) (eQ AH q0::eT C hs q0)=false:=by
 obtain⟨h1,h2,h3⟩:=r.yes _ m cn hl;rw[oO hC o,b8]at h1;have hm:(Wy.mk C C,cn)∈(fB C Lfs).map (trip C AH hs):=by
  rw[←oO hC o];exact dj.mpr ⟨h2,AS rfl⟩
 obtain⟨q0,hq0,e0⟩:=dv.mp hm;have ecn:cn=(eQ AH q0,Wy.V4 C λc=>(own hs q0 c).getD 0):=(congrArg Prod.snd e0).symm;refine⟨h1,q0,hq0,ecn,λq hq=> ?_⟩;have hqm:trip C AH hs q∈((cV Lfs).map (trip C AH hs)).filter (λt=>decide (t.1=Wy.mk C C)):=by rw[oO hC o];exact dv.mpr ⟨q,hq,rfl⟩
 obtain⟨g1,g2⟩:=dj.mp hqm;have hle:=Wy.le2_iff.mp (h3 _ g1 (of_decide_eq_true g2));rw[ecn]at hle;have hle:¬(eQ AH q<eQ AH q0\/eQ AH q=eQ AH q0/\(Wy.V4 C λc=>(own hs q c).getD 0)<Wy.V4 C λc=>(own hs q0 c).getD 0):=hle;rw[HT.lexLt_cons];by_cases ec:eQ AH q=eQ AH q0
 ·rw[if_pos ec];cases e:HT.lexLt (eT C hs q) (eT C hs q0)with
  |false=>rfl
  |true=>exact absurd (.inr ⟨ec,(Wy.V4_lex (qN h4) (qN h4)).mp e⟩) hle
 ·rw[if_neg ec];exact AU λz=>hle (.inl z)
end
section
variable {P:il}{w:i6}{K:W.Frag}{mg:Str->Option gw}{base:iw}
theorem A4b {f:gy}{cdv:gw}{A:kb}{outer:List Env}{s:h7}{H0:Hp}{E:XK}:PSq (XWP P w K mg base f cdv A outer s H0 E) ((dN gE).getD 0 (.Pass ⟨0,0,0,0⟩)) (lU tM (dL 3)):=A2n scWP.nd rfl (jr rfl) A6s
theorem B37 (F:D1 K mg "ways_to_part" gE ["cells","fits","costs"])(aM:A1 P w K mg base 1 "marks_of" rZ)(aW:A1 P w K mg base 1 "parting_written" xF)(aO:A1 P w K mg base 2 "with_one_more" pT):A1 P w K mg base 3 "ways_to_part" (tT P w):=by
 refine F.k nWP ?_;ac_nf
 ·obtain⟨lc,df,dc,C,hs,Fh,AH,rfl,W,qn,qy⟩:=h;obtain⟨tb,hb,rb⟩:=A5r (P:=P) (w:=w) (K:=K) (mg:=mg) (base:=base) (f:=f) (cdv:=cdv) (A:=A) (outer:=outer) (s:=s) (H0:=H) (E:=E) hr aM aO;have h0:=A4b (P:=P) (w:=w) (K:=K) (mg:=mg) (base:=base) (f:=f) (cdv:=cdv) (A:=A) (outer:=outer) (s:=s) (H0:=H) (E:=E);have eb:dN gE=(dN gE).getD 0 (.Pass ⟨0,0,0,0⟩)::(dN gE).drop 1:=rfl;rw[eb];generalize (dN gE).getD 0 (.Pass ⟨0,0,0,0⟩)=s0 at h0⊢;have hu:=dX hr;refine⟨_,B3b h0<|
   aU (fZ jk rfl (rA (pv 1)) (A4 4 nd) hb)<|
   aU (bP (i:=5) nd rfl (jr rfl) (aM.c hr (aG (pv 0) (aG (pv 0) aB))))<|
   aU (bS (A9a (A4x (gj hu) (pv 5) (pv 3)) rfl) (bB (bF (cL (cO aV (cO iX aB))))) bT)<|
   aU (cK (lR (gj hu) (pv 3) (pv 5) (λ_ _=>rfl)) (bN rfl (bC (A4 6 nd) (bC (bN rfl (bC (A4 7 nd) (bC (A4 8 nd) bO))) bO))))<|
   bB (bF (cL (aG (pv 6) (nG (cL (aG (pv 7) (bQ (aW.c hr (aG (pv 0) (aG (pv 8) aB))) aB))) aB)))),?_⟩
  intro dw0 a0 b0 H1 hdw0 s1 e1 e2 e3;obtain⟨pc,elc,hPc⟩:=W.c;obtain⟨ls,edf,hPf⟩:=W.f;refine⟨_,rfl,df,_,rfl,s1 _ _ edf,λo=> ?_⟩;have hkl:hs.length=ls.length:=Paired.length hPf;have ndf:dw0≠df:=λz=>by rw[z,edf]at hdw0;cases hdw0
  generalize hkf:((hs.zip ls).map λz=>((ie z.1:Key),V.ref z.2))=kfs at*;have hkfl:kfs.length=hs.length:=by rw[←hkf,b8,cp];omega
  have s2:Sb df H (upd H1 df (.frz o (.dK kfs))):=λb u n z=>by rw[bA n];exact s1 _ _ z
  have efz:(upd H1 df (.frz o (.dK kfs))) df=some (.frz o (.dK kfs)):=aJ;have nt:∀{b:gy}{u:HO},H1 b=some u->u≠ .dK kfs->(upd H1 df (.frz o (.dK kfs))) b=some u:=fun{b u} z n=>by rw[bA (λy=>by rw[y,s1 _ _ edf]at z;exact n (ig z).symm)];exact z
  have f1:(upd H1 df (.frz o (.dK kfs))) dw0=some (.dK [(ie 0,.ref a0)]):=by rw[bA ndf];exact e1
  have f2:=nt e2 (by intro z;cases z);have f3:=nt e3 (by intro z;cases z);generalize upd H1 df (.frz o (.dK kfs))=H2 at s2 efz f1 f2 f3⊢;have up:∀{H':Hp}{b:gy}{u:HO},Sb df H H'->u≠ .dK kfs->H b=some u->H' b=some u:=fun{H' b u} sb n z=>sb _ _ (λy=>by rw[y,edf]at z;exact n (ig z).symm) z;have pl:∀{H':Hp},Sb df H H'->PlAt H' pc C:=λsb=>Paired.mapP hPc λ_ _ z=>up sb (by intro z;cases z) z;have sq:∀{H':Hp}{t:gy}{L:List Pl},Sb df H H'->A6 H t L->A6 H' t L:=λsb ⟨ps,h1,h2⟩=> ⟨ps,up sb (by intro z;cases z) h1,Paired.mapP h2 λ_ _ z=>up sb (by intro z;cases z) z⟩;have co:∀{H':Hp},Sb df H H'->CostA P w H' dc AH:=λsb=>by
   obtain⟨xs,c⟩:=W.k;exact⟨xs,up sb (by intro z;cases z) c.e,λx hx=>(by obtain⟨L,e,h⟩:=c.k x hx;exact⟨L,e,sq sb h⟩),c.nd,c.v⟩
  have hnk:(kfs.map (·.1)).Nodup:=by
   rw[←hkf,c9];have:((λkv:Key×V=>kv.1)∘λz:Int×gy=>((ie z.1:Key),V.ref z.2))=(ie:Int->Key)∘vd:=rfl;rw[this,←c9,c7 (le_of_eq hkl),ee,fh];exact(ee.mp W.n).imp fun{a b} z e=>z (k9 e)
  have oL:∀j,Lfo C ((hs.take j).map Fh):=λj=> ⟨λLs h=>W.o.sub Ls (by
   obtain⟨i,hi,rfl⟩:=dv.mp h;exact dv.mpr ⟨i,r8 hi,rfl⟩)⟩
  refine pG (d:=df) (o:=o) (kvs:=kfs) (λj σ H'=>Sb df H H'/\H' df=some (.frz o (.dK kfs))/\∃dw kvs M,(∃o4 o5 o6 o7 o8,σ=[some (.ref lc),some (.ref df),some (.ref dc),some (.ref dw),o4,o5,o6,o7,o8])/\H dw=none/\H' dw=some (.dK kvs)/\WaysK H' kvs M/\Wy.Rep M ((cV ((hs.take j).map Fh)).map (trip C AH (hs.take j))))
   ⟨s2,efz,dw0,_,_,⟨_,_,_,_,_,rfl⟩,hdw0,f1,.cons ⟨rfl,a0,b0,rfl,f2,f3⟩ .nil,A6r C AH⟩ (λj σ H' h=>h.2.1) ?_ ?_
  ·rintro j kk x σ H' hx ⟨sb,ef,dw,kvs,M,⟨o4,o5,o6,o7,o8,rfl⟩,hdw,ed,hW,rM⟩;have hx':=hx;rw[←hkf,br]at hx';cases hz:(hs.zip ls)[j]? with
   |none=>rw[hz]at hx';cases hx'
   |some z=>
    rw[hz]at hx';cases hx';obtain⟨z1,z2⟩:=bu.mp hz;obtain⟨lf,hlf,qs,elf,hL⟩:=fM hPf z1;have elz:z.2=lf:=ig (z2.symm.trans hlf);have hm:z.1∈hs:=d3 z1;have hj:j<hs.length:=(AR.mp z1).1;have et:hs.take (j+1)=hs.take j++[z.1]:=by rw[fq,z1];rfl
    have hv:=mM hnk hx;rw[elz]at hv;have ndw:dw≠df:=λy=>by rw[y,edf]at hdw;cases hdw
    refine rb _ o5 o6 o7 o8 lc df dc dw z.1 o kfs kvs lf qs pc C (Fh z.1) AH M H' ef hv (up sb (by intro z;cases z) elf) (Paired.mapP hL λ_ _ h=>sq sb h) (W.z _ hm) (up sb (by intro z;cases z) elc) (pl sb) W.l (co sb) ed hW rM.nd (A7z W.l rM) (W.h _ hm) λdn kv2 H3 hdn s3 e3 hW3=> ?_;refine⟨λb u n y=>s3 b u (λy2=>by rw[y2,hdw]at y;cases y) (sb b u n y),s3 _ _ (k6 ndw) ef,dn,kv2,_,⟨_,_,_,_,_,rfl⟩,?_,e3,hW3,?_⟩
    ·cases hh:H dn with
     |none=>rfl
     |some u=>
      by_cases y:dn=df
      ·rw[y,ef]at hdn;cases hdn
      ·rw[sb _ _ y hh]at hdn;cases hdn
    ·rw[et,cx];have oL':=oL (j+1);rw[et,cx]at oL';exact A3d W.nd oL' (by rw[b8]) rM
  ·rintro σ H' ⟨sb,ef,dw,kvs,M,⟨o4,o5,o6,o7,o8,rfl⟩,hdw,ed,hW,rM⟩;rw[hkfl,fo (AY _)]at rM;have o1:Lfo C (hs.map Fh):=W.o;refine⟨_,rfl,_,rfl,lc,lc,pc,pc,C,C,rfl,up sb (by intro z;cases z) elc,pl sb,W.l,.inr (up sb (by intro z;cases z) elc),pl sb,?_⟩;refine⟨_,rfl,_,rfl,dw,_,rfl,DGet.k (k:=ie (Wy.mk C C)) ed,_,rfl,?_⟩;obtain⟨w1,w2⟩:=hW.val (Wy.mk C C);cases hl:Wy.look M (Wy.mk C C)with
   |none=>
    rw[w1 hl];refine dW ⟨by show 2<=gz;decide,λt ht=> ?_⟩;have u:=aY (o:=.tup [.int 0,.non]) ht;have ht0:H t=none:=by
     cases hh:H t with
     |none=>rfl
     |some u=>
      by_cases y:t=df
      ·rw[y,ef]at ht;cases ht
      ·rw[sb _ _ y hh]at ht;cases ht
    exact qn t _ ht0 (λb z n y=>u _ _ (sb b z n y)) (A84 W.nd o1 rM hl) aJ
   |some x=>
    obtain⟨v,ev,a,b,rfl,ea,eb'⟩:=w2 x hl;rw[ev];refine bR ?_;obtain⟨m1,q0,hq0,hcn,hmin⟩:=A58 W.nd o1 W.h rM (m:=x.1) (cn:=x.2) hl;refine⟨_,rfl,_,rfl,dw,_,rfl,(by rw[←ev];exact DGet.k (k:=ie (Wy.mk C C)) ed),a,_,rfl,A3.of ea,rfl,_,_,rfl,_,_,rfl,b,_,rfl,A3.of eb',rfl,_,_,rfl,_,_,rfl,rfl,rfl,?_⟩;have ex2:x.2.2=Wy.V4 (iq C.length) λk=>(own hs q0 (C.getD k (0,0))).getD 0:=by rw[hcn];exact A8d _
    have hfig:Wy.Fig (iq C.length) λk=>(own hs q0 (C.getD k (0,0))).getD 0:=λk _=>qN (C:=[C.getD k (0,0)]) W.h _ AX;refine⟨_,rfl,_,rfl,_,rfl,_,rfl,lc,pc,(λk=>(own hs q0 (C.getD k (0,0))).getD 0),C.length,(by rw[ex2];rfl),up sb (by intro z;cases z) elc,Paired.length hPc,W.l,hfig,λtk H3 htk s3 etk=> ?_⟩;rw[B0b λc=>(own hs q0 c).getD 0]at etk;refine⟨by show 2<=gz;decide,λb2 hb2=> ?_⟩;have u2:=aY (o:=.tup [.int x.2.1,.ref tk]) hb2;refine⟨by show 2<=gz;decide,λt ht=> ?_⟩;have u3:=aY (o:=.tup [.int x.1,.ref b2]) ht;have sA:=s3.trans (u2.trans u3);have ht0:H t=none:=by
     have ht1:=(s3.trans u2).free ht;cases hh:H t with
     |none=>rfl
     |some u=>
      by_cases y:t=df
      ·rw[y,ef]at ht1;cases ht1
      ·rw[sb _ _ y hh]at ht1;cases ht1
    refine qy t b2 tk q0 _ ht0 (λb z n y=>sA _ _ (sb b z n y)) hq0 ?_ ?_ (u3 _ _ (u2 _ _ etk)) hmin
    ·rw[aJ,m1]
    ·rw[u3 _ _ aJ,hcn]
structure FwIn (H:Hp)(lc df:gy)(C:List Pl)(hs:List Int)(Fh:Int->List (List Pl)):Prop where
 c:∃pc:List gy,H lc=some (.lst (pc.map V.ref))/\PlAt H pc C
 nd:C.Nodup
 l:C.length<=10
 f:FitD H df hs Fh
 n:hs.Nodup
 h:∀i∈hs,0<=i/\i<4
 o:Lfo C (hs.map Fh)
 z:∀i∈hs,(Fh i).length<=1024
theorem FitD.same {H H':Hp}{d:gy}{hs:List Int}{Fh:Int->List (List Pl)}(h:FitD H d hs Fh)(s:Same H H'):FitD H' d hs Fh:=let ⟨ls,h1,h2⟩:=h;⟨ls,s _ _ h1,Paired.mapP h2 λ_ _ ⟨qs,e,l⟩=> ⟨qs,s _ _ e,l.ext s.ext⟩⟩
theorem FwIn.same {H H':Hp}{lc df:gy}{C:List Pl}{hs:List Int}{Fh:Int->List (List Pl)}(x:FwIn H lc df C hs Fh)(s:Same H H'):FwIn H' lc df C hs Fh:=⟨let ⟨pc,e,h⟩:=x.c;⟨pc,s _ _ e,h.same s⟩,x.nd,x.l,x.f.same s,x.n,x.h,x.o,x.z⟩
noncomputable def Ps (C:List Pl)(hs:List Int)(Fh:Int->List (List Pl)):List (List Int):=(fB C (hs.map Fh)).map (eT C hs)
theorem A01 (q:List (List Pl)):eQ (λ_=>0) q=0:=by
 unfold eQ
 induction q with
 |nil=>rfl
 |cons L q ih=>rw[cz,fm,ih];rfl
noncomputable def tK (R:List (List Int))(Q:VK)(Sm:Hp->Prop):Prop:=(R=[]->∀H',Sm H'->Q .non H')/\∀t ks H',Sm H'->H' t=some (.tup ((ks:List Int).map V.int))->ks∈R->(∀k∈R,HT.lexLt k ks=false)->Q (.ref t) H'
noncomputable def yO:Sp:=λvs H Q _=> ∃lc df C hs Fh,vs=[.ref lc,.ref df]/\FwIn H lc df C hs Fh/\tK (Ps C hs Fh) Q (Sb df H)
noncomputable def Bb (g:bE)(cs:List Int)(cl:List C3)(od:Int):List (List Int):=Ps (bD pos g) (Ba cl) (dI g cs cl od)
noncomputable def uB:Sp:=λvs H Q _=> ∃p g w cs cl od,vs=[.ref p]/\PleA H p g w cs cl od/\tK (Bb g cs cl od) Q (Same H)
noncomputable def pD:Sp:=λvs H Q _=> ∃p g w cs cl od,vs=[.ref p]/\PleA H p g w cs cl od/\∀H',Same H H'->Q (.int ((Bb g cs cl od).length:Nat)) H'
theorem B0x {cl:List C3}{i:Int}(h:i∈Ba cl):0<=i/\i<4:=by obtain⟨k,hk,rfl⟩:=dv.mp h;have:=(mem_mem4.mp hk).1;omega
theorem A19 {H:Hp}{p lc df:gy}{g:bE}{w:Nat}{cs:List Int}{cl:List C3}{od:Int}{pc:List gy}(D:PleA H p g w cs cl od)(elc:H lc=some (.lst (pc.map V.ref)))(hPc:PlAt H pc (bD pos g))(hF:FitD H df (Ba cl) (dI g cs cl od)):FwIn H lc df (bD pos g) (Ba cl) (dI g cs cl od):=
 ⟨⟨pc,elc,hPc⟩,hZ g,by rw[fL];have:=D.c6;omega,hF,gF cl,λi h=>B0x h,⟨λLs h L hL=>by
  obtain⟨i,_,rfl⟩:=dv.mp h;exact hX (dj.mp (dj.mp hL).1).1⟩,λi _=>gc (gc (b7 _ _) (b7 _ _)) (gc (oU D.c6) (by decide))⟩
theorem A7t (F:D1 K mg "first_way" zL ["cells","fits"])(aP:A1 P w K mg base 3 "ways_to_part" (tT P w)):A1 P w K mg base 4 "first_way" yO:=by
 refine F.k ["cells","fits","many","first","cost","parting"] ?_;ac_nf
 ·obtain⟨lc,df,C,hs,Fh,rfl,W,q1,q2⟩:=h;refine⟨_,aU (cK (aP.c hr (aG (pv 0) (aG (pv 1) (A1l xQ aB)))) (bN rfl (bC (A4 2 nd) (bC (A4 3 nd) bO))))<|
   aU (bS (cI xP (pv 3) iX (nomark _)) (bB (bF iX)) bT)<|
   aU (cK (pv 3) (bN rfl (bC (A4 4 nd) (bC (A4 5 nd) bO))))<|
   bB (bF (pv 5)),?_⟩
  refine⟨_,rfl,_,rfl,λdc hdc=> ?_⟩;have u:=aY (o:=nO P w dc []) hdc;have W1:=W.same u;obtain⟨ls,edf,_⟩:=id W.f;refine⟨lc,df,dc,C,hs,Fh,_,rfl,⟨W1.c,W1.nd,W1.l,W1.f,W1.n,W1.h,W1.o,W1.z,vU⟩,λt H' ht sb hf et=> ?_,λt b tk q0 H' ht sb hq et eb ek hm=> ?_⟩
  ·have sb':Sb df H H':=λb z n y=>sb b z n (u _ _ y);refine⟨t,_,rfl,A3.of et,rfl,_,_,rfl,_,_,rfl,rfl,_,rfl,rfl,_,rfl,dW ?_⟩;exact q1 (by unfold Ps;rw[hf];rfl) H' sb'
  ·have sb':Sb df H H':=λb z n y=>sb b z n (u _ _ y);refine⟨t,_,rfl,A3.of et,rfl,_,_,rfl,_,_,rfl,rfl,_,rfl,rfl,_,rfl,bR ?_⟩;refine⟨_,rfl,b,_,rfl,A3.of eb,rfl,_,_,rfl,_,_,rfl,rfl,_,rfl,q2 tk _ H' sb' ek (dv.mpr ⟨q0,hq,rfl⟩) λk hk=> ?_⟩;obtain⟨q',hq',rfl⟩:=dv.mp hk;have:=hm q' hq';rw[A01,A01,HT.lexLt_cons,if_pos rfl]at this;exact this
theorem B2g (F:D1 K mg "first_parting" yK ["plea"])(aA:A1 P w K mg base 11 "fits_of_all" nI)(aC:A1 P w K mg base 6 "cells_of" (dS pos))(aW:A1 P w K mg base 4 "first_way" yO):A1 P w K mg base 12 "first_parting" uB:=by
 refine F.k ["plea","fits"] ?_;ac_nf
 ·obtain⟨p,g,w',cs,cl,od,rfl,D,q1,q2⟩:=h;refine⟨_,aU (bP (i:=1) nd rfl (jr rfl) (aA.c hr (aG (pv 0) aB)))<|
   bB (bF (aW.c hr (bQ (aC.c hr (eF (cA cZ (pv 0) aV (λ_ _=>rfl)) aB)) (aG (pv 1) aB)))),?_⟩
  refine⟨_,rfl,p,g,w',cs,cl,od,rfl,D,λdf H1 hdf s1 hF=> ?_⟩;have D1:=D.same s1;obtain⟨m,c,a,hp,hm,hc,ha⟩:=D1.ex;refine⟨_,rfl,p,_,0,_,rfl,rfl,A3.of hp,rfl,m,g,w',rfl,hm,D.G,λH2 lc pc hlc s2 elc hPc=> ?_⟩;have sb:∀{H':Hp},Sb df H2 H'->Same H H':=λsb b u e=>sb b u (bK e hdf) (s2 _ _ (s1 _ _ e));exact⟨_,rfl,lc,df,_,_,_,rfl,A19 (D1.same s2) elc hPc (hF.same s2),λe H' h=>q1 e H' (sb h),λt ks H' h=>q2 t ks H' (sb h)⟩
theorem A85 (F:D1 K mg "many_partings" vR ["plea"])(aA:A1 P w K mg base 11 "fits_of_all" nI)(aC:A1 P w K mg base 6 "cells_of" (dS pos))(aP:A1 P w K mg base 3 "ways_to_part" (tT P w)):A1 P w K mg base 12 "many_partings" pD:=by
 refine F.k ["plea","fits","many","first"] ?_;ac_nf
 ·obtain⟨p,g,w',cs,cl,od,rfl,D,q⟩:=h;refine⟨_,aU (bP (i:=1) nd rfl (jr rfl) (aA.c hr (aG (pv 0) aB)))<|
   aU (cK (aP.c hr (bQ (aC.c hr (eF (cA cZ (pv 0) aV (λ_ _=>rfl)) aB)) (aG (pv 1) (A1l xQ aB)))) (bN rfl (bC (A4 2 nd) (bC (A4 3 nd) bO))))<|
   bB (bF (pv 2)),?_⟩
  refine⟨_,rfl,p,g,w',cs,cl,od,rfl,D,λdf H1 hdf s1 hF=> ?_⟩;have D1:=D.same s1;obtain⟨m,c,a,hp,hm,hc,ha⟩:=D1.ex;refine⟨_,rfl,p,_,0,_,rfl,rfl,A3.of hp,rfl,m,g,w',rfl,hm,D.G,λH2 lc pc hlc s2 elc hPc=> ?_⟩;refine⟨_,rfl,λdc hdc=> ?_⟩;have u:=aY (o:=nO P w dc []) hdc;have W1:=(A19 (D1.same s2) elc hPc (hF.same s2)).same u;have sb:∀{H':Hp},Sb df (upd H2 dc (nO P w dc [])) H'->Same H H':=λsb b u' e=>sb b u' (bK e hdf) (u _ _ (s2 _ _ (s1 _ _ e)));refine⟨lc,df,dc,_,_,_,_,rfl,⟨W1.c,W1.nd,W1.l,W1.f,W1.n,W1.h,W1.o,W1.z,vU⟩,λt H' ht h hf et=> ?_,λt b tk q0 H' ht h hq et eb ek hm=> ?_⟩
  ·refine⟨t,_,rfl,A3.of et,rfl,_,_,rfl,_,_,rfl,rfl,_,rfl,?_⟩;have:=q H' (sb h);unfold Bb Ps at this;rw[b8,hf]at this;exact this
  ·refine⟨t,_,rfl,A3.of et,rfl,_,_,rfl,_,_,rfl,rfl,_,rfl,?_⟩;have:=q H' (sb h);unfold Bb Ps at this;rw[b8]at this;exact this
end
section
variable {α β:Type}
theorem A2j {F G:α->List β}:∀{l:List α},(∀x∈l,F x=G x)->l.flatMap F=l.flatMap G
 | [],_=>rfl
 |x::l,h=>by rw[bg,bg,h x AX,A2j λy hy=>h y (AW _ hy)]
end
noncomputable def dU (C:List Pl)(ks:List Int)(h:Int):List Pl:=((C.zip ks).filter λz=>decide (z.2=h)).map (·.1)
theorem A0z {C:List Pl}{hs:List Int}{q:List (List Pl)}(hA:C.Nodup)(hn:hs.Nodup)(nd:q.flatten.Nodup)(hl:hs.length=q.length)(hsub:∀L∈q,L.Sublist C)(hall:q.flatten.length=C.length):q=hs.map (dU C (eT C hs q)):=by
 have hin:∀c∈C,c∈q.flatten:=by
  have AB:∀c∈q.flatten,c∈C:=λc hc=>by
   obtain⟨L,hL,h⟩:=dq.mp hc;exact(hsub L hL).subset h
  intro c hc;by_cases z:c∈q.flatten
  ·exact z
  ·have:=fS (d9.mpr ⟨z,nd⟩) (λd hd=>(di.mp hd).elim (λe=>e▸hc) (AB d));rw[b4]at this;omega
 have key:∀(j:Nat)(h:Int)(L:List Pl),hs[j]?=some h->q[j]?=some L->dU C (eT C hs q) h=L:=λj h L e1 e2=>by
  unfold dU eT;rw[pR,az,c9];have ef:(filter ((λz:Pl×Int=>decide (z.2=h))∘λc=>(c,(own hs q c).getD 0)) C)=C.filter λc=>decide (c∈L):=by
   refine av λc hc=> ?_;have hi:=xW (c:=c) hl;rw[AS (hin c hc)]at hi;obtain⟨h',eh⟩:=j3.mp hi;show decide ((own hs q c).getD 0=h)=_;rw[eh];rw[iy,decide_eq_true_eq,decide_eq_true_eq,←sO hn nd hl e1 e2,eh];exact⟨λz=>by rw[←z];rfl,λz=>ig z⟩
  rw[ef,A3i hA (hsub _ (d3 e2))];show vc id _=_;rw[c8]
 refine aq (by rw[b8,hl]) λj h1 h2=> ?_;rw[List.getElem_map];exact(key j _ _ (bq (by omega)) (bq h1)).symm
theorem B1e {C:List Pl}{hs:List Int}{Fh:Int->List (List Pl)}(hC:C.Nodup)(hn:hs.Nodup)(o:Lfo C (hs.map Fh))(hF:∀h∈hs,(Fh h).Nodup):(Ps C hs Fh).Pairwise (· ≠ ·):=by
 have rn:(cV (hs.map Fh)).Nodup:=A0t _ rfl λLs h=>by
  obtain⟨i,hi,rfl⟩:=dv.mp h;exact hF i hi
 unfold Ps fB;rw[fh];refine(qu.mp ((ee.mp rn).sublist a8)).imp fun{a b} z e=>z.2.2 ?_;have key:∀q∈(cV (hs.map Fh)).filter (λq=>decide (q.flatten.length=C.length)),q=hs.map (dU C (eT C hs q)):=λq hq=>by
  obtain⟨h1,h2⟩:=dj.mp hq;obtain⟨k1,k2,k3⟩:=oQ hC o h1;rw[b8]at k1;exact A0z hC hn k2 k1.symm k3 (of_decide_eq_true h2)
 rw[key a z.1,key b z.2.1,e]
noncomputable def oY (b:bE->List Pl->Bool):Sp:=λvs H Q _=> ∃a g w t L,vs=[.ref a,.ref t]/\GridAt H a g/\cR g w/\A6 H t L/\LandOf g L/\∀H',Same H H'->Q (.bl (b g L)) H'
noncomputable def oP (_:bE)(L:List Pl):Bool:=iI L
noncomputable def oV (g:bE)(L:List Pl):Bool:=L.any λc=>decide (c∈(bD pos g).filter (eX g))
noncomputable def vI:Sp:=λvs H Q _=> ∃p t g w cs cl od ks i,vs=[.ref p,.ref t,.int i]/\ParA H p t g w cs cl od ks/\fQ g cs cl od ks=true/\bY cl i=true/\∀t' H',Same H H'->A6 H' t' (bZ g ks i)->Q (.ref t') H'
section
variable {P:il}{w:i6}{K:W.Frag}{mg:Str->Option gw}{base:iw}
theorem A9f (F:D1 K mg "hangs_together" yC ["mead","land"])(a1:A1 P w K mg base 7 "check_land" nP)(a2:A1 P w K mg base 3 "is_one_piece" sI):A1 P w K mg base 8 "hangs_together" (oY oP):=by
 refine F.k ["mead","land"] ?_;ac_nf
 ·obtain⟨a,g,w',t,L,rfl,hA,G,ht,hL,q⟩:=h;refine⟨_,aU (cP (a1.c hr (aG (pv 0) (aG (pv 1) aB))))<|bB (bF (a2.c hr (aG (pv 1) aB))),?_⟩;refine⟨_,rfl,_,rfl,a,g,w',t,L,rfl,hA,G,ht,hL,λH1 s1=> ?_⟩;refine⟨_,rfl,t,L,rfl,A6.ext ht s1.ext,LandOf.len G hL,λb H2 s2 hb=> ?_⟩;have:=q H2 (s1.trans s2);unfold oP at this;rw[←A1b (LandOf.up hL) hb]at this;exact this
theorem A3o (F:D1 K mg "at_road" A0m ["mead","land"])(a1:A1 P w K mg base 7 "check_land" nP)(a2:A1 P w K mg base 7 "cells_at_road" oD)(a3:A1 P w K mg base 1 "has_some_of" rO):A1 P w K mg base 8 "at_road" (oY oV):=by
 refine F.k ["mead","land"] ?_;ac_nf
 ·obtain⟨a,g,w',t,L,rfl,hA,G,ht,hL,q⟩:=h;refine⟨_,aU (cP (a1.c hr (aG (pv 0) (aG (pv 1) aB))))<|bB (bF (a3.c hr (aG (pv 1) (bQ (a2.c hr (aG (pv 0) aB)) aB)))),?_⟩;have h10:=LandOf.len G hL;refine⟨_,rfl,_,rfl,a,g,w',t,L,rfl,hA,G,ht,hL,λH1 s1=> ?_⟩;refine⟨_,rfl,_,rfl,a,g,w',rfl,hA.same s1,G,λH2 l ps hl s2 el hP=> ?_⟩;exact⟨t,l,L,ps,_,rfl,A6.ext ht (s1.trans s2).ext,by omega,el,hP,λH3 s3=>q H3 ((s1.trans s2).trans s3)⟩
theorem B2w (F:D1 K mg "land_of" A00 ["plea","parting","holder"])(a1:A1 P w K mg base 13 "check_parting" vP)(a2:A1 P w K mg base 3 "check_holder" nR)(a3:A1 P w K mg base 7 "land_within" uF):A1 P w K mg base 14 "land_of" vI:=by
 refine F.k ["plea","parting","holder","mead","custom","claims","odd"] ?_;ac_nf
 ·obtain⟨p,t,g,w',cs,cl,od,ks,i,rfl,B,hB,hh,q⟩:=h;refine⟨_,aU (cP (a1.c hr (aG (pv 0) (aG (pv 1) aB))))<|
   aU (cK (pv 0) (bN rfl (bC (A4 3 nd) (bC (A4 4 nd) (bC (A4 5 nd) (bC (A4 6 nd) bO))))))<|
   aU (cP (a2.c hr (aG (pv 5) (aG (pv 2) aB))))<|
   bB (bF (a3.c hr (aG (pv 3) (aG (pv 1) (aG (pv 2) aB))))),?_⟩
  refine⟨_,rfl,_,rfl,p,t,g,w',cs,cl,od,ks,rfl,B,hB,λH1 s1=> ?_⟩;have B1:=B.same s1;obtain⟨m,c,a,hp,hm,hc,ha⟩:=B1.D.ex;refine⟨_,rfl,p,_,rfl,A3.of hp,rfl,_,_,rfl,_,_,rfl,_,_,rfl,_,_,rfl,rfl,?_⟩;refine⟨_,rfl,_,rfl,a,cl,i,rfl,ha,B.D.ck.l12,hh,λH2 s2=> ?_⟩;exact⟨_,rfl,_,rfl,_,rfl,m,t,g,w',ks,i,rfl,hm.same s2,B.D.G,(B1.same s2).t,B.l,λt' H3 s3 hL=>q t' H3 ((s1.trans s2).trans s3) hL⟩
theorem A7u {g:bE}{cs:List Int}{cl:List C3}{i:Int}(h0:0<=totG g/\totG g<=594)(hc:0<=cntH cs cl i/\cntH cs cl i<1000000)(hN:1<=cntAll cs cl/\cntAll cs cl<1000000):(0<=dueT g cs cl i/\dueT g cs cl i<1000000000)/\1<=dueB g cs cl i/\dueB g cs cl i<1000000:=by obtain⟨s0,s1,s2,s3,_⟩:=lG hc.1 hN.1;have e1:shT cs cl i=frTop (cntH cs cl i) (cntAll cs cl):=rfl;have e2:shB cs cl i=frBot (cntH cs cl i) (cntAll cs cl):=rfl;rw[←e1]at s0 s2;rw[←e2]at s1 s3;have hm:0<=totG g*shT cs cl i/\totG g*shT cs cl i<=594*1000000:=⟨ze h0.1 s0,vg h0.2 (by omega) s0 (by decide)⟩;obtain⟨t0,t1,t2,t3,_⟩:=lG hm.1 s1;unfold dueT dueB;omega
noncomputable def dZ (g:bE)(cs:List Int)(cl:List C3)(t:Int×Int)(i:Int):Int×Int:=(t.1*dueB g cs cl i+dueT g cs cl i*t.2,t.2*dueB g cs cl i)
theorem B2n {g:bE}{cs:List Int}{cl:List C3}(h0:0<=totG g)(hC:∀i,0<=cntH cs cl i)(hN:1<=cntAll cs cl):∀(is:List Int)(t:Int×Int),1<=t.2->1<=(is.foldl (dZ g cs cl) t).2/\(is.foldl (dZ g cs cl) t).1*cntAll cs cl*t.2=(t.1*cntAll cs cl+totG g*(is.map (cntH cs cl)).sum*t.2)*(is.foldl (dZ g cs cl) t).2:=by
 intro is
 induction is with
 |nil=>intro t h;refine⟨h,?_⟩;simp
 |cons i is ih=>
  intro t h;obtain⟨b1,b2⟩:=tZ h0 (hC i) hN;have h2:1<=(dZ g cs cl t i).2:=by show 1<=t.2*_;exact uk (by omega:(1:Int)<=1*1) (vg h b1 (by omega) (by omega))
  obtain⟨k1,k2⟩:=ih (dZ g cs cl t i) h2;rw[List.foldl_cons];refine⟨k1,?_⟩;generalize (is.foldl (dZ g cs cl) (dZ g cs cl t i))=R at k1 k2⊢;rw[cz,fm];have e1:(dZ g cs cl t i).1=t.1*dueB g cs cl i+dueT g cs cl i*t.2:=rfl;have e2:(dZ g cs cl t i).2=t.2*dueB g cs cl i:=rfl;rw[e1,e2]at k2;generalize dueB g cs cl i=B at*;generalize dueT g cs cl i=D at*;generalize cntAll cs cl=N at*;generalize (is.map (cntH cs cl)).sum=S at*;generalize cntH cs cl i=c at*;generalize totG g=W at*;have hB:B≠0:=by omega
  refine vo hB ?_;have k3:R.1*N*t.2*B=(t.1*N*B+(D*N)*t.2+W*S*t.2*B)*R.2:=by
   rw[show R.1*N*t.2*B=R.1*N*(t.2*B) by rw[j5],k2]
   congr 1
   simp only[wo,r6,j5,kz,wq]
  rw[k3,b2];simp only[wo,r6,j5,kz,wq];omega
theorem B1c {cs:List Int}{cl:List C3}(G:cN cl):((Ba cl).map (cntH cs cl)).sum=cntAll cs cl:=by rw[qD cs (gF cl)];unfold ofL;rw[ug.mpr λc hc=>AS (kH G (ah.mpr ⟨c,hc,AS rfl⟩))]
theorem A63 {g:bE}{cs:List Int}{cl:List C3}(h0:0<=totG g)(hC:∀i,0<=cntH cs cl i)(hN:1<=cntAll cs cl)(G:cN cl):((Ba cl).foldl (dZ g cs cl) (0,1)).1=totG g*((Ba cl).foldl (dZ g cs cl) (0,1)).2:=by
 have k:=(B2n h0 hC hN (Ba cl) (0,1) (by decide)).2;rw[B1c G]at k;generalize (Ba cl).foldl (dZ g cs cl) (0,1)=R at k⊢;have hN0:cntAll cs cl≠0:=by omega
 refine vo hN0 ?_;have k:R.1*cntAll cs cl*1=(0*cntAll cs cl+totG g*cntAll cs cl*1)*R.2:=k;rw[Int.mul_one,Int.zero_mul,Ap,Int.mul_one]at k;rw[k];simp only[j5,kz,wq]
noncomputable def pU:Sp:=λvs H Q _=> ∃p g w cs cl od,vs=[.ref p]/\PleA H p g w cs cl od/\∀H',Same H H'->Q (.bl true) H'
noncomputable abbrev A4s:List Str:=["_law_plea_here","_law_top","_law_bottom","_law_holder","_law_one","_law_other"]
theorem A5g (F:D1 K mg "_law_dues" A14 ["_law_plea_here"])(a1:A1 P w K mg base 6 "holders_of" jY)(a2:A1 P w K mg base 9 "due_of" qW)(a3:A1 P w K mg base 7 "whole_worth" nW):A1 P w K mg base 10 "_law_dues" pU:=by
  refine F.k A4s ?_;ac_nf
  · obtain⟨p,g,w',cs,cl,od,rfl,D,q⟩:=h
    obtain⟨m,c,a,hp,hm,hc,ha⟩:=D.ex;have bt:=mZ D.G D.c6;have bc:=λi=>pA D.cu D.ck D.un i;refine⟨_,aU (cK (cL (cO aV (cO aV aB))) (bN rfl (bC (A4 1 nd) (bC (A4 2 nd) bO))))<|
      aU (fZ jk rfl (dH (a1.c hr (eF (cA cZ (pv 0) aV (λ_ _=>rfl)) aB))) (A4 3 nd)
        (aU (cK (a2.c hr (aG (pv 0) (aG (pv 3) aB))) (bN rfl (bC (A4 4 nd) (bC (A4 5 nd) bO))))<|
         bB (iQ (i:=1) (j:=2) rfl nd rfl rfl (by decide) rfl rfl (eM (bI dG (bI eE (pv 1) (pv 5)) (bI eE (pv 4) (pv 2))) (eM (bI eE (pv 2) (pv 5)) aB)) rfl)))<|
      bB (bF (dE gB (pv 1) (bI eE (a3.c hr (eF (cA cZ (pv 0) aV (λ_ _=>rfl)) aB)) (pv 2)) (nomark _))),?_⟩
    refine⟨by show 2<=gz;decide,λt0 ht0=> ?_⟩;have u0:=aY (o:=.tup [.int 0,.int 1]) ht0;refine⟨t0,_,rfl,A3.of aJ,rfl,_,_,rfl,_,_,rfl,rfl,?_⟩;refine⟨_,rfl,p,_,2,_,rfl,rfl,A3.of (u0 _ _ hp),rfl,a,cl,rfl,ha.ext u0.ext,D.ck,λlh H1 hlh s1 elh=> ?_⟩;refine⟨lh,rfl,⟨_,A2.of elh⟩,?_⟩;have s01:=u0.trans s1;refine eW (K:=K) (a:=lh) (xs:=(cH (holdS cl)).map λk:Nat=>V.int (k:Int)) (λj σ H'=>(∃o3 o4 o5,σ=[some (.ref p),some (.int (((Ba cl).take j).foldl (dZ g cs cl) (0,1)).1),some (.int (((Ba cl).take j).foldl (dZ g cs cl) (0,1)).2),o3,o4,o5])/\Same H1 H')
      ⟨⟨_,_,_,rfl⟩,Same.refl _⟩ (λj σ H' _ h=>A2.of (h.2 _ _ elh)) ?_ ?_
    · rintro j x σ H' hx ⟨⟨o3,o4,o5,rfl⟩,hs⟩
      obtain⟨i,hj,rfl⟩:∃i,(Ba cl)[j]?=some i/\x= .int i:=by
        unfold Ba;rw[br]at hx⊢;cases hb:(cH (holdS cl))[j]? with
        |none=>rw[hb]at hx;cases hx
        |some k=>rw[hb]at hx;cases hx;exact⟨_,rfl,rfl⟩
      have hk:bY cl i=true:=by
        obtain⟨k,hk,rfl⟩:=dv.mp (d3 hj);exact(mem_mem4.mp hk).2
      have et:((Ba cl).take (j+1)).foldl (dZ g cs cl) (0,1)=dZ g cs cl (((Ba cl).take j).foldl (dZ g cs cl) (0,1)) i:=by rw[fq,hj,bj];rfl
      rw[et];have ds:=A7u bt (bc i).1 (bc i).2;refine⟨_,rfl,_,rfl,p,g,w',cs,cl,od,i,rfl,(D.same s01).same hs,hk,λt H2 s2 ht=> ?_⟩;refine⟨t,_,rfl,A3.of ht,rfl,_,_,rfl,_,_,rfl,rfl,?_⟩;refine⟨_,rfl,_,rfl,_,_,rfl,rfl,.inr ⟨by omega,by omega⟩,_,rfl,_,rfl,_,_,rfl,rfl,.inl ⟨by omega,by omega⟩,_,_,rfl,rfl,_,rfl,_,rfl,_,_,rfl,rfl,.inr ⟨by omega,by omega⟩,_,_,rfl,⟨_,_,_,rfl⟩,hs.trans s2⟩
    · rintro σ H' ⟨⟨o3,o4,o5,rfl⟩,hs⟩
      have s2:=s01.trans hs;have el:((cH (holdS cl)).map λk:Nat=>V.int (k:Int)).length=(Ba cl).length:=by unfold Ba;rw[b8,b8]
      rw[el,fo (AY _)];obtain⟨m,c,a,hp,hm,hc,ha⟩:=(D.same s2).ex;refine⟨_,rfl,_,rfl,p,_,0,_,rfl,rfl,A3.of hp,rfl,m,g,w',rfl,hm,D.G,λH3 s3=> ?_⟩;refine⟨_,rfl,_,_,rfl,rfl,.inl ⟨by omega,by omega⟩,?_⟩;have e:=A63 (cs:=cs) bt.1 (λi=>(bc i).1.1) (bc 0).2.1 D.ck;have q':=q H3 (s2.trans s3);rw[e];refine⟨rfl,?_⟩;simpa using q'
theorem B2o {α:Type}(key:α->Int){hs:List Int}:∀{Z:List α},hs.Nodup->(∀z∈Z,key z∈hs)->(hs.flatMap λh=>Z.filter λz=>decide (key z=h)).Perm Z:=by
 induction hs with
 |nil=>intro Z _ h;cases Z with|nil=>exact .refl _|cons z Z=>exact absurd (h z AX) fc
 |cons h t ih=>
  intro Z nd hz;obtain⟨n1,n2⟩:=d9.mp nd;rw[bg];have e:(t.flatMap λk=>Z.filter λz=>decide (key z=k))=t.flatMap λk=>(Z.filter λz=> !decide (key z=h)).filter λz=>decide (key z=k):=A2j λk hk=>by
   rw[List.filter_filter];refine av λz _=> ?_;by_cases e:key z=k
   ·have:key z≠h:=λy=>n1 (y▸e▸hk);simp[e,this];exact λy=>this (e.trans y)
   ·simp[e]
  rw[e];exact((zf _).append (ih n2 λz hz'=>by
   obtain⟨a,b⟩:=dj.mp hz';rcases di.mp (hz z a)with y|y
   ·rw[y]at b;simp at b
   ·exact y)).trans (xr _ Z)
theorem vZ {C:List Pl}{hs ks:List Int}(nd:hs.Nodup)(hl:ks.length=C.length)(hk:∀k∈ks,k∈hs):(hs.flatMap (dU C ks)).Perm C:=by have h1:=(B2o (λz:Pl×Int=>z.2) (Z:=C.zip ks) nd λz hz=>hk _ (fe hz).2).map (·.1);rw[List.map_flatMap,c7 (by omega)]at h1;exact h1
theorem B1o {C R:List Pl}(hC:C.Pairwise A8)(hp:R.Perm C)(hs:R.Pairwise λa b=>HT.lexLt [b.1,b.2] [a.1,a.2]=false):R=C:=by
 refine lj.eq_of_pairwise (le:=λa b:Pl=>HT.lexLt [b.1,b.2] [a.1,a.2]=false) (λa b _ _ y z=> ?_) hs (hC.imp fun{a b} z=> ?_) hp
 ·have:=oT z y;injection this with e1 e2;injection e2 with e2
  exact rm e1 e2
 ·have z:HT.lexLt [a.1,a.2] [b.1,b.2]=true:=z;cases e:HT.lexLt [b.1,b.2] [a.1,a.2]with
  |false=>rfl
  |true=>have:=jH z e;rw[gZ]at this;cases this
theorem A9v {H:Hp}{ps qs:List gy}{C:List Pl}(h1:PlAt H ps C)(h2:PlAt H qs C):∃ks,E3 (A7 H 1) (ps.map V.ref) (qs.map V.ref) ks/\ks.all id=true:=by
 unfold PlAt at h1
 induction h1 generalizing qs with
 |nil=>cases h2;exact⟨[],trivial,rfl⟩
 | @cons p c ps cs r t ih=>
  cases h2 with
  | @cons q _ qs _ r2 t2=>
   obtain⟨ks,k1,k2⟩:=ih t2;refine⟨true::ks,⟨.inr ⟨p,q,_,_,[true,true],rfl,rfl,.inl ⟨r,r2⟩,⟨.inl ⟨_,_,rfl,rfl,(AS rfl).symm⟩,.inl ⟨_,_,rfl,rfl,(AS rfl).symm⟩,trivial⟩,rfl⟩,k1⟩,?_⟩;rw[aa,k2];rfl
noncomputable def rB:Sp:=λvs H Q _=> ∃p t g w cs cl od ks,vs=[.ref p,.ref t]/\ParA H p t g w cs cl od ks/\fQ g cs cl od ks=true/\∀H',Same H H'->Q (.bl true) H'
noncomputable abbrev nSh:List Str:=["_law_plea_here","_law_parting","_law_mead_here","_law_all_cells","_law_holder","_law_land"]
theorem yM {α β:Type}{F:α->β->Prop}{a c:List α}{b d:List β}(h:Paired F a b)(k:Paired F c d):Paired F (a++c) (b++d):=by
 induction h with
 |nil=>exact k
 |cons r _ ih=>exact .cons r ih
theorem uP {g:bE}{cl:List C3}{ks:List Int}(G:cN cl)(hl:ks.length=(bD pos g).length)(hk:∀k∈ks,bY cl k=true):((Ba cl).flatMap (bZ g ks)).Perm (bD pos g):=vZ (gF cl) hl λk h=>kH G (hk k h)
theorem A52 (F:D1 K mg "_law_shown" tD ["_law_plea_here","_law_parting"])(T2:eN mg)(aO:A1 P w K mg base 6 "holders_of" jY)(aL:A1 P w K mg base 14 "land_of" vI)(aH:A1 P w K mg base 8 "hangs_together" (oY oP))(aR:A1 P w K mg base 8 "at_road" (oY oV))(aF:A1 P w K mg base 12 "fits_holder" lK)(aC:A1 P w K mg base 6 "cells_of" (dS pos))(aP:A1 P w K mg base 12 "is_parting" kR):A1 P w K mg base 15 "_law_shown" rB:=by
  refine F.k nSh ?_;ac_nf
  · obtain⟨p,t,g,w',cs,cl,od,ks,rfl,B,hB,q⟩:=h
    obtain⟨m,c,a,hp,hm,hc,ha⟩:=B.D.ex;have fit:∀i,i∈Ba cl->dC g cs cl od i (bZ g ks i)=true:=λi hi=>by
      obtain⟨k,hk,rfl⟩:=dv.mp hi;exact ae.mp hB k hk
    refine⟨_,aU (iQ (i:=2) (j:=3) rfl nd rfl rfl (by decide) rfl rfl (eF (cA cZ (pv 0) aV (λ_ _=>rfl)) (lM (eG aB) aB)) rfl)<|
      aU (fZ jk rfl (dH (aO.c hr (eF (cA cZ (pv 0) aV (λ_ _=>rfl)) aB))) (A4 4 nd)
        (aU (bP (i:=5) nd rfl (jr rfl) (aL.c hr (aG (pv 0) (aG (pv 1) (aG (pv 4) aB)))))<|
         aU (bS (PW.pt (fH (bV (bL (aH.c hr (aG (pv 2) (aG (pv 5) aB))))) (fH (bV (bL (aR.c hr (aG (pv 2) (aG (pv 5) aB))))) (gJ (bV (bL (aF.c hr (aG (pv 0) (aG (pv 4) (aG (pv 5) aB)))))))))) dR bT)<|
         bB (cP (jB ka w6 w8 A42 (pv 3) (aG (pv 5) aB)))))<|
      bB (bF (gH (dE (A53 1 (dX hr)) (bJ oK rfl T2.sorted za (aG (pv 3) aB)) (aC.c hr (aG (pv 2) aB)) (nomark _)) (gI (aP.c hr (aG (pv 0) (aG (pv 1) aB)))))),?_⟩
    refine⟨_,rfl,p,_,0,_,rfl,rfl,A3.of hp,rfl,by show 0<=gz;decide,λl hl=> ⟨_,_,rfl,?_⟩⟩;have u0:=aY (o:=.lst []) hl;refine⟨_,rfl,p,_,2,_,rfl,rfl,A3.of (u0 _ _ hp),rfl,a,cl,rfl,ha.ext u0.ext,B.D.ck,λlh H1 hlh s1 elh=> ?_⟩;refine⟨lh,rfl,⟨_,A2.of elh⟩,?_⟩;have nl:lh≠l:=λe=>by rw[e,aJ]at hlh;cases hlh
    have e0:Same H H1:=u0.trans s1;have l10:(bD pos g).length<=10:=by rw[fL];exact B.D.G.c10
    have short:∀j,(((Ba cl).take j).flatMap (bZ g ks)).length<=10:=λj=>by
      have h1:=(uP B.D.ck B.l B.h).length_eq;rw[←List.take_append_drop j (Ba cl),List.flatMap_append,bz]at h1;omega
    refine eW (K:=K) (a:=lh) (xs:=(cH (holdS cl)).map λk:Nat=>V.int (k:Int)) (λj σ H'=>(∃o4 o5,σ=[some (.ref p),some (.ref t),some (.ref m),some (.ref l),o4,o5])/\Same H H'/\H' lh=some (.lst ((cH (holdS cl)).map λk:Nat=>V.int (k:Int)))/\∃ps,H' l=some (.lst ((ps:List gy).map V.ref))/\PlAt H' ps (((Ba cl).take j).flatMap (bZ g ks)))
      ⟨⟨_,_,rfl⟩,e0,elh,[],s1 _ _ aJ,.nil⟩ (λj σ H' _ h=>A2.of h.2.2.1) ?_ ?_
    · rintro j x σ H' hx ⟨⟨o4,o5,rfl⟩,sH,eh,ps,el,hP⟩
      obtain⟨i,hj,rfl⟩:∃i,(Ba cl)[j]?=some i/\x= .int i:=by
        unfold Ba;rw[br]at hx⊢;cases hb:(cH (holdS cl))[j]? with
        |none=>rw[hb]at hx;cases hx
        |some k=>rw[hb]at hx;cases hx;exact⟨_,rfl,rfl⟩
      have hi:=d3 hj;have hk:bY cl i=true:=by
        obtain⟨k,hk,rfl⟩:=dv.mp hi;exact(mem_mem4.mp hk).2
      have et:((Ba cl).take (j+1)).flatMap (bZ g ks)=((Ba cl).take j).flatMap (bZ g ks)++bZ g ks i:=by rw[fq,hj,List.flatMap_append];show _++(bZ g ks i++[])=_;rw[ak]
      have hf:=fit i hi;have hL:=kU (g:=g) (ks:=ks) i B.l;have hs3:=short (j+1);rw[et]at hs3⊢;rw[bz]at hs3;unfold dC gG at hf;obtain⟨⟨f1,f2⟩,f3⟩:((oV g (bZ g ks i))=true/\iI (bZ g ks i)=true)/\fU g cs cl od i (bZ g ks i)=true:=by simpa[oV]using hf
      refine⟨_,rfl,_,rfl,_,rfl,p,t,g,w',cs,cl,od,ks,i,rfl,B.same sH,hB,hk,λtl H2 s2 hq=> ?_⟩;have sH2:=sH.trans s2;refine⟨_,rfl,_,rfl,m,g,w',tl,_,rfl,hm.same sH2,B.D.G,hq,hL,λH3 s3=> ⟨_,rfl,?_⟩⟩;rw[show oP g (bZ g ks i)=true from f2];refine bR ⟨_,rfl,_,rfl,m,g,w',tl,_,rfl,hm.same (sH2.trans s3),B.D.G,A6.ext hq s3.ext,hL,λH4 s4=> ⟨_,rfl,?_⟩⟩;rw[f1];have s24:=s3.trans s4;refine bR ⟨_,rfl,_,rfl,_,rfl,p,g,w',cs,cl,od,i,tl,_,rfl,B.D.same (sH2.trans s24),hk,A6.ext hq s24.ext,hL,λH5 s5=> ⟨_,rfl,?_⟩⟩;rw[fit i hi];have s25:=s24.trans s5;have el5:=s25 _ _ (s2 _ _ el);obtain⟨qs,etl,hQ⟩:=A6.ext hq s25.ext;have hp5:PlAt H5 ps _:=hP.same (s2.trans s25);have h1:ps.length=_:=Paired.length hp5;have h2:qs.length=_:=Paired.length hQ;refine bR ⟨_,rfl,.inl ⟨rfl,_,A2.of el5⟩,_,rfl,l,tl,_,_,rfl,rfl,el5,etl,by rw[jh,b8,b8];omega,⟨_,_,rfl⟩,λb u e=> ?_,?_,ps++qs,?_,?_⟩
      · rw[bA (bK e hl)];exact s25 _ _ (s2 _ _ (sH _ _ e))
      · rw[bA nl];exact s25 _ _ (s2 _ _ eh)
      · rw[aJ,cx]
      · exact yM (Paired.mapP hp5 λ_ _ z=>PlA.put el5 z) (Paired.mapP hQ λ_ _ z=>PlA.put el5 z)
    · rintro σ H' ⟨⟨o4,o5,rfl⟩,sH,eh,ps,el,hP⟩
      have e9:((cH (holdS cl)).map λk:Nat=>V.int (k:Int)).length=(Ba cl).length:=by unfold Ba;rw[b8,b8]
      rw[e9,fo (AY _)]at hP;have h40:=short (Ba cl).length;rw[fo (AY _)]at h40;refine⟨_,rfl,?_⟩;refine xL (X:=(fC CX0 P w K mg base nSh (k8 "_law_shown") (bH tD) f cdv A outer s H E).nox) (Q:=λx H1=>mQ (dS pos) [] E0 (cD (dY 2) iF) [some (V.ref p),some (V.ref t),some (V.ref m),some (V.ref l),o4,o5] H1 λy H2=>sJ 1 id x y H2 λx H1=> ∃c,x=V.bl c/\if c=true then mQ kR [] E0 (cD (dY 0) (cD (dY 1) iF)) [some (V.ref p),some (V.ref t),some (V.ref m),some (V.ref l),o4,o5] H1 Q else Q (.bl false) H1) (R:=(Ba cl).flatMap (bZ g ks)) el hP (by omega) λl9 qs' R' H2 hl9 s9 el9 hP9 hp9 hs9=> ?_;have eR:R'=bD pos g:=B1o (lY pos g) (hp9.trans (uP B.D.ck B.l B.h)) hs9;subst eR;have sH2:=sH.trans s9;refine⟨_,rfl,m,g,w',rfl,hm.same sH2,B.D.G,λH3 lc pc hlc s3 elc hPc=> ?_⟩;obtain⟨bs,k1,k2⟩:=A9v (hP9.same s3) hPc;refine⟨l9,lc,_,_,bs,rfl,rfl,.inr ⟨s3 _ _ el9,elc⟩,k1,_,rfl,?_⟩;rw[show id (bs.all id)=true from k2];refine dW ⟨_,rfl,_,rfl,p,t,g,w',cs,cl,od,ks,rfl,B.same (sH2.trans s3),λH4 s4=> ?_⟩;rw[hB];exact q H4 ((sH2.trans s3).trans s4)
theorem landK_mem:c∈dU C ks h↔ ∃i:Nat,C[i]?=some c/\ks[i]?=some h:=by
 unfold dU;rw[dv];constructor
 ·rintro⟨z,hz,rfl⟩;obtain⟨h1,h2⟩:=dj.mp hz;obtain⟨i,hi⟩:=du.mp h1;obtain⟨a,b⟩:=bu.mp hi;exact⟨i,a,by rw[b,of_decide_eq_true h2]⟩
 ·rintro⟨i,h1,h2⟩;exact⟨(c,h),dj.mpr ⟨d3 (bu.mpr ⟨h1,h2⟩),AS rfl⟩,rfl⟩
theorem A18 {α:Type}{C:List α}(nd:C.Nodup){i j:Nat}{c:α}(h1:C[i]?=some c)(h2:C[j]?=some c):i=j:=by exact(List.getElem?_inj (AR.mp h1).1 nd).mp (h1.trans h2.symm)
theorem A36 {C:List Pl}{ks:List Int}{Fh:Int->List (List Pl)}(hC:C.Nodup):∀(n:Nat){hs:List Int},hs.length=n->hs.Nodup->(∀h∈hs,dU C ks h∈Fh h)->hs.map (dU C ks)∈cV (hs.map Fh):=by
 intro n
 induction n with
 |zero=>intro hs h _ _;cases b6.mp h;exact d6.mpr rfl
 |succ n ih=>
  intro hs hl nd hF;rcases qr hs with rfl| ⟨t,h,rfl⟩
  ·cases hl
  ·rw[qt]at*;rw[cx,cx];show _∈cV (t.map Fh++[Fh h]);rw[mX];obtain⟨n1,n2,n3⟩:=d8.mp nd;refine dm.mpr ⟨dU C ks h,hF h (by simp),dv.mpr ⟨t.map (dU C ks),dj.mpr ⟨ih (by rw[bz]at hl;exact x8 hl) n1 λk hk=>hF k (de _ hk),?_⟩,rfl⟩⟩;refine ae.mpr λc hc=> ?_
   suffices hm:¬c∈(t.map (dU C ks)).flatten by rw[AU hm];rfl
   intro hm;obtain⟨L,hL,hcL⟩:=dq.mp hm;obtain⟨k,hk,rfl⟩:=dv.mp hL;obtain⟨i,a1,a2⟩:=landK_mem.mp hc;obtain⟨j,b1,b2⟩:=landK_mem.mp hcL;rw[A18 hC b1 a1,a2]at b2;exact n3 k hk h AX (ig b2).symm
theorem B0l (hC:C.Nodup)(hn:hs.Nodup)(o:Lfo C (hs.map Fh)):ks∈Ps C hs Fh↔ks.length=C.length/\(∀k∈ks,k∈hs)/\∀h∈hs,dU C ks h∈Fh h:=by
 constructor
 ·intro h;obtain⟨q,hq,rfl⟩:=dv.mp h;obtain⟨h1,h2⟩:=dj.mp hq;obtain⟨k1,k2,k3⟩:=oQ hC o h1;rw[b8]at k1;have e:=A0z hC hn k2 k1.symm k3 (of_decide_eq_true h2);have ln:=pS _ rfl (λLs hLs L hL=>hC.sublist (o.sub Ls hLs L hL)) q h1;refine⟨by unfold eT;rw[b8],λk hk=> ?_,λh hh=> ?_⟩
  ·obtain⟨c,hc,rfl⟩:=dv.mp hk;have hin:c∈q.flatten:=by
    have AB:∀c∈q.flatten,c∈C:=λc hc=>by
     obtain⟨L,hL,h⟩:=dq.mp hc;exact(k3 L hL).subset h
    by_cases z:c∈q.flatten
    ·exact z
    ·have:=fS (d9.mpr ⟨z,k2⟩) (λd hd=>(di.mp hd).elim (λe=>e▸hc) (AB d));have:=of_decide_eq_true h2;rw[b4]at*;omega
   have hs1:(own hs q c).isSome=true:=by rw[xW k1.symm];exact AS hin
   obtain⟨k,hk⟩:=j3.mp hs1;rw[hk];show k∈hs;unfold own at hk;obtain⟨z,hz,rfl⟩:=x6.mp hk;exact(fe (dz hz)).1
  ·obtain⟨j,hj⟩:=du.mp hh;have hqj:q[j]?=some (dU C (eT C hs q) h):=by
    have:=congrArg (λl:List (List Pl)=>l[j]?) e;exact this.trans (by rw[br,hj];rfl)
   obtain⟨Ls,hLs,hm⟩:=kD ln.p hqj;rw[br,hj]at hLs;cases hLs;exact hm
 ·rintro⟨h1,h2,h3⟩;have hr:=A36 (ks:=ks) (Fh:=Fh) hC _ rfl hn h3;have pm:=vZ hn h1 h2;rw[List.flatMap_def]at pm;have nd:(hs.map (dU C ks)).flatten.Nodup:=pm.nodup_iff.mpr hC;refine dv.mpr ⟨_,dj.mpr ⟨hr,AS pm.length_eq⟩,?_⟩;unfold eT;refine List.ext_getElem? λi=> ?_;rw[br];cases hi:C[i]? with
  |none=>rw[ma]at hi;rw[ma.mpr (by omega)];rfl
  |some c=>
   have hl:=(AR.mp hi).1;have hk:ks[i]?=some (ks[i]'(by omega)):=bq _;rw[hk];generalize ks[i]'(by omega)=k at hk;obtain⟨j,hj⟩:=du.mp (h2 k (d3 hk));have:=(sO (c:=c) hn nd (by rw[b8]) hj (by rw[br,hj];rfl)).mpr (landK_mem.mpr ⟨i,hi,hk⟩);show some ((own hs (hs.map (dU C ks)) c).getD 0)=_;rw[this];rfl
theorem fitL_mem {g:bE}{cs:List Int}{cl:List C3}{od i:Int}{L:List Pl}:L∈dI g cs cl od i↔L.Sublist (bD pos g)/\dC g cs cl od i L=true:=by unfold dI lW dC;rw[dj,dj,i4,and_assoc];exact⟨λh=> ⟨hX h.1,h.2⟩,λh=> ⟨pF h.1,h.2⟩⟩
theorem B4r (g:bE)(cs:List Int)(cl:List C3)(od i:Int):(dI g cs cl od i).Nodup:=
 (((B18 (lY pos g)).sublist a8).sublist a8).imp fun{a b} z e=>by rw[e,gZ]at z;cases z
theorem zZ (g:bE)(cs:List Int)(cl:List C3)(od:Int):Lfo (bD pos g) ((Ba cl).map (dI g cs cl od)):=⟨λLs h L hL=>by
 obtain⟨i,_,rfl⟩:=dv.mp h;exact(fitL_mem.mp hL).1⟩
theorem fO {g:bE}{cs:List Int}{cl:List C3}{od:Int}(G:cN cl){ks:List Int}:ks∈Bb g cs cl od↔ks.length=(bD pos g).length/\(∀k∈ks,bY cl k=true)/\fQ g cs cl od ks=true:=by
 unfold Bb;rw[B0l (hZ g) (gF cl) (zZ g cs cl od)];refine and_congr_right λhl=> ?_;refine and_congr ⟨λh k hk=>pQ (h k hk),λh k hk=>kH G (h k hk)⟩ ?_;unfold fQ;rw[ae];exact⟨λh k hk=>(fitL_mem.mp (h (k:Int) (dv.mpr ⟨k,hk,rfl⟩))).2,λh k hk=>by
  obtain⟨k,hk',rfl⟩:=dv.mp hk;exact fitL_mem.mpr ⟨kU _ hl,h k hk'⟩⟩
theorem sF (g:bE)(cs:List Int)(cl:List C3)(od:Int):(Bb g cs cl od).Nodup:=B1e (hZ g) (gF cl) (zZ g cs cl od) λh _=>B4r g cs cl od h
theorem A2k {α β:Type} [DecidableEq β]{A:List α}{B:List β}(f:α->β)(nd:A.Nodup)(hf:∀a∈A,f a∈B)(inj:∀a∈A,∀b∈A,f a=f b->a=b):A.length<=B.length:=by
 have h1:(A.map f).Nodup:=by
  unfold List.Nodup;rw[fh];exact(qu.mp nd).imp fun{a b} z e=>z.2.2 (inj a z.1 b z.2.1 e)
 have:=fS h1 λx hx=>by
  obtain⟨a,ha,rfl⟩:=dv.mp hx;exact hf a ha
 rwa [b8]at this
theorem A57 {g:bE}{cs:List Int}{cl:List C3}{od od' i:Int}{L:List Pl}(h0:0<=totG g)(hC:0<=cntH cs cl i)(hN:1<=cntAll cs cl)(h:od<=od')(hf:dC g cs cl od i L=true):dC g cs cl od' i L=true:=by unfold dC at*;rw[i4]at*;refine⟨hf.1,?_⟩;have h1:=of_decide_eq_true hf.2;obtain⟨b1,_⟩:=tZ h0 hC hN;exact AS (uk h1 (kd h (by omega)))
theorem wT {g:bE}{cs:List Int}{cl:List C3}{od od':Int}{ks:List Int}(h0:0<=totG g)(hC:∀i,0<=cntH cs cl i)(hN:1<=cntAll cs cl)(h:od<=od')(hp:fQ g cs cl od ks=true):fQ g cs cl od' ks=true:=by unfold fQ at*;rw[ae]at*;exact λk hk=>A57 h0 (hC _) hN h (hp k hk)
theorem A7b {g:bE}{cs:List Int}{cl:List C3}{od od':Int}(h0:0<=totG g)(hC:∀i,0<=cntH cs cl i)(hN:1<=cntAll cs cl)(G:cN cl)(h:od<=od'):(Bb g cs cl od).length<=(Bb g cs cl od').length:=
 fS (sF g cs cl od) λks hk=>by
  obtain⟨h1,h2,h3⟩:=(fO G).mp hk;exact(fO G).mpr ⟨h1,h2,wT h0 hC hN h h3⟩
theorem A56 {α β:Type}(f:α->List β){a b:List α}(h:a.Sublist b):(a.flatMap f).Sublist (b.flatMap f):=by
 induction h with
 |slnil=>exact .slnil
 |cons x _ ih=>rw[bg];exact yf.trans ih (List.sublist_append_right _ _)
 |cons_cons x _ ih=>rw[bg,bg];exact(yf.refl _).append ih
theorem A8t (f:Pl->Int){F:List Pl}(h:∀x∈F,0<=f x):0<=(F.map f).sum:=by
 induction F with
 |nil=>exact m6 _
 |cons x F ih=>rw[cz,fm];exact Int.add_nonneg (h x AX) (ih λy hy=>h y (AW _ hy))
theorem oW {a b:List Int}(h:a.Perm b):a.sum=b.sum:=by
 induction h with
 |nil=>rfl
 |cons x _ ih=>rw[fm,fm,ih]
 |swap x y l=>simp only[fm];omega
 |trans _ _ h1 h2=>exact h1.trans h2
theorem B2c (f:Pl->Int):∀{U F:List Pl},U.Nodup->(∀x∈U,x∈F)->(∀x∈F,0<=f x)->(U.map f).sum<=(F.map f).sum:=by
 intro U
 induction U with
 |nil=>
  intro F _ _ h;exact A8t f h
 |cons x U ih=>
  intro F nd hs h;obtain⟨n1,n2⟩:=d9.mp nd;have hp:=List.perm_cons_erase (hs x AX);have e:(F.map f).sum=f x+((F.erase x).map f).sum:=by rw[oW (hp.map f),cz,fm]
  rw[e,cz,fm];exact Int.add_le_add_left (ih n2 (λy hy=>(List.mem_erase_of_ne (λz:y=x=>n1 (by rw[←z];exact hy))).mpr (hs y (AW _ hy))) λy hy=>h y (List.mem_of_mem_erase hy)) _
theorem A5h (g:bE)(f:Int->List Pl):∀ks:List Int,cX g (ks.flatMap f)=(ks.map λk=>cX g (f k)).sum:=by
 intro ks;unfold cX
 induction ks with
 |nil=>rfl
 |cons k ks ih=>rw[bg,cx,fk,ih,cz,fm]
theorem A7a (f:Int->List Pl):∀{ks:List Int},(∀k∈ks,f k≠[])->ks.length<=(ks.flatMap f).length:=by
 intro ks
 induction ks with
 |nil=>intro _;exact AY _
 |cons k ks ih=>
  intro h;have:=uf.mpr (h k AX);have:=ih λj hj=>h j (AW _ hj);rw[bg,bz,b4];omega
theorem A71 {W N od:Int}{c u:Int->Int}:∀{ks:List Int},(∀k∈ks,W*c k - od*N<=u k*N)->W*(ks.map c).sum - od*N*ks.length<=(ks.map u).sum*N:=by
 intro ks
 induction ks with
 |nil=>intro _;simp
 |cons k ks ih=>
  intro h;have h1:=h k AX;have h2:=ih λj hj=>h j (AW _ hj);rw[cz,cz,fm,fm,r6,wo,b4];have:od*N*((ks.length+1:Nat):Int)=od*N*ks.length+od*N:=by rw[yj,r6];simp
  rw[this];omega
theorem A6x {g:bE}{w:Nat}{cs:List Int}{cl:List C3}{od:Int}{lot:List Int}(G:cR g w)(h0:0<=totG g)(hC:∀i,0<=cntH cs cl i)(hN:1<=cntAll cs cl)(K:cN cl)(h:kJ g cs cl od=some lot):Bb g cs cl od=[]:=by
 cases hP:Bb g cs cl od with
 |nil=>rfl
 |cons ks t=>
  exfalso;obtain⟨p1,p2,p3⟩:=(fO (ks:=ks) K).mp (by rw[hP];exact AX);unfold kJ at h;have hl:=uZ (dz h);have hb:=List.find?_some h;have hfit:∀k∈lot,bZ g ks k∈dI g cs cl od k:=λk hk=>by
   obtain⟨n,hn,rfl⟩:=dv.mp (hl.subset hk);exact fitL_mem.mpr ⟨kU _ p1,ae.mp p3 n hn⟩
  have nd:(lot.flatMap (bZ g ks)).Nodup:=((uP K p1 p2).nodup_iff.mpr (hZ g)).sublist (A56 _ hl);have hsub:∀c∈lot.flatMap (bZ g ks),c∈eD g cs cl od lot:=λc hc=>by
   obtain⟨k,hk,hck⟩:=dm.mp hc;have hcc:c∈bD pos g:=(kU (g:=g) (ks:=ks) k p1).subset hck;exact dj.mpr ⟨hcc,ah.mpr ⟨k,hk,AS (dj.mpr ⟨hcc,ah.mpr ⟨_,hfit k hk,AS hck⟩⟩)⟩⟩
  have ne:∀k∈lot,bZ g ks k≠[]:=λk hk e=>by
   have:=(fitL_mem.mp (hfit k hk)).2;rw[e]at this;unfold dC gG at this;simp at this
  have l1:=A7a (bZ g ks) ne;have l2:=fS nd hsub;have hnn:∀c∈eD g cs cl od lot,0<=atG g c:=λc hc=>(yR G (dj.mp hc).1).1;have w1:cX g (lot.flatMap (bZ g ks))<=cX g (eD g cs cl od lot):=B2c (atG g) nd hsub hnn;have s1:=A71 (W:=totG g) (N:=cntAll cs cl) (od:=od) (c:=cntH cs cl) (u:=λk=>cX g (bZ g ks k)) (ks:=lot) λk hk=>by
   have:=(fitL_mem.mp (hfit k hk)).2;unfold dC at this;rw[i4,A48 h0 (hC k) hN]at this;have h2:¬od*cntAll cs cl<ab (cX g (bZ g ks k)*cntAll cs cl - totG g*cntH cs cl k):=by simpa using this.2
   have h3:=(ab_le.mp (qz.mp h2)).1;show _<=cX g (bZ g ks k)*cntAll cs cl;omega
  rw[qD cs ((gF cl).sublist hl),←A5h]at s1;have w2:=kd w1 (show 0<=cntAll cs cl by omega);unfold gY iS at hb;rw[Bool.or_eq_true]at hb;rcases hb with z|z
  ·have:=of_decide_eq_true z;omega
  ·have:=of_decide_eq_true z;omega
noncomputable def ren (r:Int->Int)(c:C3):C3:=(r c.1,c.2)
structure Nmd (r:Int->Int)(cl cl':List C3):Prop where
 inj:∀a b,bY cl a=true->bY cl b=true->r a=r b->a=b
 p:cl'.Perm (cl.map (ren r))
theorem tP {cl:List C3}{c:C3}(h:c∈cl):bY cl c.1=true:=ah.mpr ⟨c,h,AS rfl⟩
theorem Nmd.has {r:Int->Int}{cl cl':List C3}(h:Nmd r cl cl'){j:Int}:bY cl' j=true↔ ∃i,bY cl i=true/\r i=j:=by
 constructor
 ·intro z;obtain⟨c,hc,e⟩:=ah.mp z;obtain⟨d,hd,rfl⟩:=dv.mp (h.p.mem_iff.mp hc);exact⟨d.1,tP hd,of_decide_eq_true e⟩
 ·rintro⟨i,z,rfl⟩;obtain⟨c,hc,e⟩:=ah.mp z;refine ah.mpr ⟨ren r c,h.p.mem_iff.mpr (dv.mpr ⟨c,hc,rfl⟩),AS ?_⟩;show r c.1=r i;rw[of_decide_eq_true e]
theorem xH (cs:List Int){a b:List C3}(h:a.Perm b):cntAll cs a=cntAll cs b:=oW (h.map _)
theorem A0i (cs:List Int)(r:Int->Int)(a:List C3):cntAll cs (a.map (ren r))=cntAll cs a:=by unfold cntAll;rw[c9];rfl
theorem Nmd.all {r:Int->Int}{cl cl':List C3}(h:Nmd r cl cl')(cs:List Int):cntAll cs cl'=cntAll cs cl:=(xH cs h.p).trans (A0i cs r cl)
theorem Nmd.one {r:Int->Int}{cl cl':List C3}(h:Nmd r cl cl')(cs:List Int){i:Int}(hi:bY cl i=true):cntH cs cl' (r i)=cntH cs cl i:=by
 unfold cntH ofH;rw[xH cs (h.p.filter _),az,A0i]
 congr 1
 refine av λc hc=> ?_;show decide (r c.1=r i)=decide (c.1=i);by_cases e:c.1=i
 ·rw[e,AS rfl,AS rfl]
 ·rw[AU e,AU λz=>e (h.inj _ _ (tP hc) hi z)]
theorem Nmd.fit {r:Int->Int}{cl cl':List C3}(h:Nmd r cl cl'){g:bE}{cs:List Int}{od i:Int}{L:List Pl}(hi:bY cl i=true):dC g cs cl' od (r i) L=dC g cs cl od i L:=by have e1:=h.all cs;have e2:=h.one cs hi;unfold dC fU dueT dueB shT shB;rw[e1,e2]
theorem Nmd.land {r:Int->Int}{cl cl':List C3}(h:Nmd r cl cl'){g:bE}{ks:List Int}{i:Int}(hk:∀k∈ks,bY cl k=true)(hi:bY cl i=true):bZ g (ks.map r) (r i)=bZ g ks i:=by
 unfold bZ;have e:(bD pos g).zip (ks.map r)=((bD pos g).zip ks).map λz=>(z.1,r z.2):=by
  rw[List.zip_map_right];rfl
 rw[e,az,c9];show((_:List (Pl×Int)).map λz=>z.1)=_
 congr 1
 refine av λz hz=> ?_;have hz2:=hk z.2 (fe hz).2;show decide (r z.2=r i)=decide (z.2=i);by_cases e:z.2=i
 ·rw[e,AS rfl,AS rfl]
 ·rw[AU e,AU λy=>e (h.inj _ _ hz2 hi y)]
theorem B3x {r:Int->Int}:∀{a b:List Int},(∀x∈a,∀y∈b,r x=r y->x=y)->a.map r=b.map r->a=b:=by
 intro a
 induction a with
 |nil=>intro b _ h;cases b with|nil=>rfl|cons y b=>cases h
 |cons x a ih=>
  intro b hi h;cases b with
  |nil=>cases h
  |cons y b=>
   injection h with h1 h2;rw[hi x AX y AX h1,ih (λu hu v hv=>hi u (AW _ hu) v (AW _ hv)) h2]
theorem Nmd.le {r:Int->Int}{cl cl':List C3}(h:Nmd r cl cl')(G:cN cl)(G':cN cl')(g:bE)(cs:List Int)(od:Int):(Bb g cs cl od).length<=(Bb g cs cl' od).length:=by
 refine A2k (·.map r) (sF g cs cl od) (λks hks=> ?_) λa ha b hb e=> ?_
 ·obtain⟨h1,h2,h3⟩:=(fO G).mp hks;refine(fO G').mpr ⟨by rw[b8];exact h1,λk hk=> ?_,?_⟩
  ·obtain⟨i,hi,rfl⟩:=dv.mp hk;exact h.has.mpr ⟨i,h2 i hi,rfl⟩
  ·refine ae.mpr λk hk=> ?_;obtain⟨i,hi,e⟩:=h.has.mp (mem_mem4.mp hk).2;rw[←e,h.land h2 hi,h.fit hi];obtain⟨n,hn,rfl⟩:=dv.mp (kH G hi);exact ae.mp h3 n hn
 ·obtain⟨_,a2,_⟩:=(fO G).mp ha;obtain⟨_,b2,_⟩:=(fO G).mp hb;exact B3x (λx hx y hy z=>h.inj _ _ (a2 x hx) (b2 y hy) z) e
open Classical in
theorem Nmd.back {r:Int->Int}{cl cl':List C3}(h:Nmd r cl cl'):∃q,Nmd q cl' cl:=by
 obtain⟨q,hq⟩:∃q:Int->Int,∀i,bY cl i=true->q (r i)=i:=⟨λj=>if z:∃i,bY cl i=true/\r i=j then Classical.choose z else 0,λi hi=>by
  have z:∃k,bY cl k=true/\r k=r i:=⟨i,hi,rfl⟩;show(if z:∃k,bY cl k=true/\r k=r i then Classical.choose z else 0)=i;rw[dif_pos z];exact h.inj _ _ (yt z).1 hi (yt z).2⟩
 refine⟨q,λa b ha hb e=> ?_,?_⟩
 ·obtain⟨i,hi,rfl⟩:=h.has.mp ha;obtain⟨j,hj,rfl⟩:=h.has.mp hb;rw[hq i hi,hq j hj]at e;rw[e]
 ·have e:(cl.map (ren r)).map (ren q)=cl:=by
   rw[c9]
   conv=>rhs;rw[←c8 cl]
   refine cy λc hc=> ?_;show(q (r c.1),c.2)=c;rw[hq _ (tP hc)]
  have:=(h.p.map (ren q));rw[e]at this;exact this.symm
theorem Nmd.eq {r:Int->Int}{cl cl':List C3}(h:Nmd r cl cl')(G:cN cl)(G':cN cl')(g:bE)(cs:List Int)(od:Int):(Bb g cs cl' od).length=(Bb g cs cl od).length:=by obtain⟨q,hq⟩:=h.back;exact Nat.le_antisymm (hq.le G' G g cs od) (h.le G G' g cs od)
noncomputable def bX (g:bE):bE:=g.map List.reverse
noncomputable def Bc (w:Nat)(c:Pl):Pl:=(c.1,(w:Int) - 1 - c.2)
theorem dQ (w:Nat)(c:Pl):Bc w (Bc w c)=c:=by
 unfold Bc;obtain⟨a,b⟩:=c;show(a,(w:Int) - 1 -((w:Int) - 1 - b))=(a,b)
 congr 1;omega
theorem zN (g:bE):bX (bX g)=g:=by
 unfold bX;rw[c9]
 conv=>rhs;rw[←c8 g]
 exact cy λx _=>List.reverse_reverse x
theorem tW {g:bE}{w:Nat}(h:∀xs∈g,xs.length=w):∀xs∈bX g,xs.length=w:=λxs hx=>by
 obtain⟨ys,hy,rfl⟩:=dv.mp hx;rw[cf];exact h ys hy
theorem tI {g:bE}{w:Nat}(h:∀xs∈g,xs.length=w){f:Int->Bool}{c:Pl}(hc:c∈bD f (bX g)):Bc w c∈bD f g/\atG (bX g) c=atG g (Bc w c):=by
 obtain⟨i,j,xs,x,rfl,h1,h2,h3⟩:=mem_gridF.mp hc;have e0:=iZ h1 h2;unfold bX at h1;rw[br]at h1;cases e:g[i]? with
 |none=>rw[e]at h1;cases h1
 |some ys=>
  rw[e]at h1;have h1:=ig h1;subst h1;have hw:=h ys (d3 e);have hj:j<ys.length:=by have:=(AR.mp h2).1;rwa [cf]at this
  rw[qp hj,hw]at h2;have em:Bc w ((i:Int),(j:Int))=((i:Int),((w - 1 - j:Nat):Int)):=by unfold Bc;congr 1;show(w:Int) - 1 -(j:Int)=_;omega
  rw[em,e0];exact⟨mem_gridF.mpr ⟨i,w - 1 - j,ys,x,rfl,e,h2,h3⟩,(iZ e h2).symm⟩
theorem jJ {g:bE}{w:Nat}(h:∀xs∈g,xs.length=w){f:Int->Bool}{c:Pl}:c∈bD f (bX g)↔Bc w c∈bD f g:=by
 refine⟨λz=>(tI h z).1,λz=> ?_⟩;rw[←zN g]at z;have:=(tI (tW h) z).1
 rwa [dQ]at this
theorem A7m (g:bE):totG (bX g)=totG g:=by
 unfold totG bX;rw[c9]
 congr 1
 refine cy λxs _=> ?_;show gD xs.reverse=gD xs;unfold gD;exact oW ((List.reverse_perm xs).map _)
theorem uH (g:bE):cY (bX g)=cY g:=by
 unfold cY bX;rw[c9]
 congr 1
 refine cy λxs _=> ?_;show dP xs.reverse=dP xs;unfold dP;exact((List.reverse_perm xs).filter _).length_eq
theorem A7v {g:bE}{w:Nat}(G:cR g w):cR (bX g) w:=⟨by unfold bX;rw[b8];exact G.h1,by unfold bX;rw[b8];exact G.h4,G.w1,G.w5,tW G.len,λxs hx n hn=>by
 obtain⟨ys,hy,rfl⟩:=dv.mp hx;exact G.num ys hy n (List.mem_reverse.mp hn),by rw[uH];exact G.c1,by rw[uH];exact G.c10⟩
theorem qA {w:Nat}{x y:Pl}(h:y∈beside x):Bc w y∈beside (Bc w x):=by obtain⟨a,b⟩:=x;unfold beside at*;simp only[di,fc,or_false,Bc]at*;rcases h with rfl|rfl|rfl|rfl<;>simp<;>omega
theorem A0e {w:Nat}{L L':List Pl}(h:∀c,c∈L'↔Bc w c∈L)(hL:oF L):oF L':=by
 obtain⟨h1,h2⟩:=hL;refine⟨λe=> ?_,λC hC hx y hy=> ?_⟩
 ·cases L with
  |nil=>exact h1 rfl
  |cons x L=>
   have:=(h (Bc w x)).mpr (by rw[dQ];exact AX);rw[e]at this;cases this
 ·have k:=h2 (C.map (Bc w)) (λx hx y hy hyL=>by
   obtain⟨z,hz,rfl⟩:=dv.mp hx;refine dv.mpr ⟨Bc w y,hC z hz (Bc w y) ?_ ((h _).mpr (by rw[dQ];exact hyL)),dQ w y⟩;have:=qA (w:=w) hy
   rwa [dQ]at this) (by
   obtain⟨x,a,b⟩:=hx;exact⟨Bc w x,(h x).mp a,dv.mpr ⟨x,b,rfl⟩⟩) (Bc w y) ((h y).mp hy)
  obtain⟨z,hz,e⟩:=dv.mp k;have:=congrArg (Bc w) e;rw[dQ,dQ]at this
  rwa [←this]
theorem A66 {w:Nat}{L L':List Pl}(h:∀c,c∈L'↔Bc w c∈L):iI L'=iI L:=by unfold iI;refine decide_eq_decide.mpr ⟨A0e (w:=w) λc=> ?_,A0e h⟩;rw[h,dQ]
theorem A09 {g:bE}{w:Nat}(h:∀xs∈g,xs.length=w){c:Pl}:eX (bX g) c=eX g (Bc w c):=by
 unfold eX;rw[iy,ah,ah];constructor
 ·rintro⟨d,a,b⟩;exact⟨Bc w d,qA a,AS ((jJ h).mp (of_decide_eq_true b))⟩
 ·rintro⟨d,a,b⟩;refine⟨Bc w d,?_,AS ((jJ h).mpr (by rw[dQ];exact of_decide_eq_true b))⟩;have:=qA (w:=w) a
  rwa [dQ]at this
theorem A3g {g:bE}{w:Nat}(h:∀xs∈g,xs.length=w){L L':List Pl}(n:L.Nodup)(n':L'.Nodup)(hs:∀c∈L',c∈bD pos (bX g))(hm:∀c,c∈L'↔Bc w c∈L):cX (bX g) L'=cX g L:=by
 have p:(L'.map (Bc w)).Perm L:=(List.perm_ext_iff_of_nodup (by
  unfold List.Nodup;rw[fh];exact n'.imp fun{a b} z e=>z (by have:=congrArg (Bc w) e;rwa [dQ,dQ]at this)) n).mpr λc=>by
  rw[dv];exact⟨λ⟨d,a,e⟩=>e▸(hm d).mp a,λz=> ⟨Bc w c,(hm _).mpr (by rw[dQ];exact z),dQ w c⟩⟩
 unfold cX;rw[←oW (p.map (atG g)),c9]
 congr 1
 exact cy λc hc=>(tI h (hs c hc)).2
theorem A3f {g:bE}{w:Nat}(h:∀xs∈g,xs.length=w){cs:List Int}{cl:List C3}{od i:Int}{L L':List Pl}(n:L.Nodup)(n':L'.Nodup)(hs:∀c∈L',c∈bD pos (bX g))(hm:∀c,c∈L'↔Bc w c∈L):dC (bX g) cs cl od i L'=dC g cs cl od i L:=by
 have e1:gG (bX g) L'=gG g L:=by
  unfold gG;rw[A66 hm]
  congr 1
  rw[iy,ah,ah];constructor
  ·rintro⟨c,a,b⟩;obtain⟨b1,b2⟩:=dj.mp (of_decide_eq_true b);exact⟨Bc w c,(hm c).mp a,AS (dj.mpr ⟨(jJ h).mp b1,by rw[←A09 h];exact b2⟩)⟩
  ·rintro⟨c,a,b⟩;obtain⟨b1,b2⟩:=dj.mp (of_decide_eq_true b);exact⟨Bc w c,(hm _).mpr (by rw[dQ];exact a),AS (dj.mpr ⟨(jJ h).mpr (by rw[dQ];exact b1),by rw[A09 h,dQ];exact b2⟩)⟩
 unfold dC fU dueT dueB;rw[e1,A3g h n n' hs hm,A7m]
noncomputable def kAt (C:List Pl)(ks:List Int)(c:Pl):Int:=ks.getD (C.idxOf c) 0
theorem qH {C:List Pl}{ks:List Int}(nd:C.Nodup)(hl:ks.length=C.length):C.map (kAt C ks)=ks:=by refine aq (by rw[b8,hl]) λi h1 h2=> ?_;rw[List.getElem_map];unfold kAt;rw[nd.idxOf_getElem,bo,bq h2];rfl
theorem A3j {C:List Pl}{ks:List Int}(hl:ks.length=C.length){c:Pl}(hc:c∈C):kAt C ks c∈ks:=by have:=List.idxOf_lt_length_of_mem hc;unfold kAt;rw[bo,bq (by omega)];exact bx _
theorem zT (C:List Pl)(A:Pl->Int)(h:Int):dU C (C.map A) h=C.filter λc=>decide (A c=h):=by unfold dU;rw[pR,az,c9];exact c8 _
theorem xE {g:bE}{w:Nat}(h:∀xs∈g,xs.length=w)(cs:List Int)(cl:List C3)(od:Int)(G:cN cl):(Bb g cs cl od).length<=(Bb (bX g) cs cl od).length:=by
 refine A2k (λks=>(bD pos (bX g)).map λc=>kAt (bD pos g) ks (Bc w c)) (sF g cs cl od) (λks hks=> ?_) λa ha b hb e=> ?_
 ·obtain⟨h1,h2,h3⟩:=(fO G).mp hks;refine(fO G).mpr ⟨by rw[b8],λk hk=> ?_,?_⟩
  ·obtain⟨c,hc,rfl⟩:=dv.mp hk;exact h2 _ (A3j h1 ((jJ h).mp hc))
  ·refine ae.mpr λk hk=> ?_;have e1:bZ (bX g) ((bD pos (bX g)).map λc=>kAt (bD pos g) ks (Bc w c)) (k:Int)=(bD pos (bX g)).filter λc=>decide (kAt (bD pos g) ks (Bc w c)=(k:Int)):=zT _ _ _;have e2:bZ g ks (k:Int)=(bD pos g).filter λc=>decide (kAt (bD pos g) ks c=(k:Int)):=by
    have:=zT (bD pos g) (kAt (bD pos g) ks) (k:Int);rw[qH (hZ g) h1]at this;exact this
   have h4:=ae.mp h3 k hk;rw[e2]at h4;rw[e1,A3f (L:=(bD pos g).filter λc=>decide (kAt (bD pos g) ks c=(k:Int))) h ((hZ g).sublist a8) ((hZ _).sublist a8) (λc hc=>(dj.mp hc).1) λc=>by rw[dj,dj,jJ h]];exact h4
 ·obtain⟨a1,_,_⟩:=(fO G).mp ha;obtain⟨b1,_,_⟩:=(fO G).mp hb;rw[←qH (hZ g) a1,←qH (hZ g) b1];refine cy λc hc=> ?_;have:=(List.map_inj_left.mp e) (Bc w c) ((jJ h).mpr (by rw[dQ];exact hc))
  rwa [dQ]at this
theorem A6c {g:bE}{w:Nat}(h:∀xs∈g,xs.length=w)(cs:List Int)(cl:List C3)(od:Int)(G:cN cl):(Bb (bX g) cs cl od).length=(Bb g cs cl od).length:=by have:=xE (tW h) cs cl od G;rw[zN]at this;exact Nat.le_antisymm this (xE h cs cl od G)
noncomputable def vD:Sp:=λvs H Q _=> ∃p l xs,vs=[.ref p,.ref l]/\PenAt H p/\l≠p/\H l=some (.lst xs)/\xs.length<=1000/\∀r ys H',A5 p H H'->r≠p->H' r=some (.lst ys)->ys.Perm xs->Q (.ref r) H'
theorem zF {α:Type}:∀{l:List α}{k:Nat}{y:α},l[k]?=some y->(y::l.eraseIdx k).Perm l
 |x::l,0,y,h=>by cases h;exact zf _
 |x::l,k+1,y,h=>by
  have:=zF (l:=l) (k:=k) (y:=y) (by simpa using h);exact(lj.swap x y _).trans (this.cons x)
theorem B1t (F:D1 K mg "_law_mixed" zW ["_law_pen_here","_law_things"])(T:Txt mg)(T2:eN mg)(a1:A1 P w K mg base 1 "_law_draw" iD):A1 P w K mg base 2 "_law_mixed" vD:=by
 refine F.k ["_law_pen_here","_law_things","_law_rest","_law_drawn"] ?_;ac_nf
 ·obtain⟨p,l,xs,rfl,hp,hlp,hl,hz,q⟩:=h;refine⟨_,aU (iQ (i:=2) (j:=3) rfl nd rfl rfl (by decide) rfl rfl (bQ (fK A6z rfl T2.list boot_list (aG (pv 1) aB)) (lM (eG aB) aB)) rfl)<|
   aU (nC jk (cI (A44 (kA hr)) (pv 2) (eG aB) (nomark _))
    (bB (cP (jB ka mx my lH (pv 3)
     (bQ (jB ka PySem.F.slot_list_pop PySem.F.type_list_pop A3q (pv 2)
      (bQ (a1.c hr (aG (pv 0) (bQ (bJ eK rfl T.len jm (aG (pv 2) aB)) aB))) aB)) aB)))))<|
   bB (bF (pv 3)),?_⟩
  refine⟨_,rfl,l,_,rfl,.inl (A2.of hl),λr hr0=> ?_⟩;have s1:=aY (o:=.lst xs) hr0;refine⟨by show 0<=gz;decide,λd hd0=> ?_⟩;have s2:=aY (o:=.lst []) hd0;refine⟨_,_,rfl,?_⟩;have hpn:∃o,H p=some o:=let ⟨x,y,e⟩:=hp;⟨_,e⟩;obtain⟨op,hop⟩:=hpn;have nrp:r≠p:=(bK hop hr0).symm;have ndp:d≠p:=(bK (s1 _ _ hop) hd0).symm;have nrd:r≠d:=bK aJ hd0;have hdH:H d=none:=s1.free hd0;refine⟨λm σ H'=> ∃ys rest,m=rest.length/\σ=[some (.ref p),some (.ref l),some (.ref r),some (.ref d)]/\A5 p H H'/\H' r=some (.lst rest)/\H' d=some (.lst ys)/\(ys++rest).Perm xs,
   ⟨_,[],xs,rfl,rfl,(A5.refl hp).same (s1.trans s2),s2 _ _ aJ,aJ,zf _⟩,?_⟩
  rintro m σ H' ⟨ys,rest,rfl,rfl,st,hr',hd',pm⟩;have rg:ys.length+rest.length=xs.length:=by rw[←pm.length_eq,bz]
  refine⟨_,rfl,by show 0<=gz;decide,λln hln=> ?_⟩;have sn:=aY (o:=.lst []) hln;refine⟨r,ln,_,rfl,rfl,sn _ _ hr',aJ,_,rfl,?_⟩;refine cU (λz=> ?_) λz=> ?_
  ·have hne:rest≠[]:=by simpa using z
   have hpos:0<rest.length:=uf.mpr hne;refine⟨λσ' H2=> ∃ys' rest',rest'.length<rest.length/\σ'=[some (.ref p),some (.ref l),some (.ref r),some (.ref d)]/\A5 p H H2/\H2 r=some (.lst rest')/\H2 d=some (.lst ys')/\(ys'++rest').Perm xs,
    λσ' H2 ⟨ys',rest',AG,e1,e2,e3,e4,e5⟩=> ⟨rest'.length,AG,ys',rest',rfl,e1,e2,e3,e4,e5⟩,?_⟩
   refine⟨_,rfl,.inl ⟨rfl,_,A2.of (sn _ _ hd')⟩,?_⟩;refine⟨_,rfl,.inl ⟨rfl,_,A2.of (sn _ _ hr')⟩,?_⟩;refine⟨_,rfl,_,rfl,r,_,rfl,.inl (A2.of (sn _ _ hr')),p,_,rfl,(st.same sn).pen,by omega,by omega,λi H2 i0 i1 st2=> ?_⟩;have hk:i.toNat<rest.length:=by omega
   have hr2:=st2.keep r _ nrp (sn _ _ hr');have hd2:=st2.keep d _ ndp (sn _ _ hd');refine⟨r,rest,i,i.toNat,rest[i.toNat],rfl,rfl,hr2,by omega,by omega,?_,bq hk,?_⟩
   ·unfold Ax;have h0:¬i<0:=by omega
    simp only[if_neg h0];rw[if_pos (by simp only[i4,decide_eq_true_eq];omega)]
   refine⟨d,ys,_,rfl,rfl,by rw[bA nrd.symm];exact hd2,cG (by omega),?_⟩;refine⟨ys++[rest[i.toNat]],rest.eraseIdx i.toNat,?_,rfl,?_,?_,aJ,?_⟩
   ·rw[List.length_eraseIdx_of_lt hk];omega
   ·exact((((st.same sn).trans st2).updO hr0 hp).updO hdH hp)
   ·rw[bA nrd,aJ]
   ·rw[aj];exact((zF (bq hk)).append_left ys).trans pm
  ·have he:rest=[]:=by simpa using z
   subst he;rw[ak]at pm;exact⟨_,rfl,q d ys _ (st.same sn) ndp (sn _ _ hd') pm⟩
noncomputable def nmF (ns:List Int)(i:Int):Int:=ns.getD i.toNat 0
theorem nJ {ns:List Int}(h:ns.Perm [0,1,2,3]){i:Int}(h0:0<=i)(h3:i<=3):ns[i.toNat]?=some (nmF ns i)/\0<=nmF ns i/\nmF ns i<=3:=by
 have hl:ns.length=4:=h.length_eq;have hi:i.toNat<ns.length:=by omega
 have e:ns[i.toNat]?=some (nmF ns i):=by unfold nmF;rw[bo,bq hi];rfl
 have hm:=h.mem_iff.mp (d3 e);simp only[di,fc,or_false]at hm;exact⟨e,by omega,by omega⟩
theorem xN {ns:List Int}(h:ns.Perm [0,1,2,3]){i j:Int}(h0:0<=i/\i<=3)(h1:0<=j/\j<=3)(e:nmF ns i=nmF ns j):i=j:=by have a:=(nJ h h0.1 h0.2).1;have b:=(nJ h h1.1 h1.2).1;rw[←e]at b;have:=A18 (h.nodup_iff.mpr (by decide)) a b;omega
theorem B0u {ns:List Int}(h:ns.Perm [0,1,2,3]){cl:List C3}(G:cN cl){cl':List C3}(p:cl'.Perm (cl.map (ren (nmF ns)))):Nmd (nmF ns) cl cl':=⟨λa b ha hb e=>by
 obtain⟨c,hc,z⟩:=ah.mp ha;obtain⟨d,hd,y⟩:=ah.mp hb;have z:=of_decide_eq_true z;have y:=of_decide_eq_true y;subst z y;exact xN h (G.num c hc).1 (G.num d hd).1 e,p⟩
theorem A29 {ns:List Int}(h:ns.Perm [0,1,2,3]){cl:List C3}(G:cN cl):((cl.map (ren (nmF ns))).map bW).Nodup:=by
 have n1:(cl.map bW).Nodup:=G.up.imp fun{a b} z e=>by
  have z:HT.lexLt [a.1,a.2] [b.1,b.2]=true:=z;rw[e,gZ]at z;cases z
 rw[c9];unfold List.Nodup at*;rw[fh]at*;refine(qu.mp n1).imp fun{a b} z e=>z.2.2 ?_;have e:(nmF ns a.1,a.2.1)=(nmF ns b.1,b.2.1):=e;injection e with e1 e2
 unfold bW;rw[xN h (G.num a z.1).1 (G.num b z.2.1).1 e1,e2]
noncomputable def rD:Sp:=λvs H Q _=> ∃p l g w cs cl od ns,vs=[.ref p,.ref l]/\PleA H p g w cs cl od/\H l=some (.lst ((ns:List Int).map V.int))/\ns.Perm [0,1,2,3]/\∀p' cl' H',Same H H'->PleA H' p' g w cs cl' od->Nmd (nmF ns) cl cl'->Q (.ref p') H'
noncomputable abbrev nNm:List Str:=["_law_plea_here","_law_names","_law_claims_here"]
theorem B0a:(["_law_claim","_law_names"]:List Str).Nodup:=by decide +kernel
theorem B09 (F:D1 K mg "_law_named" qV ["_law_plea_here","_law_names"])(T:Txt mg)(T2:eN mg):A1 P w K mg base 1 "_law_named" rD:=by
 refine F.k nNm ?_;ac_nf
 ·obtain⟨p,l,g,w',cs,cl,od,ns,rfl,D,hl,hns,q⟩:=h;obtain⟨m,c,a,hp,hm,hc,ha⟩:=D.ex;obtain⟨bs,hab,hB⟩:=id ha;refine⟨_,aU (bP (i:=2) nd rfl (jr rfl) (fK gM rfl T.tuple k7 (bQ (bJ oK rfl T2.sorted za (cM (bU (bH qV).names nNm ["_law_claim"] [("_law_names",1)] rfl (dM (cA cZ (pv 0) aV (λ_ _=>rfl))) rfl rfl rfl (by decide +kernel)
    (λZ=>A4 0 B0a) (λZ=>cB) (λZ=>bI jL (cL (eF (cA fT (pv 1) (cA cZ (pv 0) aV (λ_ _=>rfl)) (λ_ _=>rfl)) aB)) (gC jM (pv 0) (fY aV) gX))) aB)) aB)))<|
   bB (bF (bI jL (gC jM (pv 0) gX (fY aV)) (cL (aG (pv 2) (eF (cA cZ (pv 0) aV (λ_ _=>rfl)) aB))))),?_⟩
  have hbl:bs.length=cl.length:=Paired.length hB;have h12:=D.ck.l12;refine⟨_,rfl,p,_,2,_,rfl,rfl,A3.of hp,rfl,a,rfl,⟨_,A3.of hab⟩,λZ lz hlz=> ?_⟩;refine iK (K:=K) (a:=a) (xs:=bs.map V.ref) (λj σ H'=>(∃o,σ=[o,some (.ref l)])/\Same H H'/\∃zs:List (gy×List Int),H' lz=some (.lst (zs.map λz=>V.ref z.1))/\zs.map (·.2)=(cl.take j).map (λc=>row (ren (nmF ns) c))/\∀z∈zs,H' z.1=some (.tup (z.2.map V.int)))
   ⟨⟨_,rfl⟩,aY hlz,[],by rw[aJ];rfl,rfl,λz hz=>by cases hz⟩ (λj σ H' _ h=>A3.of (h.2.1 _ _ hab)) ?_ ?_
  ·rintro j x σ H' hx ⟨⟨o,rfl⟩,hs,zs,AF,hzr,hza⟩;obtain⟨b,hb,rfl⟩:=eY hx;obtain⟨cc,hcc,hbc⟩:=ClP.get hB hb;have hj:j<cl.length:=(AR.mp hcc).1;have hzl:zs.length<=j:=by
    have:=congrArg kq hzr;rw[b8,b8,cm]at this;omega
   have hn:=(D.ck.num cc (d3 hcc)).1;have nf:=nJ hns hn.1 hn.2;have hln:ns.length=4:=hns.length_eq;have eat:atI (ns.map V.int) cc.1=some (.int (nmF ns cc.1)):=by
    obtain⟨n,hn'⟩:=ja hn.1;have e:=nf.1;rw[hn']at e⊢;exact dO (by rw[br];rw[jd]at e;rw[e];rfl)
   refine iT ?_;refine⟨_,rfl,_,rfl,b,_,0,_,rfl,rfl,A3.of (hs _ _ hbc),rfl,l,_,cc.1,_,rfl,rfl,A2.of (hs _ _ hl),eat,by show 1<=gz;decide,λt ht=> ?_⟩;have u1:=aY (o:=.tup [.int (nmF ns cc.1)]) ht;refine⟨_,rfl,_,rfl,b,_,rfl,u1 _ _ (hs _ _ hbc),λu H2 s2 hu=> ?_⟩;refine⟨t,u,_,_,rfl,rfl,s2 _ _ aJ,hu,by show 1+2<=gz;decide,λv H3 s3 hv=> ?_⟩;have s13:=(u1.trans s2).trans s3;have hl5:=s13 _ _ AF;have hv:H3 v=some (.tup ((row (ren (nmF ns) cc)).map V.int)):=hv;refine⟨_,hl5,cG (by rw[b8];omega),⟨_,rfl⟩,λb' o' e=> ?_,zs++[(v,row (ren (nmF ns) cc))],?_,?_,λz hz=> ?_⟩
   ·rw[bA (bK e hlz)];exact s13 _ _ (hs _ _ e)
   ·rw[aJ,cx];rfl
   ·rw[cx,hzr,fq,hcc,cx];rfl
   ·have up:∀a xs,H3 a=some (.tup xs)->(upd H3 lz (.lst (zs.map (λz=>V.ref z.1)++[.ref v]))) a=some (.tup xs):=λa xs e=>by rw[bA (λz=>by rw[z,hl5]at e;cases e)];exact e
    rcases da.mp hz with z'|z'
    ·exact up _ _ (s13 _ _ (hza z z'))
    ·rw[d6.mp z'];exact up _ _ hv
  ·rintro σ H2 ⟨_,hs,zs,AF,hzr,hza⟩;rw[b8,hbl,fo (AY _)]at hzr;have hzr':zs.map (·.2)=(cl.map (ren (nmF ns))).map row:=by rw[hzr,c9];rfl
   have hzl:zs.length=cl.length:=by have:=congrArg kq hzr;simpa using this
   refine⟨lz,zs,rfl,A2.of AF,λz hz=> ⟨hza z hz,λe=> ?_⟩,by omega,λl2 AD hl3 hs2=> ?_⟩
   ·have hm:z.2∈zs.map (·.2):=dy hz;rw[hzr]at hm;obtain⟨c',_,e'⟩:=dv.mp hm;rw[←e']at e;cases e
   have s3:=aY (o:=.lst (AD.map λz=>V.ref z.1)) hl3;obtain⟨gO,gP,gR⟩:=wR hzr' hs2 (by rw[b8];exact D.ck.l1) (by rw[b8];exact h12) (λx hx=>by
    obtain⟨d,hd,rfl⟩:=dv.mp hx;have:=D.ck.num d hd;exact⟨(nJ hns this.1.1 this.1.2).2,this.2⟩) (A29 hns D.ck)
   refine⟨l2,_,rfl,.inl ⟨A2.of aJ,λa' ha'=> ?_⟩⟩;have s4:=aY (o:=.tup (AD.map λz=>V.ref z.1)) ha';have s04:=(hs.trans s3).trans s4;have hcl:ClT (upd (upd H2 l2 (.lst (AD.map λz=>V.ref z.1))) a' (.tup (AD.map λz=>V.ref z.1))) a' (AD.map λz=>unrow z.2):=by
    refine⟨AD.map (·.1),by rw[aJ,c9];rfl,?_⟩;have go:∀ys:List (gy×List Int),(∀z∈ys,z∈AD)->ClP (upd (upd H2 l2 (.lst (AD.map λz=>V.ref z.1))) a' (.tup (AD.map λz=>V.ref z.1))) (ys.map (·.1)) (ys.map λz=>unrow z.2):=λys=>by
     induction ys with
     |nil=>intro _;exact .nil
     |cons y ys ih=>
      intro hy;refine .cons ?_ (ih λz hz=>hy z (AW _ hz));have hy':=hy y AX;have e:=hza y (hs2.1.mem_iff.mp hy');rw[gR y hy']at e;exact s4 _ _ (s3 _ _ e)
    exact go AD λz hz=>hz
   have hp4:=s04 _ _ hp;refine⟨_,rfl,_,rfl,p,_,rfl,hp4,λu H5 s5 hu=> ?_⟩;refine⟨_,rfl,_,rfl,p,_,3,_,rfl,rfl,A3.of (s5 _ _ hp4),rfl,by show 2<=gz;decide,λt ht=> ?_⟩;have u6:=aY (o:=.tup [.ref a',.int od]) ht;refine⟨u,t,_,_,rfl,rfl,u6 _ _ hu,aJ,by show 2+2<=gz;decide,λv H7 s7 hv=> ?_⟩;have s57:=(s5.trans u6).trans s7;have s07:=s04.trans s57;refine q v _ H7 s07 ⟨D.G,D.w4,D.g3,D.c6,D.cu,gO,λx hx=> ?_,D.o9,m,c,a',hv,hm.same s07,s07 _ _ hc,hcl.ext s57.ext⟩ (B0u hns D.ck gP);obtain⟨d,hd,rfl⟩:=dv.mp (gP.mem_iff.mp hx);exact D.un d hd
theorem A70 (cl:List C3):(Ba cl).Pairwise (· < ·):=by
 unfold Ba cH;generalize holdS cl=S;have key:∀b0 b1 b2 b3:Bool,((L b0 b1 b2 b3).map λk:Nat=>(k:Int)).Pairwise (· < ·):=by decide
 exact key _ _ _ _
theorem A6k (ks:List Int):fN (ks.map V.int)=ks:=by
 unfold fN
 induction ks with
 |nil=>rfl
 |cons k ks ih=>rw[cz,ar];exact congrArg _ ih
theorem A9p {g:bE}{cs:List Int}{cl:List C3}{od:Int}{lot:List Int}(h:gY g cs cl od lot=true):lot≠[]:=by
 rintro rfl;have e1:eD g cs cl od []=[]:=by unfold eD nQ;exact ay.mpr λc _=>by simp
 have e2:cntAll cs (ofL cl [])=0:=by
  have:ofL cl []=[]:=by unfold ofL;exact ay.mpr λc _=>by simp
  rw[this];rfl
 unfold gY iS at h;rw[e1,e2]at h;simp[cX]at h
theorem A6y {H:Hp}{p t u:gy}{g:bE}{w:Nat}{cs:List Int}{cl:List C3}{od:Int}{lot:List Int}(G:cR g w)(hp:H p=some (.tup [.ref t,.ref u]))(ht:H t=some (.tup (lot.map V.int)))(hu:A6 H u (eD g cs cl od lot))(hl:lot.Sublist (Ba cl))(hb:gY g cs cl od lot=true):Kn H 4 (.ref p)/\gL H g cs cl od (.ref p)=true:=by
 have l4:lot.length<=4:=gc hl.length_le (lS cl);have f10:=LandOf.len G (qB g cs cl od lot);refine⟨.inr (.inr ⟨_,hp,by show 2<=1000;decide,λx hx=> ?_⟩),?_⟩
 ·simp only[di,fc,or_false]at hx;rcases hx with rfl|rfl
  ·refine .inr (.inr ⟨_,ht,by rw[b8];omega,λx hx=> ?_⟩);obtain⟨k,_,rfl⟩:=dv.mp hx
   trivial
  ·exact xJ hu (by omega)
 ·have e1:eU H cl (.ref t)=some lot:=by
   unfold eU;rw[gK ht];dsimp only
   rw[A6k,if_pos];rw[i4,i4];refine⟨?_,ae.mpr λx hx=> ?_,(uG lot).mpr ((A70 cl).sublist hl)⟩
   ·have:=A9p hb;cases lot with
    |nil=>exact absurd rfl this
    |cons a b=>rfl
   ·obtain⟨k,hk,rfl⟩:=dv.mp hx;exact pQ (hl.subset hk)
  unfold gL;rw[gK hp];dsimp only
  rw[e1];dsimp only
  rw[A11 ⟨u,rfl,hu⟩,hb];rfl
noncomputable abbrev sZ:List Str:=["_law_script","_law_cell_here","_law_pen_here","_law_plea_here","_law_parting","_law_lack","_law_many","_law_wider","_law_mirrored","_law_names"]
noncomputable abbrev B4j:List je:=iU ((dN jS).getD 0 (.Pass ⟨0,0,0,0⟩))
theorem scLaw:iJ sZ ["_law_script"] (bH jS):=by ac_rfl
theorem B2q:(["_law_row"]:List Str).Nodup:=by decide +kernel
section
variable {f:gy}{cdv:gw}{A:kb}{outer:List Env}{s:h7}{H0:Hp}{E:XK}
noncomputable abbrev XL (P:il)(w:i6)(K:W.Frag)(mg:Str->Option gw)(base:iw)(f:gy)(cdv:gw)(A:kb)(outer:List Env)(s:h7)(H0:Hp)(E:XK):Cx:=(fC CX0 P w K mg base sZ "law" (bH jS) f cdv A outer s H0 E).nox
theorem A2x {R:List (List Int)}{Q:VK}{H:Hp}(k:∀x H',Same H H'->((x= .non/\R=[])\/ ∃t ks,x= .ref t/\H' t=some (.tup ((ks:List Int).map V.int))/\ks∈R)->Q x H'):tK R Q (Same H):=⟨λe H' s=>k _ _ s (.inl ⟨rfl,e⟩),λt ks H' s et hm _=>k _ _ s (.inr ⟨t,ks,rfl,et,hm⟩)⟩
theorem pV {t2:TT}{σ:L2.St}{H:Hp}{j:Nat}{Q:Bool->Hp->Prop}(x:V)(hσ:σ[j]?=some (some x))(h:x≠ .non->∀Q':Bool->Hp->Prop,(∀H',Same H H'->Q' false H')->t2 σ H Q')(k:∀H',Same H H'->Q false H'):A1r (vM (tOp (λx y H Q=>y=V.non/\Q (V.bl !decide (x=V.non)) H) (dY j) (tC V.non))) t2 σ H Q:=by refine⟨x,hσ,rfl,_,rfl,cU (λe=>h (by simpa using e) _ k) λ_=>k H (Same.refl H)⟩
theorem B1v (xs:List V):iV xs=xs.reverse:=by
 unfold iV;have key:∀n,n<=xs.length->(iq n).filterMap (λk:Nat=>xs[(((xs.length:Int) - 1)+(k:Int)*(-1)).toNat]?)=xs.reverse.take n:=by
  intro n
  induction n with
  |zero=>intro _;rfl
  |succ n ih=>
   intro h;have e:xs.reverse[n]?=xs[xs.length - 1 - n]?:=qp (by omega);have e2:(((xs.length:Int) - 1)+(n:Int)*(-1)).toNat=xs.length - 1 - n:=by omega
   rw[fi,qm,ih (by omega),fq,e]
   congr 1
   rw[ar,e2];cases xs[xs.length - 1 - n]?<;>rfl
 rw[key _ (AY _),fo (by rw[cf];exact AY _)]
theorem B0i {ys:List V}{ns:List Int}(h:ys.Perm (ns.map V.int)):∃ms:List Int,ys=ms.map V.int/\ms.Perm ns:=by
 refine⟨ys.map λv=>match v with| .int i=>i|_=>0,?_,?_⟩
 ·rw[c9]
  conv=>lhs;rw[←c8 ys]
  refine cy λv hv=> ?_;obtain⟨n,_,rfl⟩:=dv.mp (h.mem_iff.mp hv);rfl
 ·have:=h.map λv=>match v with|V.int i=>i|_=>0
  rw[c9]at this;have e:ns.map ((λv=>match v with|V.int i=>i|_=>0)∘V.int)=ns.map id:=cy λ_ _=>rfl;rw[e,c8]at this;exact this
theorem A6g (T:Txt mg)(TW:TxW mg)(hr:Room 15 (XL P w K mg base f cdv A outer s H0 E).A)(aE:A1 P w K mg base 1 "_law_pen" pL)(aL:A1 P w K mg base 4 "_law_plea" pP)(aF:A1 P w K mg base 12 "first_parting" uB)(aK:A1 P w K mg base 13 "first_lack" sN)(aM:A1 P w K mg base 12 "many_partings" pD)(aD:A1 P w K mg base 10 "_law_dues" pU)(aS:A1 P w K mg base 15 "_law_shown" rB)(aI:A1 P w K mg base 13 "is_lack" pN)(aR:A1 P w K mg base 1 "_law_draw" iD)(aP:A1 P w K mg base 12 "is_parting" kR)(aX:A1 P w K mg base 2 "_law_mixed" vD)(aN:A1 P w K mg base 1 "_law_named" rD):∃tt,A0 (XL P w K mg base f cdv A outer s H0 E) B4j tt/\
  ∀(D:eA)(o0 o2 o3 o4 o5 o6 o7 o8 o9:Option V)(i:Int)(H:Hp),(∀o2' o3' o4' o5' o6' o7' o8' o9' H',Same H H'->D.nx [o0,some (.int i),o2',o3',o4',o5',o6',o7',o8',o9'] H')->tt D [o0,some (.int i),o2,o3,o4,o5,o6,o7,o8,o9] H:=by
 have nd:=scLaw.nd;refine⟨_,aU (bP (i:=2) nd rfl (jr rfl) (aE.c hr (aG (pv 1) aB)))<|
  aU (bP (i:=3) nd rfl (jr rfl) (aL.c hr (aG (pv 2) (cO aV aB))))<|
  aU (iQ (i:=4) (j:=5) rfl nd rfl rfl (by decide) rfl rfl (bQ (aF.c hr (aG (pv 3) aB)) (bQ (aK.c hr (aG (pv 3) aB)) aB)) rfl)<|
  aU (bP (i:=6) nd rfl (jr rfl) (aM.c hr (aG (pv 3) aB)))<|
  aU (bS (PW.pt (fH (bV (bL (aD.c hr (aG (pv 3) aB)))) (gJ (cI A3a (dE xP (pv 4) iX (nomark _)) (dE gB (pv 6) aV (nomark _)) (nomark _))))) dR bT)<|
  aU (bS (PW.pt (lD (cI sM (pv 4) iX (nomark _)) (lA (bV (bL (aS.c hr (aG (pv 3) (aG (pv 4) aB)))))))) dR bT)<|
  aU (bS (PW.pt (lD (cI sM (pv 5) iX (nomark _)) (lA (PW.pt (fH (bV (bL (aI.c hr (aG (pv 3) (aG (pv 5) aB))))) (gJ (cI A0f (pv 6) aV (nomark _)))))))) dR bT)<|
  aU (bP (i:=7) nd rfl (jr rfl) (bI jL (gC jM (pv 3) gX (fY aV)) (cL (bQ (bJ (B08 rfl) rfl TW.min wL (cO aV (eM (bI dG (bI dG (cA cZ (pv 3) aV (λ_ _=>rfl)) aV) (aR.c hr (aG (pv 2) (cO aV aB)))) aB))) aB))))<|
  aU (bS (PW.pt (fH (cI iM (aM.c hr (aG (pv 7) aB)) (pv 6) (nomark _)) (gJ (PW.pt (lD (cI sM (pv 4) iX (nomark _)) (lA (bV (bL (aP.c hr (aG (pv 7) (aG (pv 4) aB))))))))))) dR bT)<|
  aU (bP (i:=8) nd rfl (jr rfl) (bI jL (cL (bQ (fK gM rfl T.tuple k7 (cM (bU (bH jS).names sZ ["_law_row"] [] rfl (dM (cA cZ (pv 3) aV (λ_ _=>rfl))) rfl rfl rfl (by decide +kernel) (λZ=>A4 0 B2q) (λZ=>cB) (λZ=>B1s (pv 0) (jP kK aV))) aB)) aB)) (gC jM (pv 3) (fY aV) gX)))<|
  aU (bP (i:=9) nd rfl (jr rfl) (aX.c hr (aG (pv 2) (jA (fR (lstq (bM (bM (bM (bM cT))))) cT)))))<|
  bB (bS (cI (A4d 0 (kA hr)) (eG (bQ (aM.c hr (aG (pv 8) aB)) (bQ (aM.c hr (bQ (aN.c hr (aG (pv 3) (aG (pv 9) aB))) aB)) aB))) (eG (aG (pv 6) (aG (pv 6) aB))) (nomark _)) dR bT),λD o0 o2 o3 o4 o5 o6 o7 o8 o9 i H hD=> ?_⟩
 refine⟨_,rfl,i,rfl,λpn H1 hp0 s1 pen=> ?_⟩;refine⟨_,rfl,pn,rfl,pen,λpl g w' cs cl od H2 st2 hP=> ?_⟩;refine⟨_,rfl,pl,g,w',cs,cl,od,rfl,hP,A2x λx H3 s3 hx=> ?_⟩;refine⟨_,rfl,pl,g,w',cs,cl,od,rfl,hP.same s3,λy H4 s4 hy=> ?_⟩;refine⟨_,_,rfl,?_⟩;refine⟨_,rfl,pl,g,w',cs,cl,od,rfl,hP.same (s3.trans s4),λH5 s5=> ?_⟩;have s25:=(s3.trans s4).trans s5;have hP5:=hP.same s25;have bt:=mZ hP.G hP.c6;have bc:=λi=>pA hP.cu hP.ck hP.un i;have hN:1<=cntAll cs cl:=(bc 0).2.1;have hx5:(x= .non/\Bb g cs cl od=[])\/ ∃t ks,x= .ref t/\ParA H5 pl t g w' cs cl od ks/\fQ g cs cl od ks=true:=by
  rcases hx with z| ⟨t,ks,e,et,hm⟩
  ·exact .inl z
  ·obtain⟨h1,h2,h3⟩:=(fO hP.ck).mp hm;exact .inr ⟨t,ks,e,⟨hP5,s5 _ _ (s4 _ _ et),h1,h2⟩,h3⟩
 have hx0:x= .non↔((Bb g cs cl od).length:Int)=0:=by
  rcases hx with⟨e,z⟩| ⟨t,ks,e,et,hm⟩
  ·rw[z];exact⟨λ_=>rfl,λ_=>e⟩
  ·refine⟨λz=>absurd (e.symm.trans z) (by intro y;cases y),λz=> ?_⟩;have:(Bb g cs cl od).length=0:=by omega
   rw[b6]at this;rw[this]at hm;cases hm
 refine⟨_,rfl,pl,g,w',cs,cl,od,rfl,hP5,λH6 s6=> ⟨_,rfl,bR ?_⟩⟩;refine⟨_,rfl,rfl,_,rfl,rfl,rfl,_,rfl,cU (λe=> ?_) λ_=> ?_⟩
 ·exfalso;by_cases z:x= .non
  ·simp[z,hx0.mp z]at e
  ·simp[z]at e;exact z (hx0.mpr (by rw[e];rfl))
 have s26:=s25.trans s6;refine pV x rfl (λhne Q' k=> ?_) λH7 s7=>bR ?_
 ·rcases hx5 with⟨e,_⟩| ⟨t,ks,rfl,B,hB⟩
  ·exact absurd e hne
  exact⟨_,rfl,_,rfl,pl,t,g,w',cs,cl,od,ks,rfl,B.same s6,hB,λH7 s7=> ⟨_,rfl,k H7 s7⟩⟩
 have s57:=s6.trans s7;refine pV y rfl (λhne Q' k=> ?_) λH8 s8=>bR ?_
 ·have s27:=s26.trans s7;unfold xO at hy;cases hf:kJ g cs cl od with
  |none=>rw[hf]at hy;exact absurd hy hne
  |some lot=>
   rw[hf]at hy;obtain⟨p,t,u,rfl,e1,e2,e3⟩:=hy;have s47:=s5.trans s57;have h0:=A6x hP.G bt.1 (λi=>(bc i).1.1) hN hP.ck hf;have hfl:=hf;unfold kJ at hfl;obtain⟨kn,lv⟩:=A6y hP.G (s47 _ _ e1) (s47 _ _ e2) (A6.ext e3 s47.ext) (uZ (dz hfl)) (List.find?_some hfl);refine⟨_,rfl,_,rfl,pl,_,g,w',cs,cl,od,rfl,hP.same s27,kn,λH8 s8=> ⟨_,rfl,?_⟩⟩;rw[lv];refine bR ⟨_,rfl,?_⟩;rw[h0];refine⟨_,_,rfl,rfl,_,rfl,?_⟩;exact k H8 s8
 have s58:=s57.trans s8;have s28:=s25.trans s58;have hP8:=hP.same s28;obtain⟨m,c,a,hp,hm,hc,ha⟩:=hP8.ex;have pen8:=(st2.same s28).pen;refine⟨_,rfl,_,rfl,pl,_,rfl,hp,λu3 H9 s9 hu3=> ?_⟩;have hp9:=s9 _ _ hp;refine⟨_,rfl,pl,_,3,_,rfl,rfl,A3.of hp9,rfl,_,_,rfl,rfl,_,rfl,pn,20,rfl,(A5.refl pen8|>.same s9).pen,by decide,by decide,λd H10 d0 d1 st10=> ?_⟩;refine⟨_,_,rfl,rfl,_,_,rfl,by show 1<=gz;decide,λt1 ht1=> ?_⟩;generalize hod:(if od+1+d<999 then od+1+d else 999)=od';have o9:=hP.o9;have oB:od<=od'/\od'<=999:=by rw[←hod];split<;>omega
 have u11:=aY (o:=.tup [.int od']) ht1;have pen9:PenAt H9 pn:=(A5.refl pen8|>.same s9).pen;have x9:=A5.ext pen9 st10;refine⟨u3,t1,_,_,rfl,rfl,u11 _ _ (x9.tup _ _ hu3),aJ,by show 3+1<=gz;decide,λpw H11 s11 hpw=> ?_⟩;have e8:Ext H8 H11:=(s9.ext.trans x9).trans (u11.trans s11).ext;have hP11:=hP8.ext e8;have hW:PleA H11 pw g w' cs cl od':=⟨hP.G,hP.w4,hP.g3,hP.c6,hP.cu,hP.ck,hP.un,⟨by omega,oB.2⟩,m,c,a,hpw,hm.ext e8,e8.tup _ _ hc,ha.ext e8⟩;have wl:=A7b (g:=g) (cs:=cs) (cl:=cl) bt.1 (λi=>(bc i).1.1) hN hP.ck oB.1;refine⟨_,rfl,pw,g,w',cs,cl,od',rfl,hW,λH12 s12=> ⟨_,rfl,_,_,rfl,rfl,_,rfl,cU (λe=> ?_) λ_=> ?_⟩⟩
 ·exfalso;have:=of_decide_eq_true e;omega
 refine pV x rfl (λhne Q' k=> ?_) λH13 s13=>bR ?_
 ·rcases hx5 with⟨e,_⟩| ⟨t,ks,rfl,B,hB⟩
  ·exact absurd e hne
  refine⟨_,rfl,_,rfl,pw,t,g,w',cs,cl,od',ks,rfl,⟨hW.same s12,s12 _ _ (e8.tup _ _ (s58 _ _ B.t)),B.l,B.h⟩,λH13 s13=> ⟨_,rfl,?_⟩⟩;rw[wT bt.1 (λi=>(bc i).1.1) hN oB.1 hB];exact k H13 s13
 have st13:A5 pn H1 H13:=((((st2.same s28).same s9).trans st10).same (u11.trans s11)).same (s12.trans s13);have hP13:=hP11.same (s12.trans s13);clear hx5 hx hy hx0 hW wl hu3 hpw u11 ht1 x9 hp9;obtain⟨m,c,a,hp,hm,hc,ha⟩:=hP13.ex;obtain⟨bs,hmb,hR⟩:=id hm;refine⟨_,rfl,pl,_,0,_,rfl,rfl,A3.of hp,rfl,m,rfl,⟨_,A3.of hmb⟩,λZ lz hlz=> ?_⟩;have hbl:bs.length=g.length:=Paired.length hR;refine iK (K:=K) (a:=m) (xs:=bs.map V.ref) (λj σ H'=>(∃o,σ=[o])/\Same H13 H'/\∃qs,H' lz=some (.lst ((qs:List gy).map V.ref))/\RowsG H' qs (bX (g.take j)))
  ⟨⟨_,rfl⟩,aY hlz,[],by rw[aJ];rfl,.nil⟩ (λj σ H' _ h=>A3.of (h.2.1 _ _ hmb)) ?_ ?_
 ·rintro j v σ H' hv ⟨⟨o,rfl⟩,hs,qs,el,hq⟩;obtain⟨b,hb,rfl⟩:=eY hv;obtain⟨xs,hxs,ebx⟩:=hR.row hb;have hj:j<g.length:=(AR.mp hxs).1;have hql:qs.length=(bX (g.take j)).length:=Paired.length hq;unfold bX at hql;rw[b8,cm]at hql;refine iT ?_;refine⟨_,rfl,_,rfl,rfl,b,_,rfl,hs _ _ ebx,λpz hpz=> ?_⟩;have u1:=aY (o:=.tup (iV (xs.map V.int))) hpz;have el1:=u1 _ _ el;refine⟨_,el1,cG (by rw[b8];have:=hP.G.h4;omega),⟨_,rfl⟩,λb' o' e=> ?_,qs++[pz],?_,?_⟩
  ·rw[bA (bK e hlz)];exact u1 _ _ (hs _ _ e)
  ·rw[aJ,cx];rfl
  ·have et:bX (g.take (j+1))=bX (g.take j)++[xs.reverse]:=by unfold bX;rw[fq,hxs,cx];rfl
   rw[et];have up:∀a ys,(upd H' pz (.tup (iV (xs.map V.int)))) a=some (.tup ys)->(upd (upd H' pz (.tup (iV (xs.map V.int)))) lz (.lst (qs.map V.ref++[.ref pz]))) a=some (.tup ys):=λa ys e=>by rw[bA (λz=>by rw[z,el1]at e;cases e)];exact e
   refine yM (Paired.mapP hq λ_ _ z=>up _ _ (u1 _ _ z)) (.cons (up _ _ ?_) .nil);rw[aJ,B1v,List.map_reverse]
 ·rintro σ H14 ⟨_,hs,qs,el,hq⟩;rw[b8,hbl,fo (AY _)]at hq;refine⟨lz,_,rfl,.inl ⟨A2.of el,λtm htm=> ?_⟩⟩;have u1:=aY (o:=.tup (qs.map V.ref)) htm;refine⟨by show 1<=gz;decide,λt2 ht2=> ?_⟩;have u2:=aY (o:=.tup [.ref tm]) ht2;have u12:=u1.trans u2;have gm:GridAt (upd (upd H14 tm (.tup (qs.map V.ref))) t2 (.tup [.ref tm])) tm (bX g):=⟨qs,u2 _ _ aJ,Paired.mapP hq λ_ _ z=>u12 _ _ z⟩;have hp14:=u12 _ _ (hs _ _ hp);refine⟨_,rfl,_,rfl,pl,_,rfl,hp14,λu4 H15 s15 hu4=> ?_⟩;refine⟨t2,u4,_,_,rfl,rfl,s15 _ _ aJ,hu4,by show 1+3<=gz;decide,λpm H16 s16 hpm=> ?_⟩;have s1316:=hs.trans (u12.trans (s15.trans s16));have hM:PleA H16 pm (bX g) w' cs cl od:=⟨A7v hP.G,hP.w4,by unfold bX;rw[b8];exact hP.g3,by rw[uH];exact hP.c6,hP.cu,hP.ck,hP.un,hP.o9,tm,c,a,hpm,(gm.same s15).same s16,s1316 _ _ hc,ha.ext s1316.ext⟩;have st16:=st13.same s1316;have hP16:=hP13.same s1316;refine⟨_,rfl,by show 4<=gz;decide,λl4 hl4=> ?_⟩;have u4':=aY (o:=.lst [.int 0,.int 1,.int 2,.int 3]) hl4;have st17:=st16.same u4';have nl:l4≠pn:=λe=>by obtain⟨x1,x2,z⟩:=st16.pen;rw[e,z]at hl4;cases hl4
  refine⟨pn,l4,_,rfl,st17.pen,nl,aJ,by show 4<=1000;decide,λrr ys H18 st18 nr er py=> ?_⟩;have x18:=u4'.ext.trans (A5.ext st17.pen st18);have hM18:=hM.ext x18;have hP18:=hP16.ext x18;obtain⟨ns,rfl,pn'⟩:=B0i (ns:=[0,1,2,3]) py;refine⟨_,rfl,pm,bX g,w',cs,cl,od,rfl,hM18,λH19 s19=> ?_⟩;refine⟨_,rfl,_,rfl,pl,rr,g,w',cs,cl,od,ns,rfl,hP18.same s19,s19 _ _ er,pn',λp' cl' H20 s20 hP' nm=> ?_⟩;refine⟨p',g,w',cs,cl',od,rfl,hP',λH21 s21=> ⟨by show 2<=gz;decide,λla hla=> ?_⟩⟩;have e1:=A6c hP.G.len cs cl od hP.ck;have e2:=nm.eq hP.ck hP'.ck g cs od;rw[e1,e2]at*;have ua:=aY (o:=.lst [.int ((Bb g cs cl od).length:Nat),.int ((Bb g cs cl od).length:Nat)]) hla;refine⟨_,rfl,_,rfl,by show 2<=gz;decide,λlb hlb=> ?_⟩;have ub:=aY (o:=.lst [.int ((Bb g cs cl od).length:Nat),.int ((Bb g cs cl od).length:Nat)]) hlb;have stf:=((((st17.trans st18).same s19).same s20).same s21).same (ua.trans ub);refine⟨la,lb,_,_,[true,true],rfl,rfl,.inr ⟨ub _ _ aJ,aJ⟩,⟨.inl ⟨_,_,rfl,rfl,(AS rfl).symm⟩,.inl ⟨_,_,rfl,rfl,(AS rfl).symm⟩,trivial⟩,_,rfl,?_⟩;exact hD _ _ _ _ _ _ _ _ _ λb u e=>stf.keep b u (bK e hp0) (s1 _ _ e)
end
theorem A6w {xs:List V}{lo hi:Option Int}{x:V}(h:x∈cJ xs lo hi):x∈xs:=sd (r8 h)
noncomputable def oR (K:W.Frag):Sp:=λvs H Q _=> ∃(a:gy)(ns:List Int),vs=[.ref a]/\A2 K H a (ns.map V.int)/\ns.length<=63/\∀H',Q (.bl true) H'
theorem A9l {f:gy}{fd:ou}(F:Fun K "law" "law" jS f fd)(T:Txt mg)(TW:TxW mg)(aE:A1 P w K mg base 1 "_law_pen" pL)(aL:A1 P w K mg base 4 "_law_plea" pP)(aF:A1 P w K mg base 12 "first_parting" uB)(aK:A1 P w K mg base 13 "first_lack" sN)(aM:A1 P w K mg base 12 "many_partings" pD)(aD:A1 P w K mg base 10 "_law_dues" pU)(aS:A1 P w K mg base 15 "_law_shown" rB)(aI:A1 P w K mg base 13 "is_lack" pN)(aR:A1 P w K mg base 1 "_law_draw" iD)(aP:A1 P w K mg base 12 "is_parting" kR)(aX:A1 P w K mg base 2 "_law_mixed" vD)(aN:A1 P w K mg base 1 "_law_named" rD)(aZ:A1 P w K mg base 1 "_law_cell" (A2f K)):gN P w K mg base CX0 16 f fd ["_law_script"] (oR K):=by
 refine F.ok scLaw (λvs H Q E h=> ?_) (λcdv A outer s H vs Q E hr h=> ?_)
 ·obtain⟨a,ns,rfl,_⟩:=h;rfl
 ·obtain⟨a,ns,rfl,hS,rg,q⟩:=h;have nd:=scLaw.nd;obtain⟨tb,hb,rb⟩:=A6g (P:=P) (w:=w) (K:=K) (mg:=mg) (base:=base) (f:=f) (cdv:=cdv) (A:=A) (outer:=outer) (s:=s) (H0:=H) (E:=E) T TW hr aE aL aF aK aM aD aS aI aR aP aX aN;refine⟨_,aU (fZ jk rfl (dH (bI rJ (eG (bQ (aZ.c hr (aG (pv 0) (cO aV aB))) aB)) (gC mL (pv 0) (fY aV) (fY aV)))) (A4 1 nd) hb)<|
   bB (bF fD),?_⟩
  refine⟨_,rfl,a,ns,0,rfl,hS,by decide,λc0=> ?_⟩;refine⟨by show 1<=gz;decide,λl0 hl0=> ?_⟩;have s0:=aY (o:=.lst [.int c0]) hl0;refine⟨_,rfl,_,rfl,_,rfl,a,_,rfl,s0.seq hS,λl1 hl1=> ?_⟩;have s1:=aY (o:=.lst (cJ (ns.map V.int) (some 1) (some 2))) hl1;have hcl:=tU (ns.map V.int) (some 1) (some 2);rw[b8]at hcl;refine⟨l0,l1,_,_,rfl,rfl,s1 _ _ aJ,aJ,by rw[jh];show 1+_<=_;omega,λlc hlc=> ?_⟩;have e2:(upd (upd (upd H l0 (.lst [.int c0])) l1 (.lst (cJ (ns.map V.int) (some 1) (some 2)))) lc (.lst ([.int c0]++cJ (ns.map V.int) (some 1) (some 2)))) lc=some (.lst ([.int c0]++cJ (ns.map V.int) (some 1) (some 2))):=aJ;generalize upd (upd (upd H l0 (.lst [.int c0])) l1 (.lst (cJ (ns.map V.int) (some 1) (some 2)))) lc (.lst ([.int c0]++cJ (ns.map V.int) (some 1) (some 2)))=H1 at e2⊢;refine⟨lc,rfl,⟨_,A2.of e2⟩,?_⟩;refine eW (K:=K) (a:=lc) (xs:=[.int c0]++cJ (ns.map V.int) (some 1) (some 2)) (λi σ H'=>(∃o1 o2 o3 o4 o5 o6 o7 o8 o9,σ=[some (.ref a),o1,o2,o3,o4,o5,o6,o7,o8,o9])/\Same H1 H')
   ⟨⟨_,_,_,_,_,_,_,_,_,rfl⟩,Same.refl _⟩ (λi σ H' _ h=>A2.of (h.2 _ _ e2)) ?_ ?_
  ·rintro i y σ H' hi ⟨⟨o1,o2,o3,o4,o5,o6,o7,o8,o9,rfl⟩,hs⟩;obtain⟨c,rfl⟩:∃c,y=V.int c:=by
    rcases da.mp (d3 hi)with z|z
    ·exact⟨c0,d6.mp z⟩
    ·obtain⟨c,_,e⟩:=dv.mp (A6w z);exact⟨c,e.symm⟩
   exact rb _ (some (.ref a)) o2 o3 o4 o5 o6 o7 o8 o9 c H' λo2' o3' o4' o5' o6' o7' o8' o9' H2 s2=> ⟨⟨_,_,_,_,_,_,_,_,_,rfl⟩,hs.trans s2⟩
  ·rintro σ H' _;exact q H'
theorem all_mk {l:W.OpenLaw}{w:i6}{K:W.Frag}{h:iw}{mg:Str->Option gw}{fa:gy}{t0 t1 t2 t3 t4 t5 t6 t7 t8 t9 t10 t11 t12:Tok}(X:K.In h)(G:h.Ns ip mg)(hfa:mg "law" =some (.ref fa))
  (q0:Fk K "is_number" xI)
  (q1:Fk K "is_number_within" yB)
  (q2:Fk K "is_tuple_within" xT)
  (q3:Fk K "places_of_cells" rH)
  (q4:Fk K "is_row" uL)
  (q5:Fk K "is_mead" oH)
  (q6:Fk K "check_mead" wO)
  (q7:Fk K "cells_of" A16)
  (q8:Fk K "roads_of" sY)
  (q9:Fk K "is_pair_of_numbers" rC)
  (q10:Fk K "is_cell" wY)
  (q11:Fk K "worth_together" lN)
  (q12:Fk K "places_beside" A1n)
  (q13:Fk K "piece_round" oX)
  (q14:Fk K "is_rising" iY)
  (q15:Fk K "is_land" tJ)
  (q16:Fk K "is_one_piece" vH)
  (q17:Fk K "has_some_of" pH)
  (q18:Fk K "cells_at_road" rE)
  (q19:Fk K "is_custom" qG)
  (q20:Fk K "is_claim" zM)
  (q21:Fk K "are_claims" oJ)
  (q22:Fk K "check_custom" yT)
  (q23:Fk K "check_claims" A1j)
  (q24:Fk K "stand_under" vC)
  (q25:Fk K "check_claims_under" yV)
  (q26:Fk K "is_holder" qX)
  (q27:Fk K "check_holder" wD)
  (q28:Fk K "holders_of" sC)
  (q29:Fk K "count_together" rN)
  (q30:Fk K "count_of" uM)
  (q31:Fk K "fraction" A1p)
  (q32:Fk K "share_of" A2c)
  (q33:Fk K "_law_cell" zV)
  (q34:Fk K "_law_pen" yQ)
  (q35:Fk K "_law_draw" pC)
  (q36:Fk K "_law_pick" A0l)
  (q37:Fk K "_law_custom" pM)
  (q38:Fk K "_law_claims" oC)
  (q39:Fk K "_law_mead" kN)
  (q40:Fk K "_law_plea" A1y)
  (q41:Fk K "is_odd" zH)
  (q42:Fk K "is_plea" A0s)
  (q43:Fk K "check_plea" xZ)
  (q44:Fk K "check_plea_and_holder" A2g)
  (q45:Fk K "whole_worth" A0a)
  (q46:Fk K "due_of" wV)
  (q47:Fk K "rising_tuples" qO)
  (q48:Fk K "is_sound" A1m)
  (q49:Fk K "sound_lands" uQ)
  (q50:Fk K "worth_the_due" uI)
  (q51:Fk K "fits_of_all" mY)
  (q52:Fk K "cells_by_holder" nK)
  (q53:Fk K "cells_for" pE)
  (q54:Fk K "is_too_little" tO)
  (q55:Fk K "first_lack" wJ)
  (q56:Fk K "is_lot" rP)
  (q57:Fk K "is_lack" wK)
  (q58:Fk K "check_land" A2e)
  (q59:Fk K "is_fit" yX)
  (q60:Fk K "fits_holder" yZ)
  (q61:Fk K "land_within" sLW)
  (q62:Fk K "is_parting" nS)
  (q63:Fk K "check_parting" wU)
  (q64:Fk K "marks_of" yD)
  (q65:Fk K "parting_written" A0w)
  (q66:Fk K "with_one_more" mI)
  (q67:Fk K "ways_to_part" gE)
  (q68:Fk K "first_way" zL)
  (q69:Fk K "first_parting" yK)
  (q70:Fk K "many_partings" vR)
  (q71:Fk K "hangs_together" yC)
  (q72:Fk K "at_road" A0m)
  (q73:Fk K "land_of" A00)
  (q74:Fk K "_law_dues" A14)
  (q75:Fk K "_law_shown" tD)
  (q76:Fk K "_law_mixed" zW)
  (q77:Fk K "_law_named" qV)
  (q78:Fk K "law" jS)
  (v0:W.nsIn K ip "MOST_ROWS" =some (some (.int 4 t0)))
  (v1:W.nsIn K ip "MOST_COLUMNS" =some (some (.int 6 t1)))
  (v2:W.nsIn K ip "MOST_CELLS" =some (some (.int 10 t2)))
  (v3:W.nsIn K ip "MOST_WORTH" =some (some (.int 99 t3)))
  (v4:W.nsIn K ip "WATER" =some (some (.int (-2) t4)))
  (v5:W.nsIn K ip "ROAD" =some (some (.int (-1) t5)))
  (v6:W.nsIn K ip "MOST_SORTS" =some (some (.int 6 t6)))
  (v7:W.nsIn K ip "MOST_COUNTED" =some (some (.int 100 t7)))
  (v8:W.nsIn K ip "MOST_HOLDERS" =some (some (.int 4 t8)))
  (v9:W.nsIn K ip "MOST_RIGHTS" =some (some (.int 20 t9)))
  (v10:W.nsIn K ip "MOST_CLAIMS" =some (some (.int 12 t10)))
  (v11:W.nsIn K ip "MOST_ODD" =some (some (.int 999 t11)))
  (v12:W.nsIn K ip "FIGURES" =some (some (.int 4 t12)))
  (z0:W.nsIn K ip "isinstance" =some none)
  (z1:W.nsIn K ip "int" =some none)
  (z2:W.nsIn K ip "bool" =some none)
  (z3:W.nsIn K ip "tuple" =some none)
  (z4:W.nsIn K ip "len" =some none)
  (z5:W.nsIn K ip "all" =some none)
  (z6:W.nsIn K ip "enumerate" =some none)
  (z7:W.nsIn K ip "range" =some none)
  (z8:W.nsIn K ip "list" =some none)
  (z9:W.nsIn K ip "zip" =some none)
  (z10:W.nsIn K ip "sum" =some none)
  (z11:W.nsIn K ip "dict" =some none)
  (z12:W.nsIn K ip "set" =some none)
  (z13:W.nsIn K ip "sorted" =some none)
  (z14:W.nsIn K ip "any" =some none)
  (z15:W.nsIn K ip "abs" =some none)
  (z16:W.nsIn K ip "reversed" =some none)
  (z17:W.nsIn K ip "repr" =some none)
  (z18:W.nsIn K ip "divmod" =some none)
  (z19:W.nsIn K ip "min" =some none):
  ∃fd:ou,(∀(s:h7)(v:gw),zh s fd ⟨[v],[]⟩ [("_law_script",v)])/\∀base:iw,K.In base->base.Ns ip mg->gN l.prog w K mg base CX0 16 fa fd ["_law_script"] (oR K):=by
 have n:∀x,W.nsIn K ip x=some none->mg x=none:=λ_=>W.mg_none_of X G;have T0:Txt mg:=⟨n _ z0,n _ z1,n _ z2,n _ z3,n _ z4,n _ z5,n _ z6,⟨_,W.mg_of X G v0⟩,⟨_,W.mg_of X G v1⟩,⟨_,W.mg_of X G v2⟩,⟨_,W.mg_of X G v3⟩,⟨_,W.mg_of X G v4⟩⟩;have T1:eN mg:=⟨n _ z7,n _ z8,n _ z9,n _ z10,n _ z11,n _ z12,n _ z13,n _ z14,n _ z15,⟨_,W.mg_of X G v5⟩⟩;have T2:TxC mg:=⟨n _ z0,n _ z1,n _ z2,n _ z3,n _ z4,n _ z5,n _ z14,n _ z9,n _ z7,n _ z10,n _ z8,n _ z12,n _ z13,⟨_,W.mg_of X G v6⟩,⟨_,W.mg_of X G v7⟩,⟨_,W.mg_of X G v8⟩,⟨_,W.mg_of X G v9⟩,⟨_,W.mg_of X G v10⟩⟩;have T3:TxD mg:=⟨n _ z16,n _ z17,⟨_,W.mg_of X G v11⟩⟩;have T4:TxW mg:=⟨n _ z18,n _ z19,⟨_,W.mg_of X G v12⟩⟩;obtain⟨_,F,hb⟩:=q78.law (y:="_law_script") X G hfa λ_ _ _ _ _ _ _=>rfl;refine⟨_,hb,λbase _ _=> ?_⟩;let D:=A1 l.prog w K mg base;have g0:D _ _ _:=A9t (q0.d X G) T0;have g1:=A59 (q1.d X G) g0;have g2:D _ _ _:=B28 (q2.d X G) T0;have g3:D _ _ _:=A96 (q3.d X G) T0;have g4:=B0c (q4.d X G) T0 g2 g1;have g5:=A3u (q5.d X G) T0 g2 g4 g3;have g6:=A68 (q6.d X G) g5;have g7:=A9h (q7.d X G) g6 g3;have g8:=A4m (q8.d X G) T0 T1 g6;have g9:=A2m (q9.d X G) T0 g2 g0;have g10:=B38 (q10.d X G) g9 g3;have g11:D _ _ _:=A2w (q11.d X G) T1;have g12:D _ _ _:=B1a (q12.d X G);have g13:=B4i (q13.d X G) T0 T1 g12;have g14:D _ _ _:=B1b (q14.d X G) T0 T1;have g15:=A87 (q15.d X G) T0 g6 g10 g14;have g16:=B44 (q16.d X G) g13;have g17:D _ _ _:=A83 (q17.d X G) T1;have g18:=A2u (q18.d X G) T1 g8 g7 g12;have g19:D _ _ _:=A30 (q11.d X G) T1;have g20:D _ _ _:=A8q (q14.d X G) T2;have g21:=A8l (q19.d X G) T2 g2 g1;have g22:=B4u (q20.d X G) T2 g2 g1;have g23:=A5y (q21.d X G) T2 g2 g22 g20;have g24:=A69 (q22.d X G) g21;have g25:=B06 (q23.d X G) g23;have g26:D _ _ _:=A2y (q24.d X G) T2;have g27:=B4n (q25.d X G) g24 g25 g26;have g28:=B33 (q26.d X G) T2 g0;have g29:=A6m (q27.d X G) g28;have g30:=A4o (q28.d X G) T2 g25 g28;have g31:D _ _ _:=B3u (q29.d X G) T2;have g32:=B32 (q30.d X G) g27 g29 g31;have g33:D _ _ _:=B3a (q31.d X G);have g34:=B12 (q32.d X G) g33 g32 g31;have g35:D _ _ _:=A75 (q33.d X G) T2;have g36:D _ _ _:=B1k (q34.d X G) T2;have g37:D _ _ _:=B43 (q35.d X G) T2;have g38:=A2t (q36.d X G) T2 g37;have g39:=B4a (q37.d X G) T2 g37 g38;have g40:=A7s (q38.d X G) T2 g37 g38;have g41:=A4v (q39.d X G) T2 g37 g38;have g42:=B0t (q40.d X G) T2 g37 g38 g41 g39 g40;have g43:=B05 (q41.d X G) T3 g1;have g44:=A3e (q42.d X G) g2 g5 g21 g23 g26 g43;have g45:=A7p (q43.d X G) g44;have g46:=A2r (q44.d X G) g45 g29;have g47:=A5j (q45.d X G) g11 g7;have g48:=A9g (q46.d X G) g46 g34 g33 g47;have g49:D _ _ _:=A2p (q47.d X G) T3;have g50:=A6b (q48.d X G) g17 g16;have g51:=B1z (q49.d X G) g18 g49 g7 g50;have g52:=A4i (q50.d X G) T1 g48 g19;have g53:=A2z (q51.d X G) g45 g51 g52 g30;have g54:=A41 (q52.d X G) T1 g53 g7;have g55:=B21 (q53.d X G) T0 T1 g7;have g56:=B4y (q54.d X G) T0 g31 g47 g19;have g57:=B29 (q55.d X G) g45 g54 g49 g30 g55 g56;have g58:D _ _ _:=A3t (q14.d X G) T0 T1;have g59:=B02 (q56.d X G) T0 g28 g58;have g60:=A8x (q57.d X G) g45 g2 g59 g15 g55 g54 g56;have g61:=A6d (q58.d X G) g15;have g62:=B2i (q59.d X G) g50 g18 g52;have g63:=B1g (q60.d X G) g46 g61 g62;have g64:=B3m (q61.d X G) T0 T1 g7;have g65:=A5b (q62.d X G) T0 g45 g7 g2 g28 g30 g62 g64;have g66:=A9e (q63.d X G) g65;have g67:D _ _ _:=A5u (q64.d X G) T4;have g68:D _ _ _:=B14 (q65.d X G) T4 T0;have g69:D _ _ _:=B0p (q66.d X G) T4;have g70:=B37 (q67.d X G) g67 g68 g69;have g71:=A7t (q68.d X G) g70;have g72:=B2g (q69.d X G) g53 g7 g71;have g73:=A85 (q70.d X G) g53 g7 g70;have g74:=A9f (q71.d X G) g61 g16;have g75:=A3o (q72.d X G) g61 g18 g17;have g76:=B2w (q73.d X G) g66 g29 g64;have g77:=A5g (q74.d X G) g30 g48 g47;have g78:=A52 (q75.d X G) T1 g30 g76 g74 g75 g63 g7 g65;have g79:=B1t (q76.d X G) T0 T1 g37;have g80:D _ _ _:=B09 (q77.d X G) T0 T1;exact A9l F T0 T4 g36 g42 g72 g57 g73 g77 g78 g60 g37 g65 g79 g80 g35
theorem walk {l:W.OpenLaw}{q:il}{loose:List Str}{XP:(Str->Option gw)->iw->Prop}{YP:i6->iw->Prop}{d:DefRec}{K:Params->W.Frag}(hn:l.most=some 63)(hdf:d.params.defaults=[])
  (hY:∀(w:i6)(h:iw),YP w h->(K w.params).In h)
  (F:∀(w:i6)(mg:Str->Option gw)(fa:gy)(h:iw),(K w.params).In h->h.Ns ip mg->mg d.name=some (.ref fa)->
   ∃fd:ou,(∀(s:h7)(u:gw),zh s fd ⟨[u],[]⟩ [("_law_script",u)])/\∀base:iw,(K w.params).In base->base.Ns ip mg->gN l.prog w (K w.params) mg base CX0 16 fa fd ["_law_script"] (oR (K w.params))):
  W.WalkO q loose XP YP l.row.toRowW d [] (λf vs=>PySem.call f vs):=
 L2.walk_of (n:=63) (k:=16) (x:="_law_script") (CX:=λ_=>CX0) (sp:=λw=>oR (K w.params)) hn (by decide) hdf ⟨rfl,by decide,by decide,rfl⟩ hY F (λ_ _ a ns hl _ hS=> ⟨a,ns,rfl,hS,hl,λ_=>rfl⟩) λ_ _ _ _ _ z=>z
end
end M12
open PySem PySem.W PyProof.Rows L2
structure PySem.W.Fast:Prop where(tw8970946901012167671 tw4857864993523498281 tw4625692459281725106 tw11518586513201516666 tw8980740506287247906 tw13506513951046424351 tw15286657894349964714 tw14900663120729150173 tw7297028495251801501 tw12974587804878552468 tw3855885582793811049 tw15112445056476793169 tw17781120021168354183 tw15432704436910975386 tw17679269878625499651 tw8215486013669708652 tw15785282877908697923 tw8955537367598561874 tw133112288277005387 tw14934460861137291729 tw5777526630774787625 tw12315407790619547579 tw3347775025655486515 tw18145526776413219842 tw5704367000782323644 tw4430873490318911229 tw2026062441407422342 tw13349261155156820493 tw17667335805666172119 tw14298259802229372801 tw4063116358591341317 tw13521978792904290334 tw1345599355628937340 tw1407978609379888699 tw9637278720450951396 tw16489166987836434799 tw16706712406664050916 tw15713999098032272386 tw2408953974640955072 tw11867692976111864983 tw5218875373345062653 tw14577777162594514759 tw4825785992897628356 tw2091059196802060269 tw2645979300979308133 tw15520553869094388730 tw16624457713282517895 tw13384415948500472145 tw9306487650328419567 tw2749631343611013939 tw17928049482207209565 tw14861921513608877030 tw10585456715589131957 tw8730366473019465879 tw10117970489936045898 tw15834188868852804082 tw4249918239086282702 tw9856702685148877569 tw6945151787100149117 tw11935936000019766434 tw8010019596988727495 tw17426919492492309984 tw12236641252552313869 tw13600402277472884009 tw4087990386518308765 tw4666214769652434794 tw914533626445851175 tw16852498026524348901 tw7656857196771759242 tw7133942263274447347 tw6264329065898701675 tw7527719646098142693 tw5644995004335979615 tw3857780097022333673 tw5049498873134527714 tw5289496931002328298 tw17082289409119903753 tw6331814629593169316 tw955940490558291594 tw16116443581765765475 tw2810044677942051056 tw15691470813598986086 tw11451654076021764910 tw6167218127060372661 tw13788228771706285011 tw4524962518840180343 tw17712541055719554428 tw9452688705436166807 tw13569914059285805403 tw9008319123349897600 tw23394303360354960 tw6449962833460991617 tw3157814721290578670 tw10514600560178099896 tw12508121091087205869 tw1035795668070281868 tw17505320680545722556 tw8962243196798897531 tw8089027715928191426 tw17812939336818761575 tw16774433737497613974 tw16267339991687728517 tw4564762077010279312 tw719430741428538842 tw11161341610153675346 tw765045261668045724 tw6048884959207023007 tw13982840990955361364 tw14720538815117736943 tw5378041070111770723 tw18379092639029229772 tw5512658118202986393 tw15887710677640833413 tw15733864890006928922 tw3363308249443269248 tw17610693726653995988 tw13882019687551048249 tw13793746430510486935 tw8895747800478576559 tw16415567596598049596 tw1298096173194866267 tw9517673810878710039 tw4591708778586830685 tw12291589610265542953 tw17476078834136747548 tw16189370640510963562 tw10186995248457515175 tw2151452253984930433 tw1492290104821924469 tw7550551539148160439 tw9704950054720505184 tw11037301557508939837 tw14672771277153895009 tw4815712316643465477 tw18110919581500634771 tw7611218492498453568 tw5682871561492992693 tw396243737137243519 tw1381488100590235127 tw18177339715483346552 tw12808201965027190444 tw4921334939081067632 tw12301873138617039380 tw15640605512522400780 tw11934923106069002554 tw2015801421368078615 tw13598462852275795319 tw8688936519119318577 tw11336271538741992694 tw373037583466706827 tw12109196022834968828 tw2895315120303192283 tw7691583883285505521 tw5131756130192596805 tw3656514399731628662 tw7738393892467971970 tw15288047718510191915 tw16438537991538441421 tw4851129825738172268 tw15768560822260638092 tw16461272821182152316 tw10527241710211868573 tw3170349309789385621 tw11138248071743482652 tw11969299646742830941 tw8509242323258075867 tw10270694939821548805 tw8295996384849776823 tw13772232240902393971 tw8337832638173275408 tw1255312684096638582 tw7380956973984736379 tw12207266522418408625 tw11604526301673298354 tw8493148781479081927 tw17641782908673033263 tw6195038764609461338 tw6415387693520391766 tw16145410730095356085 tw17309675749211077986 tw9328575913598649480 tw13960795903005222246 tw252316309718569876 tw6538057894655420578 tw12246806822288021321 tw13051121058890413219 tw1790487836456740043 tw2839626584923540004 tw5306734707937326479 tw3524334838810401407 tw16705165242105046272 tw11852256636872613064 tw2292136055234608866 tw12890986442040736627 tw17819666687502075223 tw16806726256772151185 tw11206556042693912563 tw16700579629223988487 tw4561244272292609372 tw11573512294145678842 tw15517633271745318954 tw14586747136704470346 tw230565777286770635 tw8933774694893276423 tw5122853757376506977 tw8188021562805684635 tw1607542502323630479 tw4789709255761332384 tw12094049667533255913 tw15426535004054005567 tw7494071404839660386 tw9881426440973330271 tw16838734886204302379 tw1324648614400898263 tw10437049731081274337 tw8873227014869618717 tw15879825374343923427 tw13231072672066927036 tw717345574572825159 tw3311563649426069027 tw11529100328059739589 tw16963931809456470012 tw4193675945461799783 tw5970024785302332866 tw9095202715606878524 tw1896567603840068360 tw13411901973185096249 tw12723473199709434726 tw17207362064128879625 tw18167912039321807268 tw10052744185094994453 tw14504788811336302112 tw18097877103781806369 tw13189050767574815271 tw9612406753187030595 tw7630058234416156933 tw14725831303686099949 tw9967988364393588458 tw1734074185623177105 tw7318841599723650479 tw10678512850170279802 tw4570067692756099015 tw10325218620670172778 tw8781931019820837483 tw10011873216137992218 tw8074179553448197781 tw14447111701911909416 tw1992489656614604890 tw4009853609290731883 tw13778913416535432379 tw9708746100182615502 tw3296752554796433368 tw18083598366090387567 tw7707034961994249214 tw13849913379917896981 tw10186127098605765184 tw12416710069620773789 tw14085992887520733790 tw11609821810798671074 tw9920095021098354986 tw16461092790982296984 tw15975289499779149712 tw11314032651773467380 tw14357907418223984438 tw7235274275844727222 tw8118324782340924065 tw15072716971728198372 tw9258615993823525908 tw16592748813711096363 tw233251204610013793 tw18251794043650762932 tw4153166477971509909 tw17775438297347719539 tw4153762648920736629 tw16848703230450449746 tw14348202715661564549 tw1440522652260710518 tw2805147505407448029 tw8640026893985278386 tw7522063305596421012 tw5426802477257256792 tw13758455859770795359 tw8523796693066538138 tw3566449683822323327 tw7453293859992613300 tw5496937921944602394 tw18394249363004235138 tw10694326717240450109 tw10247189365327427786 tw13509365929690703688 tw9944657653003780384 tw11967864159265301489 tw16439621114305492184 tw12202220496109609334 tw14341935581058480683 tw9628691491810529004 tw8047397092188681155 tw11032408948401734861 tw13002975801222096650 tw5015641069057214161 tw5888479873058920032 tw10191779511312374183 tw12017952808008969004 tw1435177976283048544 tw5932734657645924464 tw3269091446531691887 tw12957496224498373315 tw10293431601089540234 tw7109007508180001000 tw7021869805536794457 tw2308703212594031903 tw5324010380265715235 tw2393606749909116108 tw1052387018377631804 tw11771501789743254268 tw17678805820332965877 tw2643279925384121921 tw13314442154825116302 tw2789590132086353022 tw17572371417369618674 tw3734037869141813516 tw976654425712369519 tw7886370325329440514 tw13416190058783836434 tw15557478344068650690 tw427061232682143271 tw3228714711664224216 tw647646469450706730 tw4997058128735861350 tw1314252369169337571 tw14181673484358802098 tw5280679932102519628 tw3869966084525449982 tw3511075281450181069 tw1237380577896244344 tw10254569269357645348 tw10914444141838374044 tw10450323228209453704 tw13733563013713079999 tw3040919260745302919 tw12256875371947951124 tw14096753007528758673 tw11745392484606351596 tw4698866951316470055 tw8526791823678153961 tw2986704123802134001 tw13307325610816764308 tw152269447010469459 tw489566670123596047 tw764054519005331985 tw225934446269130105 tw12552715732260850090 tw13398110118205494245 tw2046545331817823266 tw16180240588649995851 tw15382132556382613390 tw3756813652908185979 tw11886733818226727604 tw1356513570236080371 tw13329888695919115075 tw15709859294092335129 tw3088622331361136914 tw17781412814619777622 tw15920044521691683319 tw7825643057160904407 tw17179950039508356627 tw17569607283585431443 tw15078083177732640937 tw5393317263377691191 tw5988802114543950976 tw2168371580240867650 tw13462540072128515109 tw7114063013559562836 tw15613148333509815800 tw4893036190730470158 tw8845822726646373549 tw16445372496202663542 tw3461913678362199080 tw10024001894379198796 tw324550520580637708 tw2590294880846389559 tw4286842758238456259 tw5103194536168052753 tw7623767339379345611 tw4344999277410114035 tw18281075748828042265 tw2205396118613269181 tw14027096009412054522 tw13119656674212839543 tw9458173500036678948 tw5105425997136014927 tw12252417433244662030 tw13697631478594131436 tw16849149418214146475 tw1276174815115149099 tw969999928612826924 tw5992876448358701442 tw12598395936680875765 tw4755365345416657274 tw9702478166937228990 tw7427627843517817130 tw12571055180385940132 tw9936662625572292529 tw12348848014093491530 tw9293317137334315397 tw14605047101907731969 tw15531869347821925235 tw12988851360266350049 tw12635799315564226111 tw9192082101189811183 tw17677394798940405585 tw9571818112629507528 tw6664340778448464555 tw12383360970652180555 tw11225324156888042117 tw16675098556172852401 tw8824156657677771666 tw16057379011645649145 tw2943081615604323438 tw15713859047954731393 tw8580486184977609542 tw4984056883010937384 tw16767679123285239733 tw4803472313503150221 tw7593945748062930516 tw5361633325297099450 tw9865828427833432958 tw14656142149461191478 tw1940315371733806253 tw716649871365805764 tw11693655084737076855 tw11013481551717984124 tw6012814072125467814 tw4884786066792936533 tw5848563459803404296 tw13758209029807968574 tw14644349750600063666 tw1522346987966496150 tw17012564427481059921 tw8013787794277505417 tw5179893942515848906 tw164761834160763611 tw113005152957008790 tw12932812008882717691 tw9257789900677847164 tw3281131528075803425 tw6483416011929287635 tw17040204813104050207 tw11759378709855335015 tw17838026128282502769 tw844184512415472388 tw12946208174191700026 tw14689661667166060890 tw18212200789387292770 tw7544847171025869815 tw10841251380742489790 tw4279266971187442408 tw12294035552729870342 tw1464105785946210621 tw7986090519013743147 tw10910183731340632343 tw3289225646040649515 tw16052514946486644982 tw1817633947590163591 tw5274300705656631118 tw17744135136427002768 tw185226653562079205 tw17519362318281561161 tw8673961436007619289 tw4136940984826641351 tw14040883381774686874 tw8033504644187291472 tw4096235738763155881 tw13001810928722844787 tw13267974301560683294 tw8323583316442979331 tw6115666956988155700 tw7601648754952183439 tw1778185528308517637 tw16429358663347661120 tw10116998564481320393 tw1554534098574012944 tw15638286248857263682 tw2106951232576307981 tw4466928240848760298 tw3743308464380080759 tw12141239896024783611 tw13406592510910886774 tw14621725955029804206 tw7670643153702618198 tw16409646783591818690 tw14576110568656074508 tw3462408182718527790 tw1870268523040694593 tw7462676571137843734 tw1324195288931291913 tw1625904686441455087 tw825666086186985388 tw14418469434663503520 tw15825598455257397449 tw7948947550462668235 tw18380321853135803068 tw15664670375275162567 tw1718928176696336561 tw11576523093415199014 tw10871911727630099968 tw2870839371059246713 tw606115241899745397 tw14763491077883017673 tw1034414984394502541 tw18403149875852135289 tw4836914738431828194 tw16787524265232507664 tw10020345612743662635 tw8674919139448696709 tw11474878674747529298 tw17185223805014930301 tw6425009713380279933 tw571035085509011708 tw18435649162706152716 tw10121131840241265820 tw18382292753655696395 tw3392384248434078240 tw6347709406957233795 tw5433226126535741408 tw9736873535212974845 tw12673894513861183492 tw9717561619150692183 tw7291218018242389090 tw6163169764626757591 tw2079778822114807935 tw10253471189783305574 tw719774381916935768 tw10647445174075633857 tw4873932765889960922 tw15152393005540366136 tw8489202786761896716 tw16906916501398841400 tw8618584325579991138 tw6774831761139921140 tw8442062399659566274 tw11625167047737195719 tw6060979588448803585 tw12643248290005736572 tw11797268493411783430 tw7196121653099728642 tw7792588813299507263 tw2312486611621064206 tw12794549118378234479 tw14495111545182057316 tw15418723444559973224 tw172733169003802942 tw4905700422599882615 tw6435878626198779194 tw14506886455693728979 tw5350505971492799748 tw12782968993078866851 tw13814295894919851125 tw11582834563500535310 tw12495541328543439296:True)
set_option maxRecDepth 100000 in
set_option maxHeartbeats 0 in
theorem PySem.Challenge.cw_meadshares_k12_whole_all_at_once_or_none_holds : PySem.Challenge.rw_meadshares_k12_whole_all_at_once_or_none.Holds := by
 w_on;o_law;k_head;(case hw=>w_witness2)
 k_fill
 refine' M12.walk (l:=PySem.Challenge.rw_meadshares_k12_whole_all_at_once_or_none) rfl rfl (fun w h Y=>PySem.W.kIn_of Y) ?F
 case F=>
  intro w mg fa h KX G hmg
  refine' M12.all_mk KX G hmg ..
  all_goals try first| (refine' B4k ?a ?l ?c ?k;(case a|l|c|k=>k_is))|k_is
