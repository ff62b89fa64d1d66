import PyProof.Rows.All
import Wide.All
import OpenK.AllK
import Wide.FinOn
import Lean
import PyProof.EqAt
import PyProof.EqKinds
import PyProof.TupleCall
import KE.LcSums
import KE.KDictOf
import PyProof.Cells
import PyProof.ZipIter
import KE.KTryMore
import KE.KSortTup
import PyProof.Rows.SortRuns
import PyProof.DictItems
import KE.KItemsList
import PyProof.NeKinds
import PyProof.Rows.SetFrom
import PyProof.CollectWalk
import KE.KSortedM
import KE.KRevIter
import PyProof.TupleKey
import PyProof.WalkInts
import PyProof.WalksMore
import PyProof.StrCalls2
import PyProof.StrBlockL
import PyProof.SliceStr2
import PyProof.FitsReplace
import PyProof.StrLawsOcc
import KE.KIntText
import KE.KRevSl
import PyProof.DictIter
import PyProof.DictFindH
import PyProof.ListNew
import PyProof.ReprRoads
import PyProof.ReprLen
import PyProof.CallFns
import PySem.Challenge.RW_meadshares_k09_first_and_how_many
set_option Elab.async false
set_option linter.all false
set_option maxRecDepth 100000
open List (filter findIdx? foldl_cons forIn_cons length_zip lookup map_drop map_id map_nil take_zero toArray zip_append)
open Nat (add_assoc mod_lt mul_comm not_lt pow_succ sub_zero)
open List renaming all_eq_true→aa, all_map→ae, any_cons→af, any_eq_false→ag, any_eq_true→ah, any_map→ai, append_assoc→aj, append_nil→ak, concat_eq_append→ao, cons_append→aq, countP_cons→au, drop_of_length_le→av, drop_sublist→aw, drop_zero→ax, eq_nil_of_length_eq_zero→ay, eq_nil_or_concat→a8, exists_cons_of_ne_nil→a9, ext_getElem→ba, filterMap_cons→bb, filter_append→bg, filter_congr→bh, filter_cons_of_neg→bj, filter_cons_of_pos→bo, filter_eq_nil_iff→bp, filter_eq_self→bq, filter_filter→br, filter_map→bu, filter_sublist→bw, find?_cons→bx, find?_cons_of_neg→bz, find?_cons_of_pos→b6, find?_eq_none→b7, flatMap_cons→b8, flatten_append→b9, flatten_cons→cb, flatten_singleton→cf, foldl_append→cj, getD_eq_getElem?_getD→cm, getElem?_append_left→cp, getElem?_append_right→cq, getElem?_drop→cv, getElem?_eq_getElem→cx, getElem?_map→cy, getElem_drop→cz, getElem_mem→c5, getElem_take→c7, length_append→c8, length_cons→c9, length_drop→de, length_filter_le→dh, length_map→di, length_nil→dk, length_range→dm, length_singleton→dq, length_take→du, lookup_append→dv, lookup_cons→dy, map_append→dz, map_congr_left→d5, map_cons→d6, map_map→d7, mem_append→d8, mem_append_left→d9, mem_append_right→fc, mem_cons→fe, mem_filter→ff, mem_filterMap→fh, mem_flatten→fi, mem_iff_getElem→fj, mem_iff_getElem?→fk, mem_map→fm, mem_map_of_mem→fo, mem_of_getElem?→fq, mem_of_mem_drop→ft, mem_of_mem_take→fu, mem_range→fw, mem_reverse→fx, mem_singleton→fy, mem_zipIdx_iff_getElem?→fz, nil_append→f6, nodup_append→f7, nodup_cons→f9, nodup_iff_pairwise_ne→gc, nodup_nil→gg, not_mem_nil→gh, of_mem_zip→gj, pairwise_append→gq, pairwise_cons→gr, pairwise_iff_getElem→gu, pairwise_map→gv, pairwise_singleton→gw, perm_append_comm→gy, range_succ→gz, size_toArray→ic, sublist_nil→ie, sum_append→ig, sum_cons→il, take_append_drop→ip, take_of_length_le→iq, take_sublist→ir, take_succ→iu, zip_cons_cons→iw
open PySem.Heap renaming get?_push_size→iy, get?_update_other→i0, get?_update_self→i5, size_push→i6, size_update→i7
open Nat renaming add_sub_cancel→i8, eq_or_lt_of_le→i9, le_of_eq→ja, le_of_lt→jb, le_succ→jc, le_trans→jd, lt_irrefl→je, lt_of_lt_of_le→jf, lt_of_succ_lt→jg, lt_or_ge→jh, lt_succ_of_lt→ji, lt_succ_self→jj, lt_trans→jk, mul_le_mul→jm, ne_of_gt→jn, ne_of_lt→jo, pow_le_pow_right→jq, zero_add→jr, zero_le→js
open PySem renaming Value→jt, Addr→ju, sizeLine→jv, Shared→jw, wpAny→jy, Builtin→j6, Program→j9, mainGlobals→kf, model→kg, Heap→kj, World→kl, sizeLine_eq→ko, NameKind→k7, wpAny_newObj_type→k8, wpAny_call_entry→ly, wpAny_holding→l8, Around→mh, Stmt→mw, wpAny_setField_rec→m5, PyData→m6, boot_len→m9, wpAny_callSpecial?_slot→nc, PassesOwn→nh, starEach→ni, cLine→nj, codeAny_builtin→nu, compareOp→nv, sysModules→n4, wpAny_loadPart'→n8, wpAny_seqItems→n9, mem_of_lookup→oh, wpAny_field→oi, Expr→om, wpAny_truthy_bool→oo, foldedSetIterable→ou, plainId_quiet→oz, wpAny_rule→pj, cellsFrom→p9, wpAny_updateSeq→qc, tupleKind→qd, wpAny_pyIter_tuple→qe, wpAny_typeNameOfWhole_itemiter→qf, codeAny_mono→qg, bootBuiltins→qu, wpAny_isInstance→rg, wpAny_mono→rl, eval→sf, wpAny_typeNameOf_itemiter→sr, wpAny_passesOwn→sy, wpAny_pyIter_list→tj, FuncData→tm, codeAny→tq, wpAny_standAt→ua, pyNext→ub, wpAny_askSetting→uj, IsPair→uk, intKind→uv, wpAny_Call_Name_kw→va, wpAny_specialOf→vc, rawInt→vh, wpAny_pyIter_slot→vm, wpAny_setState_of→vn, firstArgMember→vq, wpAny_letGo→vw, DictEntry→wc, wpAny_forIn_list→wd, wpAny_typeOf→we, binaryOp→wo, wpAny_attempt→wz, tupleKind_room_in1→xh, sliceBounds→xl, codeAny_compStart_list→xv, wpAny_isOneOf_itemiter→xw, wpAny_tryCatch→x8, builtinLookup_eq_fast→ya, isSubtype_tuple_tuple→yd, updateSeq→yg, behindInMarks→yh, Scope→yk, wpAny_of_eq→ym, wpAny_execs_nil→yp, letOwnedTupleGo→yq, wpAny_setEntries_of→y6, getItem→y8, argBest→zh, assignEach→zk, wpAny_setField→zu, wpAny_fieldsOf→zy, wpAny_tupleItemsOf→Ae, holding→Ak, slot_list_getitem→Al, wpAny_dictEntries→Ap, backTo→As, wpAny_getItem_list_slice→Av, attributeBase→Aw, noFill_tuple_add→AG, wpAny_Dict_empty→AJ, pushCells→AL, IsZip→AM, wpAny_Call_method0_late→AQ, pickOrder→AV, meetsH_dict_get_default→A0, pyIter→A7, wpAny_pyNext_list_item→A8, IsPart→Ba, intKind_is→Bg, atKey→Bk, codeAny_of_tree→Bl, typeLookup_type→Bm, pushCells_keeps→Bn, wpAny_dictEpoch→Bo, wpAny_isTrue_Compare1→Bt, wpAny_pyNext_list_end→Bu, wpAny_notOrdered_dict→By, subscripted→BF, compTurn→BH, wpAny_newTuple→BK, isSubtype_stop→BL, entryFor_alias→BO, standAt→BQ, swapsWith→BR, BindsTo→BS, callerA→BU, valueAt→BV, seqItems?→BW, assignInOrder→BX, seq_tuple_add→BY, evalPart_none→BZ, Comprehension→B0, wpAny_handled→B1, IsItemIterOut→B4, entryOfKey→B7, assign→B8, IsItemIter→Cc, isInstance→Cd, sliceRange→Ce, concat_meets→Cf, seqIndex_neg→Cg, entryFor→Cj, SetTable→Co, call_meetsIn→Cq, slicePick→Cs, eqIsQuiet→Cu
open PySem.Value renaming ref→jx, none→ke, type→oj, bool→rj, int→sv, str→AE
open Option.some renaming inj→j7, injEq→pq
open PyProof.Rows renaming wpS_bind→j8, wpS_pure→ka, Keyed→lg, SortSt→mf, wpS_forRange→n5, callWith_type1→ot, slot_tuple_getitem→ox, boot_isinstance→qb, kindOf→qp, arrOf→qt, IntsAre→qv, boot_tuple→r6, wpS_mono→r8, wpS_modify→uf, seqObj→wm, failedOf→w6, setArr→xj, pendingOf→xm, wpS_get→yi, assignInOrder_cons→zl, envOfC→zq, boot_all→zw, AllBare→Aj, boot_sorted→Aq, subscriptTail→Au, wpS_lift→AO, boot_list→AX, subscriptTail_builtinR→Bb, numOf→Bp, IsTup→BE, gallopOf→BM, Subscript_→B9, bubble→Cb
open Array renaming getElem?_toList→kh, length_toList→k5, toList_append→lj, perm_iff_toList_perm→oy, getElem?_eq_getElem→ph, toList_push→qa, toList_reverse→tu, Perm→vz, getD→wa, forIn_toList→Ad, size_setIfInBounds→Ax, getElem?_eq_none→Bf
open Bool renaming false_ne_true→ki, false_eq_true→km, eq_iff_iff→k6, and_eq_true→pe, not_true→qj, or_eq_false_iff→vt, and_comm→B5, and_self→B6
open Sum renaming inl→kr, inr→A6
open List renaming range→kz, Perm→m7, length→pk, drop_eq_getElem_cons→sk, getElem?_zip_eq_some→su, getElem?_take_of_lt→uc, take_append_of_le_length→uu, map→vd, length_filterMap_le→xc, getElem?_cons_zero→xp, getElem?_cons_succ→xq, getElem?_set_self→xr, getElem?_eq_none→yc, drop_append_of_le_length→yn, getElem_of_mem→yz, getElem?_eq_none_iff→Ag, findIdx?_eq_none_iff→Ah, mem_of_find?_eq_some→Ai, append_cancel_right→AD, getElem?_replicate→AF, length_eq_zero_iff→AY, filter_append_perm→A3, length_pos_of_mem→Bd, length_replicate→Bv, filterMap_append→Bw, pairwise_reverse→Bx, Sublist→Cn
open PySem.PassesOwn renaming never→k9
open Int renaming toNat_natCast→lq, eq_ofNat_of_zero_le→md, mul_assoc→qo, mul_comm→tw, mul_le_mul_of_nonneg_right→uo, le_refl→ur, fdiv_eq_ediv_of_nonneg→zm, fmod_eq_emod_of_nonneg→zo, not_lt→zx, emod_lt_of_pos→Ab, emod_nonneg→Bq, le_trans→Ck, le_of_lt→Cm
open List.Perm renaming append_left→l7, of_eq→xf, refl→BN
open PySem.Builtin renaming bitAnd→mq
open PySem.Around renaming under_plainId→mv
open PySem.Heap renaming SameBut→my, get?_update_ne→yx, IsTuple→Bc, ExtBut→BI
open PySem.NameKind renaming free→m4, cell→og
open PySem.Obj renaming mapSeq→m8
open Or renaming inl→ng, inr→qr
open PySem.F renaming slot_dict_itemiterator_next→ny, plainAttrs_list→ow, called_set→p7, slot_list_append→qk, type_list_append→ql, plain_min_loop→rh, slot_tuple_iterator_next→rq, slot_dict_get→r9, plain_extend_loop→ui, plainAttrs_dict→um, args_tuple_add_2→wq, slot_list_getattribute→wx, entry_tuple_add→xk, args_dict_get_3→xo, slot_tuple_add→xu, entry_dict_get→xy, slot_tuple_hash→x6, args_dict_itemiterator_next_1→x9, entry_dict_itemiterator_next→ye, slot_dict_itemiterator_iter→yo, args_tuple_iterator_next_1→yt, slot_tuple_eq→yv, slot_dict_keyiterator_iter→yw, entry_tuple_iterator_next→y9, slot_list_extend→Ay, type_list_extend→Az, slot_dict_items→AR, type_dict_items→AS, plain_list_iadd→AW, entry_min_loop→A2, slot_dict_items_iter→Be, plain_set_new→BA, slot_set_iter→BB, type_dict_get→BC
open PySem.SeqAt renaming EqAt→nz, RcAt→xi, RcNeAt→zf
open PyProof.Rows.SortSt renaming mk'→n6
open PySem.Builtin.SmallTypes renaming nextOf→pf, ownedTupleHandOut→wk, ownedTupleIsFree→wy
open True renaming intro→p6
open Option renaming isSome_iff_exists→qh, isSome_map→Am, getD_none→AI, none→BG
open PySem.Str renaming ofString→qi
open PySem.Calls renaming callWith_builtin→qw, spliced_cons→rm, spliced_nil→xt, evalArgs_plain→yl, Name_function_global→zj
open PySem.Builtin.List renaming listExtendWith→qx, listSameRef→ug, listTooLong→wu, listLengthHint→zg, listItems→Bj
open PySem.Builtin.Dict_items renaming ownedTupleIsFree→qz, ownsTuple→vg, ownedTupleFields→w8, pairFromOwner→xx
open PySem.Builtin.Slice renaming slicePlaces→si, sliceAdjust→wg, sliceApplied→zr
open PySem.Builtin.Tuple renaming tupleExact→ud, tupleItemsOf→vp, tupleHashOf→wj
open PySem.Heap.SameBut renaming update→uh
open Sum.inl renaming inj→uq
open False renaming elim→uw
open Array.Perm renaming refl→ve
open List.Pairwise renaming nil→vk, and_mem→yb
open PySem.PyData renaming hasDictAll→vo, hasDict→Af, weightAll→A5, depthAll→Br, showable→Bs, leavesShortAll→BD, shown→Cr
open PySem.Shared renaming TypeIs→w9
open PySem.SeqAt.EqAt renaming int_int→xg
open PyProof.Rows.F renaming plain_set_update_loop→xn, entry_set_update_loop→AU
open Prod.mk renaming injEq→yj, inj→BP
open ForInStep renaming yield→yr
open List.cons renaming injEq→yu, inj→AB
open PySem.W renaming Frag→y7
open PySem.Builtin.Builtins renaming bindParams→zi
open Nat renaming lt_of_le_of_lt→zt, gcd→Ar, gcd_pos_of_pos_right→AA, succ_ne_self→AK, le_add_right→AN, mul_div_cancel_left→AZ, le_mul_of_pos_left→Bh
open PySem.SetTable renaming below→Aa
open PySem.SeqAt.RcAt renaming tuples→An
open Prod renaming ext→AH, fst→BJ
open PySem.Builtin.Dict renaming updateFrom→A4, pairItems→Bi, showsAll→Bz
open PyProof renaming noPylong_small→A9
open PyProof.Rows.LSm renaming kept_iter→B2
open PySem.Walks renaming list→Ca
open Nat.succ renaming inj→Ci
open PySem.pickOrder renaming go→Cp
open And renaming intro→Ct
def CI:=@PySem.wpAny_bind
def CJ:=@PySem.wpAny_pure
def CK:=@PySem.Heap.get?_push_of_some
def CL:=@List.getElem?_eq_some_iff
def CM:=@decide_eq_true
def CN:=@decide_eq_false
def CO:=@PySem.Heap.lt_size
def CP:=@List.mem_cons_of_mem
def CQ:=@List.mem_cons_self
def CT:=@Nat.le_refl
set_option hygiene false
local macro_rules | `(tactic| ac_nf) => `(tactic| intro nd f cdv A outer s H vs Q E hr h)
set_option hygiene true
local macro_rules | `(tactic| ac_rfl) => `(tactic| exact ⟨rfl, rfl, rfl, by decide +kernel, rfl, by decide +kernel, by decide +kernel⟩)
local macro_rules | `(tactic| omega) => `(tactic| lia)
namespace L2
open PySem PySem.Spec PyProof.Rows
noncomputable abbrev Key:=Sum Int Str
noncomputable def kE:Key->jt->Bool
 | .inl k,v=>jt.isInt k v
 | .inr x,v=>jt.isStrOf x v
noncomputable def B2g (w:kl):Key->Int
 | .inl k=>hashInt k
 | .inr x=>hashStr w x
theorem keyIs_shape:∀{k:Key}{v:jt},kE k v=true->(∃i t,k=kr i/\v=sv i t)\/(∃x t,k=A6 x/\v=AE x t)
 | .inl i,v,h=>by
  obtain⟨t,e⟩:=jt.isInt_shape (k:=i) (v:=v) h;exact .inl ⟨i,t,rfl,e⟩
 | .inr x,v,h=>by
  obtain⟨t,e⟩:=jt.isStrOf_shape (x:=x) (v:=v) h;exact .inr ⟨x,t,rfl,e⟩
theorem B2f (i:Int)(t:Tok):kE (.inl i) (.int i t)=true:=by simp[kE,jt.isInt]
theorem A81 (x:Str)(t:Tok):kE (.inr x) (.str x t)=true:=by simp[kE,jt.isStrOf]
theorem B2h (a b:Int):decide ((kr a:Key)=kr b)=(a==b):=by
 by_cases e:a=b
 ·subst e;simp
 ·have h:¬(kr a:Key)=kr b:=λq=>e (uq q);rw[CN h];exact(beq_eq_false_iff_ne.mpr e).symm
theorem A38 (a b:Str):decide ((A6 a:Key)=A6 b)=decide (a=b):=by
 by_cases e:a=b
 ·subst e;simp
 ·have h:¬(A6 a:Key)=A6 b:=λq=>e (A6.inj q);rw[CN h,CN e]
theorem B5e (a:Int)(b:Str):decide ((kr a:Key)=A6 b)=false:=CN (λq=>nomatch q)
theorem A8g (a:Str)(b:Int):decide ((A6 a:Key)=kr b)=false:=CN (λq=>nomatch q)
noncomputable def cH (prog:j9)(w:kl):PySem.KeyKind prog w Key where
 is:=kE
 hash:=B2g w
 inj:=λv a b ha hb=>by
  rcases keyIs_shape ha with⟨i,t,rfl,rfl⟩| ⟨x,t,rfl,rfl⟩
  ·rcases keyIs_shape hb with⟨j,u,rfl,e⟩| ⟨y,u,rfl,e⟩
   ·injection e with e1 _;rw[e1]
   ·exact nomatch e
  ·rcases keyIs_shape hb with⟨j,u,rfl,e⟩| ⟨y,u,rfl,e⟩
   ·exact nomatch e
   ·injection e with e1 _;rw[e1]
 byValue:=λk v h=>by
  rcases keyIs_shape h with⟨i,t,rfl,rfl⟩| ⟨x,t,rfl,rfl⟩<;>rfl
 pyHash:=λhv h=>by
  rcases keyIs_shape hv with⟨i,t,rfl,rfl⟩| ⟨x,t,rfl,rfl⟩
  ·exact wpAny_pyHash_int h
  ·exact wpAny_pyHash_str h
 eqBool:=λhu hv h=>by
  rcases keyIs_shape hu with⟨i,t,rfl,rfl⟩| ⟨x,t,rfl,rfl⟩
  ·rcases keyIs_shape hv with⟨j,u,rfl,rfl⟩| ⟨y,u,rfl,rfl⟩
   ·rw[B2h]at h;exact wpAny_eqBool_int h
   ·rw[B5e]at h;exact nz.int_str i t y u _ _ _ _ h
  ·rcases keyIs_shape hv with⟨j,u,rfl,rfl⟩| ⟨y,u,rfl,rfl⟩
   ·rw[A8g]at h;exact nz.str_int x t j u _ _ _ _ h
   ·rw[A38]at h;exact wpAny_eqBool_str h
 «strs»:=λk x t v h=>by
  rcases keyIs_shape h with⟨i,u,rfl,e⟩| ⟨y,u,rfl,e⟩
  ·exact nomatch e
  ·injection e with e1 _;subst e1;cases v<;>rfl
theorem A8q (prog:j9)(w:kl)(i:Int)(t:Tok):(cH prog w).is (.inl i) (.int i t)=true:=B2f i t
theorem A5y (prog:j9)(w:kl)(x:Str)(t:Tok):(cH prog w).is (.inr x) (.str x t)=true:=A81 x t
inductive V where
 |non|bl (b:Bool)|int (i:Int)|str (x:Str)|byt (b:Array UInt8)|flt (b:UInt64)|ref (a:ju)|ty (n:String)
 deriving DecidableEq
noncomputable def RelV:V->jt->Prop
 | .non,u=>u=ke
 | .bl b,u=>u=rj b
 | .int i,u=> ∃t,u=sv i t
 | .str x,u=> ∃t,u=AE x t
 | .byt b,u=> ∃t,u=jt.bytes b t
 | .flt b,u=> ∃t,u=jt.float b t
 | .ref a,u=>u=jx a
 | .ty n,u=>u=oj n
noncomputable abbrev Vals:List V->List jt->Prop:=Paired RelV
theorem Vals.length (r:Vals xs us):xs.length=us.length:=Paired.length r
theorem Vals.get:∀{xs:List V}{us:List jt}{i:Nat}{x:V},Vals xs us->xs[i]?=some x->∃u,us[i]?=some u/\RelV x u
 |_,_,_,_,.nil,e=>by simp at e
 |_,_,0,_,.cons r _,e=>by simp at e;subst e;exact⟨_,rfl,r⟩
 |_,_,i+1,x,.cons _ t,e=>by
  obtain⟨u,h1,h2⟩:=Vals.get (i:=i) (x:=x) t (by simpa using e);exact⟨u,by simpa using h1,h2⟩
theorem Vals.set (r:RelV x u):∀{xs:List V}{us:List jt}(i:Nat),Vals xs us->Vals (xs.set i x) (us.set i u)
 |_,_,_,.nil=> .nil
 |_,_,0,.cons _ t=> .cons r t
 |_,_,i+1,.cons q t=> .cons q (Vals.set r i t)
theorem Vals.append:∀{xs ys:List V}{us ws:List jt},Vals xs us->Vals ys ws->Vals (xs++ys) (us++ws)
 |_,_,_,_,.nil,s=>s
 |_,_,_,_,.cons r t,s=> .cons r (Vals.append t s)
theorem Vals.take:∀{xs:List V}{us:List jt}(n:Nat),Vals xs us->Vals (xs.take n) (us.take n)
 |_,_,0,_=> .nil
 |_,_,_+1,.nil=> .nil
 |_,_,n+1,.cons r t=> .cons r (Vals.take n t)
theorem Vals.drop:∀{xs:List V}{us:List jt}(n:Nat),Vals xs us->Vals (xs.drop n) (us.drop n)
 |_,_,0,r=>r
 |_,_,_+1,.nil=> .nil
 |_,_,n+1,.cons _ t=>Vals.drop n t
theorem Vals.none_of:∀{xs:List V}{us:List jt}{i:Nat},Vals xs us->xs[i]?=none->us[i]?=none:=fun{xs us i} r e=>by
 have h1:=r.length;have h2:xs.length<=i:=Ag.mp e;exact Ag.mpr (by omega)
noncomputable def RelO:Option V->Option jt->Prop
 |some v,some u=>RelV v u
 |none,none=>True
 |_,_=>False
noncomputable def KV {κ:Type}:List (κ×V)->List (κ×jt)->Prop:=Paired λ(p:κ×V) (q:κ×jt)=>p.1=q.1/\RelV p.2 q.2
noncomputable def kV:Key->V
 | .inl i=> .int i
 | .inr x=> .str x
inductive HO where
  |lst (xs:List V)
  |tup (xs:List V)
  |dK (kvs:List (Key×V))|dT (kvs:List (List Key×V))
  |set (S:Int->Bool) (n:Nat)
  |ins (C dx:ju) (fs:List (Str×V))
  |own (x:ju)
  |xd (fs:List (Str×V))
  |met (f x:ju)
  |rng (lo hi:Int)
  |frz (o:Obj) (u:HO)
  |tbl (ps:Array jt)
  |ext (φ:kj->Prop)
noncomputable abbrev Hp:=ju->Option HO
noncomputable def upd (H:Hp)(a:ju)(o:HO):Hp:=λb=>if b=a then some o else H b
theorem aG:upd H a o a=some o:=by unfold upd;rw[if_pos rfl]
theorem aN (h:b≠a):upd H a o b=H b:=by unfold upd;rw[if_neg h]
theorem uL {H:Hp}{a b:ju}{o u:HO}(h:H a=some o)(h':H b=some u)(d:o≠u):a≠b:=by intro e;subst e;rw[h]at h';exact d (j7 h')
theorem bG {H:Hp}{a b:ju}{o:HO}(h:H a=some o)(h':H b=none):a≠b:=by intro e;subst e;rw[h]at h';cases h'
section
variable (P:j9)(w:kl)
noncomputable def ObjOk (H:Hp)(h:kj)(a:ju):HO->Prop
 | .lst xs=>xs.length<=jv/\∃(lu:List jt)(n:Nat),Vals xs lu/\h.get? a=some {cls:=.type "list",data:=.seq lu.toArray n}
 | .tup xs=>xs.length<=jv/\∃lu:List jt,Vals xs lu/\BE h a lu.toArray
 | .dK kvs=>kvs.length<=jv/\(a==n4)=false/\∃vs,KV kvs vs/\h.DictOf (cH P w) a vs
 | .dT kvs=>kvs.length<=jv/\(a==n4)=false/\∃xs:List (List Key×ju×jt),
   Paired (λ(p:List Key×V) (q:List Key×ju×jt)=>p.1=q.1/\H q.2.1=some (.tup (p.1.map kV))/\RelV p.2 q.2.2) kvs xs/\
   ∃o es ep,h.get? a=some o/\o.ExactDict/\o.data= .dict es ep/\es.toList=xs.map (B7 (qd (cH P w)))/\(xs.map (·.1)).Nodup
 | .set S n=>h.SetOf (uv P w) a S n
 | .ins C dx fs=>H dx=some (.own a)/\fs.length<=1000/\dx≠a/\h.get? a=some (W.instObj C dx)/\
   ∃mA,h.Ns1 dx mA/\(∀f,RelO (fs.lookup f) (mA f))/\PySem.Within mA (fs.map (·.1))
 | .own _=> ∃o,h.get? a=some o
 | .xd fs=> ∃mA,h.Ns1 a mA/\∀f,RelO (fs.lookup f) (mA f)
 | .rng lo hi=> ∃t u v,h.get? a=some {cls:=.type "range",data:=.fields #[.int lo t,.int hi u,.int 1 v]}
 | .frz o u=>h.get? a=some o/\ObjOk H h a u
 | .tbl ps=>h.get? a=some {cls:=.none,data:=.fields ps}
 | .met f x=>h.get? a=some (W.methodObj (.ref f) (.ref x))
 | .ext φ=>φ h/\(∃o,h.get? a=some o)/\∀h1 h2:kj,φ h1->(∀o,h1.get? a=some o->h2.get? a=some o)->φ h2
noncomputable def CU (H:Hp)(h:kj):Prop:=∀a o,H a=some o->ObjOk P w H h a o
end
section
variable {P:j9}{w:kl}{H H':Hp}{h h':kj}{a:ju}{o:HO}
theorem ObjOk.lt (x:ObjOk P w H h a o):a<h.objs.size:=by
 cases o with
 |lst xs=>obtain⟨_,_,_,_,e⟩:=x;exact CO e
 |tup xs=>obtain⟨_,_,_,p⟩:=x;exact p.lt
 |dK kvs=>obtain⟨_,_,_,_,o,_,_,e,_⟩:=x;exact CO e
 |dT kvs=>obtain⟨_,_,_,_,o,_,_,e,_⟩:=x;exact CO e
 |set S n=>obtain⟨o,_,_,_,e,_⟩:=x;exact CO e
 |ins C dx fs=>obtain⟨_,_,_,e,_⟩:=x;exact CO e
 |own y=>obtain⟨_,e⟩:=x;exact CO e
 |xd fs=>obtain⟨_,⟨_,_,_,e,_⟩,_⟩:=x;exact CO e
 |rng lo hi=>obtain⟨_,_,_,e⟩:=x;exact CO e
 |frz ob u=>obtain⟨e,_⟩:=x;exact CO e
 |tbl ps=>exact CO (show h.get? a=some _ from x)
 |met f y=>exact CO (show h.get? a=some _ from x)
 |ext φ=>obtain⟨_,⟨_,e⟩,_⟩:=x;exact CO e
theorem Paired.mapP:∀{l₁:List α}{l₂:List β},Paired F l₁ l₂->(∀a b,F a b->G a b)->Paired G l₁ l₂
 |_,_,.nil,_=> .nil
 |_,_,.cons r t,f=> .cons (f _ _ r) (Paired.mapP t f)
theorem ObjOk.stay (x:ObjOk P w H h a o)(k:∀b u,(b=a\/H b=some (.own a))->h.get? b=some u->h'.get? b=some u)
  (ho:∀b,H b=some (.own a)->H' b=some (.own a))(ht:∀b xs,H b=some (.tup xs)->H' b=some (.tup xs)):ObjOk P w H' h' a o:=by
 induction o with
 |lst xs=>obtain⟨z,lu,n,r,e⟩:=x;exact⟨z,lu,n,r,k _ _ (.inl rfl) e⟩
 |tup xs=>obtain⟨z,lu,r,ob,e,c⟩:=x;exact⟨z,lu,r,ob,k _ _ (.inl rfl) e,c⟩
 |dK kvs=>obtain⟨z,y,vs,r,ob,es,ep,e,c⟩:=x;exact⟨z,y,vs,r,ob,es,ep,k _ _ (.inl rfl) e,c⟩
 |dT kvs=>
  obtain⟨z,y,xs,r,ob,es,ep,e,c⟩:=x;exact⟨z,y,xs,Paired.mapP r λp q z=> ⟨z.1,ht _ _ z.2.1,z.2.2⟩,ob,es,ep,k _ _ (.inl rfl) e,c⟩
 |set S n=>obtain⟨ob,es,ep,t,e,c⟩:=x;exact⟨ob,es,ep,t,k _ _ (.inl rfl) e,c⟩
 |ins C dx fs=>
  obtain⟨d,z,ne,e,mA,⟨od,es,ep,e2,c⟩,r⟩:=x;exact⟨ho _ d,z,ne,k _ _ (.inl rfl) e,mA,⟨od,es,ep,k _ _ (.inr d) e2,c⟩,r⟩
 |own y=>obtain⟨ob,e⟩:=x;exact⟨ob,k _ _ (.inl rfl) e⟩
 |xd fs=>obtain⟨mA,⟨od,es,ep,e,c⟩,r⟩:=x;exact⟨mA,⟨od,es,ep,k _ _ (.inl rfl) e,c⟩,r⟩
 |rng lo hi=>obtain⟨t,u,v,e⟩:=x;exact⟨t,u,v,k _ _ (.inl rfl) e⟩
 |frz ob u ih=>obtain⟨e,q⟩:=x;exact⟨k _ _ (.inl rfl) e,ih q⟩
 |tbl ps=>
  have e:h.get? a=some {cls:=.none,data:=.fields ps}:=x;show h'.get? a=some {cls:=.none,data:=.fields ps};exact k a _ (.inl rfl) e
 |met f y=>
  have e:h.get? a=some (W.methodObj (.ref f) (.ref y)):=x;show h'.get? a=some (W.methodObj (.ref f) (.ref y));exact k a _ (.inl rfl) e
 |ext φ=>obtain⟨p,⟨o,e⟩,st⟩:=x;exact⟨st _ _ p λo q=>k _ _ (.inl rfl) q,⟨o,k _ _ (.inl rfl) e⟩,st⟩
theorem CU.lt (x:CU P w H h)(e:H a=some o):a<h.objs.size:=(x a o e).lt
theorem CU.fresh (x:CU P w H h)(e:h.objs.size<=a):H a=none:=by
 cases q:H a with
 |none=>rfl
 |some u=>exact absurd (jf (x.lt q) e) (je _)
theorem CU.kept (x:CU P w H h)(k:∀b u,h.get? b=some u->h'.get? b=some u):CU P w H h':=λa o e=>
 (x a o e).stay (λb u _ q=>k b u q) (λ_ q=>q) λ_ _ q=>q
theorem CU.laid (x:CU P w H h)(k:∀b u,h.get? b=some u->h'.get? b=some u)(hp:h.objs.size<=a)(new:ObjOk P w (upd H a o) h' a o):CU P w (upd H a o) h':=λb u e=>by
 have hn:=x.fresh hp;by_cases hb:b=a
 ·subst hb;rw[aG]at e;cases e;exact new
 ·rw[aN hb]at e;exact(x b u e).stay (λc v _ q=>k c v q) (λc q=>by rw[aN (bG q hn)];exact q) λc xs q=>by rw[aN (bG q hn)];exact q
end
noncomputable def Rd (H:Hp)(a:ju)(u:HO):Prop:=H a=some u\/ ∃o,H a=some (.frz o u)
theorem Rd.ok (r:Rd H a u)(x:CU P w H h):ObjOk P w H h a u:=by
 rcases r with r| ⟨o,r⟩
 ·exact x a u r
 ·obtain⟨_,q⟩:=x a _ r;exact q
noncomputable def Mut:Option HO->Prop
 |some (.lst _)=>True
 |some (.dK _)=>True
 |some (.dT _)=>True
 |some (.set _ _)=>True
 |some (.ins _ _ _)=>True
 |some (.ext _)=>True
 |_=>False
theorem CU.write (ok:CU P w H h)(mu:Mut (H x))(he:e=x\/H e=some (.own x))(k:∀b u,b≠e->h.get? b=some u->h'.get? b=some u)(heo:∃u,h'.get? e=some u)
  (new:ObjOk P w (upd H x o') h' x o'):CU P w (upd H x o') h':=λb u q=>by
 have nown:∀c y,H c=some (.own y)->c≠x:=λc y r z=>by subst z;rw[r]at mu;exact mu
 have ntup:∀c xs,H c=some (.tup xs)->c≠x:=λc xs r z=>by subst z;rw[r]at mu;exact mu
 by_cases hb:b=x
 ·subst hb;rw[aG]at q;cases q;exact new
 ·rw[aN hb]at q;by_cases hbe:b=e
  ·have q':H b=some (.own x):=by
    rcases he with z|z
    ·exact absurd (hbe.trans z) hb
    ·rw[hbe];exact z
   rw[q]at q';cases q';obtain⟨v,hv⟩:=heo;exact⟨v,by rw[hbe];exact hv⟩
  ·refine(ok b u q).stay (λc v hc r=>k c v ?_ r) (λc r=>by rw[aN (nown c b r)];exact r) λc xs r=>by rw[aN (ntup c xs r)];exact r
   rcases hc with rfl|hc
   ·exact hbe
   ·rintro rfl;rcases he with z|z
    ·exact nown c b hc z
    ·rw[hc]at z;cases z;exact hb rfl
structure Un (fs ex:List ju)(H H':Hp)(h h':kj):Prop where
 keep:∀b o,h.get? b=some o->H b=none->b∉fs->b∉ex->h'.get? b=some o
 slot:∀b o,h.get? b=some o->H b=none->b∈fs->b∉ex->∃sl,h'.get? b=some {o with slots:=sl}
 free:∀b o,h.get? b=some o->H b=none->b∉ex->H' b=none
 there:∀b o,h.get? b=some o->b∉ex->∃o',h'.get? b=some o'
 tups:∀b xs,H b=some (.tup xs)->H' b=some (.tup xs)
 frzs:∀b o u,H b=some (.frz o u)->H' b=some (.frz o u)
 tbls:∀b ps,H b=some (.tbl ps)->∃more,H' b=some (.tbl (ps++more))
section
variable {fs fs' ex ex':List ju}{H H1 H2:Hp}{h h1 h2 h':kj}{a x e:ju}{o:HO}
theorem Un.any (u:Un fs ex H H1 h h1)(q:h.get? b=some ob)(n:H b=none)(hx:b∉ex):∃sl,h1.get? b=some {ob with slots:=sl}:=by
 by_cases hb:b∈fs
 ·exact u.slot b ob q n hb hx
 ·exact⟨ob.slots,u.keep b ob q n hb hx⟩
theorem Un.kept (k:∀b u,h.get? b=some u->h'.get? b=some u):Un fs ex H H h h':=
 ⟨λb ob q _ _ _=>k b ob q,λb ob q _ _ _=> ⟨ob.slots,k b ob q⟩,λ_ _ _ n _=>n,λb ob q _=> ⟨ob,k b ob q⟩,λ_ _ q=>q,λ_ _ _ q=>q,λ_ ps q=> ⟨#[],by rw[q];simp⟩⟩
theorem Un.refl:Un fs ex H H h h:=Un.kept λ_ _ q=>q
theorem Un.laid (k:∀b u,h.get? b=some u->h'.get? b=some u)(hp:h.objs.size<=a)(hn:H a=none):Un fs ex H (upd H a o) h h' where
 keep:=λb u q _ _ _=>k b u q
 slot:=λb u q _ _ _=> ⟨u.slots,k b u q⟩
 free:=λb u q n _=>by rw[aN (jo (jf (CO q) hp))];exact n
 there:=λb u q _=> ⟨u,k b u q⟩
 tups:=λb xs q=>by rw[aN (bG q hn)];exact q
 frzs:=λb u xs q=>by rw[aN (bG q hn)];exact q
 tbls:=λb ps q=> ⟨#[],by rw[aN (bG q hn),q];simp⟩
theorem Un.write (mu:Mut (H x))(he:e=x\/H e=some (.own x))(k:∀b u,b≠e->h.get? b=some u->h'.get? b=some u)(heo:∃u,h'.get? e=some u):Un fs ex H (upd H x o) h h':=by
 have hx:∀b,H b=none->b≠x:=λb n z=>by subst z;rw[n]at mu;exact mu
 have hb:∀b,H b=none->b≠e:=λb n z=>by
  subst z;rcases he with r|r
  ·exact hx b n r
  ·rw[n]at r;cases r
 have hm:∀b u,H b=some u->¬Mut (some u)->b≠x:=λb u q nm z=>by subst z;rw[q]at mu;exact nm mu
 refine⟨λb u q n _ _=>k b u (hb b n) q,λb u q n _ _=> ⟨u.slots,k b u (hb b n) q⟩,λb u q n _=>by rw[aN (hx b n)];exact n,λb u q _=> ?_,
  λb xs q=>by rw[aN (hm b _ q λz=>z)];exact q,λb u xs q=>by rw[aN (hm b _ q λz=>z)];exact q,λb ps q=> ⟨#[],by rw[aN (hm b _ q λz=>z),q];simp⟩⟩
 by_cases hbe:b=e
 ·subst hbe;exact heo
 ·exact⟨u,k b u hbe q⟩
end
noncomputable def trk (h:kj)(H:Hp):List ju:=(kz h.objs.size).filter λa=>(H a).isSome
noncomputable def gQ (h:kj)(H:Hp):kj:=W.hideAll h (trk h H)
theorem B5p (h:kj)(H:Hp):(gQ h H).objs.size=h.objs.size:=W.hideAll_size _ _
theorem B4t (e:h.get? b=some o)(n:H b=none):(gQ h H).get? b=some o:=
 W.hideAll_get _ e λhm=>by
  have q:(H b).isSome=true:=(ff.mp hm).2;rw[n]at q;simp at q
theorem A96 (e:(gQ h H).get? b=some o):h.get? b=some o/\H b=none:=by
 have e':h.get? b=some o:=W.of_hideAll (trk h H) e;refine⟨e',?_⟩;cases q:H b with
 |none=>rfl
 |some x=>
  have hm:b∈trk h H:=ff.mpr ⟨fw.mpr (CO e'),by simp[q]⟩;have z:(gQ h H).get? b=none:=W.hideAll_none (trk h H) hm;rw[z]at e;cases e
noncomputable def B3p (g h:kj)(L:ju):List (ju×Obj):=(kz h.objs.size).filterMap λa=>if a=L\/(g.get? a).isSome=true then none else(h.get? a).map λo=>(a,o)
noncomputable def rest (g h:kj)(L d:ju):List (ju×Obj):=(B3p g h L).filter λp=>decide (p.1≠d)
structure Mod (K:W.Frag)(mg:Str->Option jt)(base:kj):Prop where
 kin:K.In base
 glob:base.Ns kf mg
 blt:∃mb,base.Ns builtinsNs mb/\∀x:Str,x≠ "__name__"->mb x=qu x
 nolimit:base.NoLimit
structure Cx where
 prog:j9
 w:kl
 K:W.Frag
 mg:Str->Option jt
 base:kj
 A:mh
 N:List Str
 s₀:jw
 H₀:Hp
 env:Env
 outer:List Env
 stack:List Env
 ex:List ju
 fn:Str->Bool
 calm:Bool
 pn:List (ju×Obj)
 xe:jt->jw->Prop
noncomputable def frs (l:List Env):List ju:=l.filterMap (·.frame)
noncomputable abbrev Cx.fs (X:Cx):List ju:=frs X.outer
noncomputable def Vis (sc:yk)(x:Str):Prop:=sc.names.lookup x=some .local\/sc.names.lookup x=some .cell\/sc.names.lookup x=some .free
noncomputable def Loc (sc:yk)(x:Str):Prop:=sc.names.lookup x=some .local\/sc.names.lookup x=some .cell
noncomputable def B5u (env:Env)(h:kj)(m:Str->Option jt)(x:Str)(u:jt):Prop:=
 (env.kindOf x=some .local/\m x=some u)\/((env.kindOf x=some .cell\/env.kindOf x=some .free)/\∃c,env.cells.lookup x=some c/\h.IsCell c (some u))
structure Cx.Ok (X:Cx):Prop where
 mod:Mod X.K X.mg X.base
 kind:X.env.scope.kind= .function
 glob:X.env.globals=kf
 blt:X.env.builtins=builtinsNs
 above:X.s₀.heap.objs.size<=X.env.locals
 inj:∀x y c,X.env.cells.lookup x=some c->X.env.cells.lookup y=some c->x=y
 has:∀x,(X.env.kindOf x=some .cell\/X.env.kindOf x=some .free)->∃c,X.env.cells.lookup x=some c
 cab:∀x c,X.fn x=true->X.env.cells.lookup x=some c->X.s₀.heap.objs.size<=c
 hd:X.calm=true->X.A.handled=none
 frames:X.A.frames=some X.stack
 stk:X.stack=X.outer\/(X.stack=X.env::X.outer/\X.env.frame=some X.env.locals)
 exf:∀b∈X.ex,b≠X.env.locals/\∀x c,X.env.cells.lookup x=some c->c≠b
 bs:∀b o,X.base.get? b=some o->X.s₀.heap.get? b=some o/\X.H₀ b=none
 bsz:X.base.objs.size<=X.s₀.heap.objs.size
 noex:∀b o,X.base.get? b=some o->b∉X.ex
 exfs:∀b∈X.ex,b∉X.fs
 funs:X.s₀.heap.FunFrames X.base X.outer
 frf:∀b∈X.fs,X.H₀ b=none
structure Inv (X:Cx)(kb:List (ju×Obj))(σ:List (Option V))(H:Hp)(s:jw):Prop where
 ok:X.Ok
 os:s.os=X.s₀.os
 bare:Aj s.gens
 base:Un X.fs X.ex X.H₀ H X.s₀.heap s.heap
 loc:∃m,s.heap.Ns X.env.locals m/\∀(i:Nat)(x:Str)(v:V),X.N[i]?=some x->σ[i]?=some (some v)->Vis X.env.scope x->∃u,RelV v u/\B5u X.env s.heap m x u
 cell:∀x c,X.env.cells.lookup x=some c->∃v,s.heap.IsCell c v
 free:H X.env.locals=none
 freeC:∀x c,X.env.cells.lookup x=some c->H c=none
 pin:∀p∈X.pn++kb,s.heap.get? p.1=some p.2/\H p.1=none/\p.1≠X.env.locals/\p.1∉X.fs/\∀v,p.2.data≠ .cell v
 hok:CU X.prog X.w H s.heap
 len:σ.length=X.N.length
section
variable {X:Cx}{kb:List (ju×Obj)}{σ:List (Option V)}{H H':Hp}{s:jw}{h':kj}
theorem Cx.Ok.nofr (ok:X.Ok){b:ju}{o:Obj}(e:X.base.get? b=some o):b∉X.fs:=λhb=>by
 have:=(ok.funs.mem hb).1;rw[e]at this;cases this
theorem Inv.bs (I:Inv X kb σ H s):∀b o,X.base.get? b=some o->s.heap.get? b=some o/\H b=none:=λb o e=>
 ⟨I.base.keep b o (I.ok.bs b o e).1 (I.ok.bs b o e).2 (I.ok.nofr e) (I.ok.noex b o e),I.base.free b o (I.ok.bs b o e).1 (I.ok.bs b o e).2 (I.ok.noex b o e)⟩
theorem Inv.bk (I:Inv X kb σ H s):∀b o,X.base.get? b=some o->s.heap.get? b=some o:=λb o e=>(I.bs b o e).1
theorem Inv.mod (I:Inv X kb σ H s):Mod X.K X.mg X.base:=I.ok.mod
theorem Inv.kIn (I:Inv X kb σ H s):X.K.In s.heap:=I.ok.mod.kin.keeps I.bk
theorem Inv.lt (I:Inv X kb σ H s):X.env.locals<s.heap.objs.size:=let ⟨_,hn,_⟩:=I.loc;hn.lt
theorem Inv.sz (I:Inv X kb σ H s):X.s₀.heap.objs.size<=s.heap.objs.size:=jd I.ok.above (jb I.lt)
theorem Inv.nofs (I:Inv X kb σ H s)(h:s.heap.objs.size<=a):a∉X.fs:=λhb=>by
 obtain⟨_,o,ho,_⟩:=I.ok.funs.mem hb;exact absurd (jf (CO ho) (jd I.sz h)) (je _)
theorem Inv.cne (I:Inv X kb σ H s):∀x c,X.env.cells.lookup x=some c->c≠X.env.locals:=λx c e z=>by
 obtain⟨v,o,ho,hd⟩:=I.cell x c e;obtain⟨m,⟨o',es,ep,ho',hd',_⟩,_⟩:=I.loc;rw[z,ho']at ho;cases ho;rw[hd']at hd;cases hd
theorem Inv.funs (I:Inv X kb σ H s):s.heap.FunFrames X.base X.outer:=by
 have all:∀(l:List Env),(∀b∈frs l,b∈X.fs)->X.s₀.heap.FunFrames X.base l->s.heap.FunFrames X.base l:=by
  intro l
  induction l with
  |nil=>intro _ _;trivial
  |cons env r ih=>
   intro hs hl;obtain⟨hk,⟨L,o,hf,hn,ho,hd⟩,hr⟩:=hl;have hL:L∈X.fs:=hs L (by unfold frs;rw[bb,hf];exact CQ);obtain⟨sl,e⟩:=I.base.slot L o ho (I.ok.frf L hL) hL λz=>I.ok.exfs L z hL;exact⟨hk,⟨L,_,hf,hn,e,hd⟩,ih (λb hb=>hs b (by unfold frs;rw[bb,hf];exact CP _ hb)) hr⟩
 exact all X.outer (λ_ hb=>hb) I.ok.funs
theorem Inv.stack (I:Inv X kb σ H s):s.heap.FunFrames X.base X.stack:=by
 rcases I.ok.stk with e| ⟨e,hf⟩
 ·rw[e];exact I.funs
 ·rw[e];obtain⟨m,hn,_⟩:=I.loc;refine .cons (by rw[I.ok.kind];decide) hf hn ?_ I.funs;exact kj.get?_none_of_le (jd I.ok.bsz I.ok.above)
theorem Inv.stkSub (I:Inv X kb σ H s):∀b∈frs X.stack,b∈X.env.locals::X.fs:=λb hb=>by
 rcases I.ok.stk with e| ⟨e,hf⟩
 ·rw[e]at hb;exact CP _ hb
 ·rw[e]at hb;unfold frs at hb;rw[bb,hf]at hb;exact hb
theorem Inv.stkFree (I:Inv X kb σ H s):∀b∈frs X.stack,H b=none:=λb hb=>by
 rcases fe.mp (I.stkSub b hb)with e|hb
 ·rw[e];exact I.free
 ·obtain⟨_,o,ho,_⟩:=I.ok.funs.mem hb;exact I.base.free b o ho (I.ok.frf b hb) λz=>I.ok.exfs b z hb
theorem Inv.step {g':Array GenState}{t':Nat}{d':Drawn}{ch:List ju}(I:Inv X kb σ H s)
  (hch:∀b∈ch,(b∈X.ex\/X.s₀.heap.objs.size<=b)/\b≠X.env.locals/\(∀x c,X.env.cells.lookup x=some c->c≠b)/\∀p∈X.pn++kb,p.1≠b)
  (keep:∀b o,b≠X.env.locals->b∉X.fs->b∉ch->s.heap.get? b=some o->H b=none->h'.get? b=some o)
  (slot:∀b o,b≠X.env.locals->b∈X.fs->b∉ch->s.heap.get? b=some o->H b=none->∃sl,h'.get? b=some {o with slots:=sl})(free:∀b o,b∉ch->s.heap.get? b=some o->H b=none->H' b=none)
  (there:∀b o,b∉ch->s.heap.get? b=some o->∃o',h'.get? b=some o')
  (tups:∀b xs,H b=some (.tup xs)->H' b=some (.tup xs))(frzs:∀b o u,H b=some (.frz o u)->H' b=some (.frz o u))(tbls:∀b ps,H b=some (.tbl ps)->∃more,H' b=some (.tbl (ps++more)))
  (ns:∀m,s.heap.Ns X.env.locals m->h'.Ns X.env.locals m)(hok:CU X.prog X.w H' h')(hg:Aj g'):
  Inv X kb σ H' {s with heap:=h',gens:=g',drawn:=d',toks:=t'}:=by
 have neL:∀b o,X.s₀.heap.get? b=some o->b≠X.env.locals:=λb o e=>jo (jf (CO e) I.ok.above);have neC:∀b o,X.s₀.heap.get? b=some o->b∉X.ex->b∉ch:=λb o e hx hb=>by
  rcases(hch b hb).1 with z|z
  ·exact hx z
  ·exact absurd (jf (CO e) z) (je _)
 have cellK:∀x c,X.env.cells.lookup x=some c->∀v,s.heap.IsCell c v->h'.IsCell c v:=λx c e v ⟨o,ho,hd⟩=>by
  have nch:c∉ch:=λz=>(hch c z).2.2.1 x c e rfl;by_cases hc:c∈X.fs
  ·obtain⟨sl,q⟩:=slot c o (I.cne x c e) hc nch ho (I.freeC x c e);exact⟨_,q,hd⟩
  ·exact⟨o,keep c o (I.cne x c e) hc nch ho (I.freeC x c e),hd⟩
 refine⟨I.ok,I.os,hg,⟨λb o e n hb hx=> ?_,λb o e n hb hx=> ?_,λb o e n hx=> ?_,λb o e hx=> ?_,λb xs e=>tups b xs (I.base.tups b xs e),λb o xs e=>frzs b o xs (I.base.frzs b o xs e),λb ps e=> ?_⟩,?_,λx c e=> ?_,?_,λx c e=> ?_,λp hp=> ?_,hok,I.len⟩
 ·exact keep b o (neL b o e) hb (neC b o e hx) (I.base.keep b o e n hb hx) (I.base.free b o e n hx)
 ·obtain⟨sl,e1⟩:=I.base.slot b o e n hb hx;obtain⟨sl',e2⟩:=slot b _ (neL b o e) hb (neC b o e hx) e1 (I.base.free b o e n hx);exact⟨sl',e2⟩
 ·obtain⟨o',e1⟩:=I.base.there b o e hx;exact free b o' (neC b o e hx) e1 (I.base.free b o e n hx)
 ·obtain⟨o',e1⟩:=I.base.there b o e hx;exact there b o' (neC b o e hx) e1
 ·obtain⟨m1,e1⟩:=I.base.tbls b ps e;obtain⟨m2,e2⟩:=tbls b _ e1;exact⟨m1++m2,by rw[e2,Array.append_assoc]⟩
 ·obtain⟨m,hn,hl⟩:=I.loc;refine⟨m,ns m hn,λi x v e1 e2 e3=> ?_⟩;obtain⟨u,r,l⟩:=hl i x v e1 e2 e3;refine⟨u,r,?_⟩;rcases l with l| ⟨k,c,e,z⟩
  ·exact .inl l
  ·exact .inr ⟨k,c,e,cellK x c e _ z⟩
 ·obtain⟨v,z⟩:=I.cell x c e;exact⟨v,cellK x c e v z⟩
 ·obtain⟨m,⟨o,_,_,ho,_⟩,_⟩:=I.loc;exact free _ o (λz=>(hch _ z).2.1 rfl) ho I.free
 ·obtain⟨v,o,ho,hd⟩:=I.cell x c e;exact free c o (λz=>(hch c z).2.2.1 x c e rfl) ho (I.freeC x c e)
 ·obtain⟨e,n,ne,nf,d⟩:=I.pin p hp;have nch:p.1∉ch:=λz=>(hch p.1 z).2.2.2 p hp rfl;exact⟨keep p.1 p.2 ne nf nch e n,free p.1 p.2 nch e n,ne,nf,d⟩
theorem Inv.un {t':Nat}(I:Inv X kb σ H s)(u:Un X.fs [] H H' s.heap h')(hok:CU X.prog X.w H' h'):Inv X kb σ H' {s with heap:=h',toks:=t'}:=by
 obtain⟨m,⟨o,es,ep,ho,r⟩,_⟩:=id I.loc;obtain⟨sl,hL⟩:=u.any ho I.free (by simp);exact I.step (g':=s.gens) (d':=s.drawn) (ch:=[]) (λ_ z=>nomatch z) (λb o _ hb _ e n=>u.keep b o e n hb (by simp)) (λb o _ hb _ e n=>u.slot b o e n hb (by simp)) (λb o _ e n=>u.free b o e n (by simp)) (λb o _ e=>u.there b o e (by simp)) u.tups u.frzs u.tbls (λm' hm=>by
  obtain⟨o',es',ep',ho',r'⟩:=hm;rw[ho]at ho';cases ho';exact⟨_,es',ep',hL,r'⟩) hok I.bare
theorem Inv.call {g':Array GenState}{t':Nat}{d':Drawn}{ch:List ju}(I:Inv X kb σ H s)(u:Un (frs X.stack) ch H H' s.heap h')(hok:CU X.prog X.w H' h')(hg:Aj g')
  (hch:∀b∈ch,(b∈X.ex\/X.s₀.heap.objs.size<=b)/\b≠X.env.locals/\(∀x c,X.env.cells.lookup x=some c->c≠b)/\∀p∈X.pn++kb,p.1≠b):
  Inv X kb σ H' {s with heap:=h',gens:=g',drawn:=d',toks:=t'}:=by
 obtain⟨m,⟨o,es,ep,ho,r⟩,_⟩:=id I.loc;obtain⟨sl,hL⟩:=u.any ho I.free λz=>(hch _ z).2.1 rfl;exact I.step (ch:=ch) hch (λb o hL hb hc e n=>u.keep b o e n (λz=>(fe.mp (I.stkSub b z)).elim hL hb) hc) (λb o _ _ hc e n=>u.any e n hc) (λb o hc e n=>u.free b o e n hc) (λb o hc e=>u.there b o e hc) u.tups u.frzs u.tbls (λm' hm=>by
  obtain⟨o',es',ep',ho',r'⟩:=hm;rw[ho]at ho';cases ho';exact⟨_,es',ep',hL,r'⟩) hok hg
theorem Inv.turned {t':Nat}{it:ju}(I:Inv X kb σ H s)(k:∀b o,b≠it->s.heap.get? b=some o->h'.get? b=some o)(hn:H it=none)(hL:it≠X.env.locals)
  (h1:it∈X.ex\/X.s₀.heap.objs.size<=it)(h2:∀x c,X.env.cells.lookup x=some c->c≠it)(h3:∀p∈X.pn++kb,p.1≠it):Inv X kb σ H {s with heap:=h',toks:=t'}:=by
 have nit:∀b u,H b=some u->b≠it:=λb u e z=>by rw[z,hn]at e;cases e
 refine I.step (g':=s.gens) (d':=s.drawn) (ch:=[it]) (λb hb=> ?_) (λb o _ _ hc e _=>k b o (λz=>hc (by simp[z])) e) (λb o _ _ hc e _=> ⟨o.slots,k b o (λz=>hc (by simp[z])) e⟩) (λ_ _ _ _ n=>n)
  (λb o hc e=> ⟨o,k b o (λz=>hc (by simp[z])) e⟩) (λ_ _ e=>e) (λ_ _ _ e=>e) (λb ps e=> ⟨#[],by rw[e];simp⟩) (λm hm=> ?_) (λb u e=> ?_) I.bare
 ·have e:b=it:=by simpa using hb
  subst e;exact⟨h1,hL,h2,h3⟩
 ·obtain⟨o,es,ep,ho,r⟩:=hm;exact⟨o,es,ep,k _ o (Ne.symm hL) ho,r⟩
 ·refine(I.hok b u e).stay (λc v hc q=>k c v ?_ q) (λ_ q=>q) λ_ _ q=>q;rcases hc with z|z
  ·rw[z];exact nit b u e
  ·exact nit c _ z
theorem Inv.tok (I:Inv X kb σ H s)(t:Nat):Inv X kb σ H {s with toks:=t}:=I.un (h':=s.heap) (t':=t) Un.refl I.hok
theorem Inv.kept (I:Inv X kb σ H s)(k:∀b u,s.heap.get? b=some u->h'.get? b=some u):Inv X kb σ H {s with heap:=h',toks:=t'}:=I.un (Un.kept k) (I.hok.kept k)
theorem Inv.laid (I:Inv X kb σ H s)(k:∀b u,s.heap.get? b=some u->h'.get? b=some u)(hp:s.heap.objs.size<=a)(new:ObjOk X.prog X.w (upd H a o) h' a o):
  Inv X kb σ (upd H a o) {s with heap:=h',toks:=t'}:=I.un (Un.laid k hp (I.hok.fresh hp)) (I.hok.laid k hp new)
theorem Inv.write (I:Inv X kb σ H s)(mu:Mut (H x))(he:e=x\/H e=some (.own x))(k:∀b u,b≠e->s.heap.get? b=some u->h'.get? b=some u)(heo:∃u,h'.get? e=some u)
  (new:ObjOk X.prog X.w (upd H x o) h' x o):Inv X kb σ (upd H x o) {s with heap:=h',toks:=t'}:=I.un (Un.write mu he k heo) (I.hok.write mu he k heo new)
theorem Inv.pins_of (I:Inv X kb σ H s)(h:∀p∈pins',s.heap.get? p.1=some p.2/\H p.1=none/\p.1≠X.env.locals/\p.1∉X.fs/\∀v,p.2.data≠ .cell v):Inv X pins' σ H s:=
 ⟨I.ok,I.os,I.bare,I.base,I.loc,I.cell,I.free,I.freeC,λp hp=>(d8.mp hp).elim (λz=>I.pin p (d9 _ z)) (h p),I.hok,I.len⟩
theorem A2j {N:List Str}(hN:N.Nodup){i j:Nat}{x:Str}(a:N[i]?=some x)(b:N[j]?=some x):i=j:=by obtain⟨h1,e1⟩:=CL.mp a;obtain⟨h2,e2⟩:=CL.mp b;exact(List.getElem_inj hN).mp (e1.trans e2.symm)
theorem xC {M:Model}{A:mh}{E:jt->jw->Prop}{i:Nat}{x:Str}{v:V}{u:jt}{Q:Unit->jw->Prop}(I:Inv X kb σ H s)(hN:X.N.Nodup)(hi:X.N[i]?=some x)(hx:Loc X.env.scope x)(r:RelV v u)
  (h:∀s',Inv X kb (σ.set i (some v)) H s'->(∃a,my a s.heap s'.heap/\(a=X.env.locals\/X.env.cells.lookup x=some a))->Q () s')(hf:X.fn x=true\/X.env.scope.names.lookup x=some .local:=by first|exact .inl rfl|exact .inr rfl|assumption):jy M A (storeName X.env x u) Q E s:=by
 obtain⟨m,hn,hl⟩:=id I.loc;have hcls:(X.env.scope.kind== .class|| (X.env.scope.kind== .module&&X.env.locals !=X.env.globals))=false:=by rw[I.ok.kind];rfl
 have hiσ:i<σ.length:=by rw[I.len];exact(CL.mp hi).1
 have cne:=I.cne;have tracked:∀{a:ju}{h':kj},(∃o,s.heap.get? a=some o/\H a=none)->my a s.heap h'->CU X.prog X.w H h':=fun{a h'} ha hs b ob e=>by
  obtain⟨_,_,hfree⟩:=ha;refine(I.hok b ob e).stay (λc w' hc q=>(hs.2 c ?_).trans q) (λ_ q=>q) λ_ _ q=>q;rintro rfl;rcases hc with rfl|hc
  ·rw[hfree]at e;cases e
  ·rw[hfree]at hc;cases hc
 rcases hx with hk|hk
 ·refine wpAny_storeName_local hk hn (λh' hn' hs=> ?_) hcls;obtain⟨oL,_,_,hoL,_⟩:=id hn;refine h _ ⟨I.ok,I.os,I.bare,⟨λb o e n hb hx=> ?_,λb o e n hb hx=> ?_,I.base.free,λb o e hx=> ?_,I.base.tups,I.base.frzs,I.base.tbls⟩,⟨_,hn',λj y v' e1 e2 e3=> ?_⟩,λy c e=> ?_,I.free,I.freeC,λp hp=> ?_,tracked ⟨oL,hoL,I.free⟩ hs,by simpa using I.len⟩ ⟨_,hs,.inl rfl⟩
  ·exact(hs.2 b (jo (jf (CO e) I.ok.above))).trans (I.base.keep b o e n hb hx)
  ·obtain⟨sl,e1⟩:=I.base.slot b o e n hb hx;exact⟨sl,(hs.2 b (jo (jf (CO e) I.ok.above))).trans e1⟩
  ·obtain⟨o',e1⟩:=I.base.there b o e hx;exact⟨o',(hs.2 b (jo (jf (CO e) I.ok.above))).trans e1⟩
  ·by_cases hj:j=i
   ·subst hj;rw[hi]at e1;cases e1;rw[xr hiσ]at e2;cases e2;exact⟨u,r,.inl ⟨hk,by simp⟩⟩
   ·rw[List.getElem?_set_ne (Ne.symm hj)]at e2;obtain⟨u',r',q⟩:=hl j y v' e1 e2 e3;refine⟨u',r',?_⟩;rcases q with⟨k,e⟩| ⟨k,c,e,z⟩
    ·refine .inl ⟨k,?_⟩;have:y≠x:=λe=>hj (A2j hN e1 (e▸hi));simp[this,e]
    ·exact .inr ⟨k,c,e,z.sameBut hs (cne y c e)⟩
  ·obtain⟨w',z⟩:=I.cell y c e;exact⟨w',z.sameBut hs (cne y c e)⟩
  ·obtain⟨e,n,ne,nf,d⟩:=I.pin p hp;exact⟨(hs.2 p.1 ne).trans e,n,ne,nf,d⟩
 ·have hfn:X.fn x=true:=by
   rcases hf with z|z
   ·exact z
   ·rw[z]at hk;cases hk
  obtain⟨c,hc⟩:=I.ok.has x (.inl hk);obtain⟨w',z⟩:=I.cell x c hc;refine wpAny_storeName_cell I.ok.kind hk hc z (λh' hc' hs=> ?_);obtain⟨oc,hoc,hocd⟩:=id z;refine h {s with heap:=h'} ⟨I.ok,I.os,I.bare,⟨λb o e n hb hx=> ?_,λb o e n hb hx=> ?_,I.base.free,λb o e hx=> ?_,I.base.tups,I.base.frzs,I.base.tbls⟩,⟨m,hn.sameBut hs (Ne.symm (cne x c hc)),λj y v' e1 e2 e3=> ?_⟩,λy c' e=> ?_,I.free,I.freeC,λp hp=> ?_,tracked ⟨oc,hoc,I.freeC x c hc⟩ hs,by simpa using I.len⟩ ⟨c,hs,.inr hc⟩
  ·exact(hs.2 b (jo (jf (CO e) (I.ok.cab x c hfn hc)))).trans (I.base.keep b o e n hb hx)
  ·obtain⟨sl,e1⟩:=I.base.slot b o e n hb hx;exact⟨sl,(hs.2 b (jo (jf (CO e) (I.ok.cab x c hfn hc)))).trans e1⟩
  ·obtain⟨o',e1⟩:=I.base.there b o e hx;exact⟨o',(hs.2 b (jo (jf (CO e) (I.ok.cab x c hfn hc)))).trans e1⟩
  ·by_cases hj:j=i
   ·subst hj;rw[hi]at e1;cases e1;rw[xr hiσ]at e2;cases e2;exact⟨u,r,.inr ⟨.inl hk,c,hc,hc'⟩⟩
   ·rw[List.getElem?_set_ne (Ne.symm hj)]at e2;obtain⟨u',r',q⟩:=hl j y v' e1 e2 e3;refine⟨u',r',?_⟩;rcases q with q| ⟨k,c',e,z'⟩
    ·exact .inl q
    ·refine .inr ⟨k,c',e,z'.sameBut hs ?_⟩;rintro rfl;exact hj (A2j hN e1 (I.ok.inj _ _ _ e hc▸hi))
  ·by_cases hcc:c'=c
   ·subst hcc;exact⟨_,hc'⟩
   ·obtain⟨w2,z2⟩:=I.cell y c' e;exact⟨w2,z2.sameBut hs hcc⟩
  ·obtain⟨e,n,ne,nf,d⟩:=I.pin p hp;refine⟨(hs.2 p.1 ?_).trans e,n,ne,nf,d⟩;intro q;rw[q,hoc]at e;have q':oc=p.2:=j7 e;exact d w' (by rw[←q'];exact hocd)
theorem mM (I:Inv X kb σ H s)(hN:X.N.Nodup)(hi:X.N[i]?=some x)(hx:Loc X.env.scope x)(r:RelV v u)
  (h:∀s',Inv X kb (σ.set i (some v)) H s'->Q () s')(hf:X.fn x=true\/X.env.scope.names.lookup x=some .local:=by first|exact .inl rfl|exact .inr rfl|assumption):jy M A (storeName X.env x u) Q E s:=
 xC I hN hi hx r (λs' I' _=>h s' I') hf
theorem Inv.call' (I:Inv X kb σ H s)(ho:s'.os=s.os)(u:Un (frs X.stack) ch H H' s.heap s'.heap)(hok:CU X.prog X.w H' s'.heap)(hg:Aj s'.gens)
  (hch:∀b∈ch,(b∈X.ex\/X.s₀.heap.objs.size<=b)/\b≠X.env.locals/\(∀x c,X.env.cells.lookup x=some c->c≠b)/\∀p∈X.pn++kb,p.1≠b):Inv X kb σ H' s':=by
 obtain⟨h',g',d',t',o'⟩:=s';have e:o'=s.os:=ho;subst e;exact I.call (g':=g') (t':=t') (d':=d') u hok hg hch
end
noncomputable abbrev XK:=jt->Option ju->Hp->Prop
noncomputable abbrev St:=List (Option V)
noncomputable abbrev VK:=V->Hp->Prop
noncomputable abbrev TE:=St->Hp->VK->Prop
noncomputable abbrev TT:=St->Hp->(Bool->Hp->Prop)->Prop
noncomputable abbrev TA:=St->Hp->(List V->Hp->Prop)->Prop
structure dC where
 nx:St->Hp->Prop
 rt:VK
 bk:St->Hp->Prop:=λ_ _=>False
 ct:St->Hp->Prop:=λ_ _=>False
noncomputable abbrev TS:=dC->St->Hp->Prop
noncomputable def EP (X:Cx)(kb:List (ju×Obj))(σ:St)(Q:VK)(u:jt)(s':jw):Prop:=∃v H',Inv X kb σ H' s'/\RelV v u/\Q v H'
noncomputable def TP (X:Cx)(kb:List (ju×Obj))(σ:St)(Q:Bool->Hp->Prop)(b:Bool)(s':jw):Prop:=∃H',Inv X kb σ H' s'/\Q b H'
noncomputable def AP (X:Cx)(kb:List (ju×Obj))(σ:St)(Q:List V->Hp->Prop)(us:List jt)(s':jw):Prop:=∃vs H',Inv X kb σ H' s'/\Vals vs us/\Q vs H'
noncomputable def SP (X:Cx)(kb:List (ju×Obj))(D:dC)(f:Flow)(s':jw):Prop:=
 match f with
 | .next=> ∃σ' H',Inv X kb σ' H' s'/\D.nx σ' H'
 | .brk=> ∃σ' H',Inv X kb σ' H' s'/\D.bk σ' H'
 | .cont=> ∃σ' H',Inv X kb σ' H' s'/\D.ct σ' H'
 | .ret u=> ∃v σ' H',Inv X kb σ' H' s'/\RelV v u/\D.rt v H'
noncomputable def PE (X:Cx)(e:om)(t:TE):Prop:=
 ∀(kb:List (ju×Obj))(s:jw)(σ:St)(H:Hp)(Q:VK),Inv X kb σ H s->t σ H Q->jy (kg X.prog X.w) X.A (sf e X.env) (EP X kb σ Q) X.xe s
noncomputable def PT (X:Cx)(e:om)(t:TT):Prop:=
 ∀(kb:List (ju×Obj))(s:jw)(σ:St)(H:Hp)(Q:Bool->Hp->Prop),Inv X kb σ H s->t σ H Q->jy (kg X.prog X.w) X.A (isTrue e X.env (sf e X.env)) (TP X kb σ Q) X.xe s
noncomputable def PW (X:Cx)(e:om)(t:TT):Prop:=
 ∀(whole:Sem jt)(kb:List (ju×Obj))(s:jw)(σ:St)(H:Hp)(Q:Bool->Hp->Prop),Inv X kb σ H s->t σ H Q->jy (kg X.prog X.w) X.A (isTrue e X.env whole) (TP X kb σ Q) X.xe s
theorem PW.pt (h:PW X e t):PT X e t:=h _
noncomputable def PA (X:Cx)(es:List om)(t:TA):Prop:=
 ∀(pos:Pos)(kb:List (ju×Obj))(s:jw)(σ:St)(H:Hp)(Q:List V->Hp->Prop),Inv X kb σ H s->t σ H Q->jy (kg X.prog X.w) X.A (spliced (As pos (ni es X.env))) (AP X kb σ Q) X.xe s
noncomputable def PS (X:Cx)(st:mw)(t:TS):Prop:=
 ∀(kb:List (ju×Obj))(s:jw)(σ:St)(H:Hp)(D:dC),Inv X kb σ H s->t D σ H->jy (kg X.prog X.w) X.A (exec st X.env) (SP X kb D) X.xe s
noncomputable def CV (X:Cx)(st:List mw)(t:TS):Prop:=
 ∀(kb:List (ju×Obj))(s:jw)(σ:St)(H:Hp)(D:dC),Inv X kb σ H s->t D σ H->jy (kg X.prog X.w) X.A (execs st X.env) (SP X kb D) X.xe s
theorem thn (h:jy M A t Q E s)(hQ:∀a s,Q a s->Q' a s):jy M A t Q' E s:=rl h hQ λ_ _ x=>x
section
noncomputable def dE (i:Nat):TE:=λσ H Q=> ∃v,σ[i]?=some (some v)/\Q v H
noncomputable def tC (v:V):TE:=λ_ H Q=>Q v H
theorem A7s (hN:X.N[i]?=some x)(hv:Vis X.env.scope x)(hd:(x==("__debug__":Str))=false:=by decide)(hcd:(x==("__classdict__":Str))=false:=by decide):PE X (.Name x pos) (dE i):=by
 intro kb s σ H Q I h;obtain⟨v,e,h⟩:=h;obtain⟨m,hn,hl⟩:=I.loc;obtain⟨u,r,l⟩:=hl i x v hN e hv;have fin:EP X kb σ Q u s:=⟨v,H,I,r,h⟩;rcases l with⟨hk,hm⟩| ⟨hk,c,hc,hcell⟩
 ·exact wpAny_Name (wpAny_loadName_local I.ok.kind hk hn hm fin) hd
 ·rcases hk with hk|hk
  ·exact wpAny_Name (wpAny_loadName_cell I.ok.kind hk hc hcell fin) hd
  ·exact wpAny_Name (wpAny_loadName_free I.ok.kind hk hc hcell fin hcd) hd
theorem aU:PE X (.Constant (.int i) j pos) (tC (.int i)):=λ_ _ _ H _ I h=>wpAny_Constant_int ⟨.int i,H,I.tok _,⟨_,rfl⟩,h⟩
theorem fH:PE X (.Constant (.bool b) j pos) (tC (.bl b)):=λ_ _ _ H _ I h=>Constant_bool ⟨.bl b,H,I,rfl,h⟩
theorem pD:PE X (.Constant .none j pos) (tC .non):=λ_ _ _ H _ I h=>Constant_none ⟨.non,H,I,rfl,h⟩
noncomputable def Gl (X:Cx)(x:Str):Prop:=X.env.kindOf x=some .globalImplicit
theorem A0i (I:Inv X kb σ H s)(hg:Gl X x)(hm:X.mg x=some u)(h:Q u s)
  (hd:(x==("__debug__":Str))=false:=by decide):jy (kg X.prog X.w) X.A (sf (.Name x pos) X.env) Q E s:=
 zj I.ok.kind hg (Calls.loadGlobal_global (by rw[I.ok.glob];exact I.mod.glob.keeps I.bk) hm h) hd
theorem iE (I:Inv X kb σ H s)(hg:Gl X x)(hm:X.mg x=none)(hv:qu x=some u)(h:Q u s)
  (hn:x≠ "__name__":=by decide)(hd:(x==("__debug__":Str))=false:=by decide):jy (kg X.prog X.w) X.A (sf (.Name x pos) X.env) Q E s:=by
 obtain⟨mb,h1,h2⟩:=I.mod.blt;exact zj I.ok.kind hg (Calls.loadGlobal_builtin (by rw[I.ok.glob];exact I.mod.glob.keeps I.bk) hm (by rw[I.ok.blt];exact h1.keeps I.bk) ((h2 x hn).trans hv) h) hd
theorem dW (hg:Gl X x)(hm:X.mg x=some u)(r:RelV v u)(hd:(x==("__debug__":Str))=false:=by decide):PE X (.Name x pos) (tC v):=
 λ_ _ _ H _ I h=>A0i I hg hm ⟨v,H,I,r,h⟩ hd
theorem gA (hg:Gl X x)(hm:X.mg x=none)(hv:qu x=some u)(r:RelV v u)(hn:x≠ "__name__":=by decide)(hd:(x==("__debug__":Str))=false:=by decide):PE X (.Name x pos) (tC v):=
 λ_ _ _ H _ I h=>iE I hg hm hv ⟨v,H,I,r,h⟩ hn hd
noncomputable def PC (X:Cx)(op:CmpOp)(a b:om)(t:TE):Prop:=
 ∀(kb:List (ju×Obj))(s:jw)(σ:St)(H:Hp)(Q:VK),Inv X kb σ H s->t σ H Q->
  jy (kg X.prog X.w) X.A (sf a X.env) (λv s₁=>jy (kg X.prog X.w) X.A (sf b X.env) (λu s₂=>jy (kg X.prog X.w) X.A (nv op v u) (EP X kb σ Q) X.xe s₂) X.xe s₁) X.xe s
noncomputable def tB (t:TE):TT:=λσ H Q=>t σ H λx H1=> ∃c,x= .bl c/\Q c H1
theorem A6x (h:PC X op a b t)(h1:yh op b=false:=by first|exact nobehind _ (by decide) (by decide)|rfl):PT X (.Compare a [op] [b] pos) (tB t):=by intro kb s σ H Q I hw;refine Bt (thn (h kb s σ H _ I hw) λv s1 h1=>thn h1 λu s2 h2=>thn h2 λc s3 ⟨x,H1,I1,r1,q1⟩=> ?_) h1;obtain⟨d,rfl,q⟩:=q1;cases r1;exact oo ⟨H1,I1,q⟩
theorem cA (h:PE X e t)(he:∀whole,isTrue e X.env whole=(do let v←whole;BQ e.pos;Ak [v] (truthy v)):=by intro _;rfl):PT X e (tB t):=by intro kb s σ H Q I hw;refine isTrue_plain (thn (h kb s σ H _ I hw) λv s1 ⟨x,H1,I1,r1,q1⟩=> ?_) (he _);obtain⟨d,rfl,q⟩:=q1;cases r1;exact oo ⟨H1,I1,q⟩
variable {tA tB':TT}{rest:List om}
noncomputable def B3z (t u:TT):TT:=λσ H Q=>t σ H λc H1=>if c=true then u σ H1 Q else Q false H1
noncomputable def tOr (t u:TT):TT:=λσ H Q=>t σ H λc H1=>if c=true then Q true H1 else u σ H1 Q
noncomputable def B27 (t:TT):TT:=λσ H Q=>t σ H λc H1=>Q (!c) H1
theorem uT (ha:PT X a tA):PW X (.BoolOp .And [a] pos) tA:=by
 intro wh kb s σ H Q I h;refine isTrue_and (thn (ha kb s σ H Q I h) λc s1 e=> ?_);cases c with
 |true=>exact isTrue_and_nil e
 |false=>exact e
theorem lK (ha:PT X a tA):PW X (.BoolOp .Or [a] pos) tA:=by
 intro wh kb s σ H Q I h;refine isTrue_or (thn (ha kb s σ H Q I h) λc s1 e=> ?_);cases c with
 |false=>exact isTrue_or_nil e
 |true=>exact e
theorem pT (ha:PT X a tA)(hb:PW X (.BoolOp .And (b::rest) pos) tB'):PW X (.BoolOp .And (a::b::rest) pos) (B3z tA tB'):=by
 intro wh kb s σ H Q I h;refine isTrue_and (thn (ha kb s σ H _ I h) λc s1 ⟨H1,I1,q1⟩=> ?_);cases c with
 |true=>exact hb wh kb s1 σ H1 Q I1 q1
 |false=>exact⟨H1,I1,q1⟩
theorem jP (ha:PT X a tA)(hb:PW X (.BoolOp .Or (b::rest) pos) tB'):PW X (.BoolOp .Or (a::b::rest) pos) (tOr tA tB'):=by
 intro wh kb s σ H Q I h;refine isTrue_or (thn (ha kb s σ H _ I h) λc s1 ⟨H1,I1,q1⟩=> ?_);cases c with
 |true=>exact⟨H1,I1,q1⟩
 |false=>exact hb wh kb s1 σ H1 Q I1 q1
theorem cX (ha:PT X a tA):PT X (.UnaryOp .Not a pos) (B27 tA):=by intro kb s σ H Q I h;exact isTrue_not (ha kb s σ H (λc H1=>Q (!c) H1) I h)
noncomputable def A7a (ta tb:TE):TE:=λσ H Q=>ta σ H λx H1=> ∃c,x= .bl c/\if c=true then tb σ H1 Q else Q (.bl false) H1
noncomputable def A7t (ta:TE):TE:=λσ H Q=>ta σ H λx H1=> ∃c,x= .bl c/\Q (.bl (!c)) H1
theorem gT (h:PE X a t):PE X (.BoolOp op [a] pos) t:=λkb s σ H Q I hw=>BoolOp_one (h kb s σ H Q I hw)
theorem hJ (ha:PE X a ta)(hb:PE X (.BoolOp .And (b::rest) pos) tb):PE X (.BoolOp .And (a::b::rest) pos) (A7a ta tb):=by
 intro kb s σ H Q I h;refine BoolOp_and (thn (ha kb s σ H _ I h) λv s1 ⟨x,H1,I1,r1,q1⟩=> ?_);obtain⟨c,rfl,q1⟩:=q1;cases r1;refine oo ?_;cases c with
 |true=>exact hb kb s1 σ H1 Q I1 q1
 |false=>exact⟨.bl false,H1,I1,rfl,q1⟩
theorem B0f (ha:PE X a ta):PE X (.UnaryOp .Not a pos) (A7t ta):=by intro kb s σ H Q I h;refine UnaryOp_ (thn (ha kb s σ H _ I h) λv s1 ⟨x,H1,I1,r1,q1⟩=> ?_);obtain⟨c,rfl,q1⟩:=q1;cases r1;exact not_of (oo ⟨.bl (!c),H1,I1,rfl,q1⟩)
noncomputable def tIf (t:TT)(ta tb:TE):TE:=λσ H Q=>t σ H λc H1=>if c=true then ta σ H1 Q else tb σ H1 Q
theorem A9s (hc:PT X c tA)(ha:PE X a ta)(hb:PE X b tb):PE X (.IfExp c a b pos) (tIf tA ta tb):=by
 intro kb s σ H Q I h;refine wpAny_IfExp (thn (hc kb s σ H _ I h) λd s1 ⟨H1,I1,q1⟩=> ?_);cases d with
 |true=>exact ha kb s1 σ H1 Q I1 q1
 |false=>exact hb kb s1 σ H1 Q I1 q1
end
noncomputable def CW (K:W.Frag)(H:Hp)(a:ju)(xs:List V):Prop:=
 Rd H a (.lst xs)\/
  ∃(o:Obj)(lu:Array jt)(n:Nat),K.lookup a=some o/\o.cls= .type "list"/\o.dict=none/\o.data= .seq lu n/\lu.size<=jv/\Vals xs lu.toList
noncomputable def CY (K:W.Frag)(H:Hp)(a:ju)(xs:List V):Prop:=
 Rd H a (.tup xs)\/
  ∃(o:Obj)(lu:Array jt)(n:Nat),K.lookup a=some o/\o.cls= .type "tuple"/\o.data= .seq lu n/\lu.size<=jv/\Vals xs lu.toList
noncomputable def A4w:jt->Option V
 | .none=>some .non
 | .bool b=>some (.bl b)
 | .int i _=>some (.int i)
 | .str x _=>some (.str x)
 | .bytes b _=>some (.byt b)
 | .float b _=>some (.flt b)
 | .ref a=>some (.ref a)
 | .type n=>some (.ty n)
 |_=>none
theorem RelV.abs (r:RelV x u):A4w u=some x:=by
 cases x with
 |non=>cases r;rfl
 |bl _=>cases r;rfl
 |int _=>obtain⟨t,rfl⟩:=r;rfl
 |str _=>obtain⟨t,rfl⟩:=r;rfl
 |byt _=>obtain⟨t,rfl⟩:=r;rfl
 |flt _=>obtain⟨t,rfl⟩:=r;rfl
 |ref _=>cases r;rfl
 |ty _=>cases r;rfl
theorem RelV.inj (r:RelV x u)(q:RelV y u):x=y:=j7 (r.abs.symm.trans q.abs)
theorem Vals.inj:∀{xs ys:List V}{us:List jt},Vals xs us->Vals ys us->xs=ys
 |_,_,_,.nil,.nil=>rfl
 |_,_,_,.cons r t,.cons r' t'=>by rw[r.inj r',Vals.inj t t']
theorem CW.of {K:W.Frag}(h:H a=some (.lst xs)):CW K H a xs:=.inl (.inl h)
theorem CY.of {K:W.Frag}(h:H a=some (.tup xs)):CY K H a xs:=.inl (.inl h)
theorem Inv.list (I:Inv X kb σ H s)(h:CW X.K H a xs):∃lu:List jt,Vals xs lu/\PlainL s.heap a lu.toArray/\xs.length<=jv:=by
 rcases h with h| ⟨o,lu,n,hk,hc,hd,hs,hz,r⟩
 ·obtain⟨z,lu,n,r,e⟩:=h.ok I.hok;exact⟨lu,r,⟨_,n,e,rfl,rfl,rfl⟩,z⟩
 ·refine⟨lu.toList,r,⟨o,n,I.kIn a o hk,hc,hd,by simpa using hs⟩,?_⟩;have e:=r.length;simp only[k5]at e;omega
theorem Inv.tuple (I:Inv X kb σ H s)(h:CY X.K H a xs):∃lu:List jt,Vals xs lu/\BE s.heap a lu.toArray/\xs.length<=jv:=by
 rcases h with h| ⟨o,lu,n,hk,hc,hs,hz,r⟩
 ·obtain⟨z,lu,r,p⟩:=h.ok I.hok;exact⟨lu,r,p,z⟩
 ·refine⟨lu.toList,r,⟨o,I.kIn a o hk,hc,n,by simpa using hs⟩,?_⟩;have e:=r.length;simp only[k5]at e;omega
theorem Inv.list_inj (I:Inv X kb σ H s)(h:CW X.K H a xs)(h':CW X.K H a ys):xs=ys:=by
 obtain⟨lu,r,⟨o,n,e,_,_,d⟩,_⟩:=I.list h;obtain⟨its',r',⟨o',n',e',_,_,d'⟩,_⟩:=I.list h';rw[e]at e';cases e';rw[d]at d';injection d' with d1 _
 have:lu=its':=by simpa using congrArg Array.toList d1
 subst this;exact r.inj r'
theorem Inv.tuple_inj (I:Inv X kb σ H s)(h:CY X.K H a xs)(h':CY X.K H a ys):xs=ys:=by
 obtain⟨lu,r,⟨o,e,_,n,d⟩,_⟩:=I.tuple h;obtain⟨its',r',⟨o',e',_,n',d'⟩,_⟩:=I.tuple h';rw[e]at e';cases e';rw[d]at d';injection d' with d1 _
 have:lu=its':=by simpa using congrArg Array.toList d1
 subst this;exact r.inj r'
noncomputable abbrev Cx.wish (X:Cx)(E:jt->jw->Prop):Cx:={X with xe:=E}
noncomputable abbrev Cx.nox (X:Cx):Cx:=X.wish λ_ _=>False
theorem Cx.Ok.wish {X:Cx}(ok:X.Ok)(E:jt->jw->Prop):(X.wish E).Ok:=
 ⟨ok.mod,ok.kind,ok.glob,ok.blt,ok.above,ok.inj,ok.has,ok.cab,ok.hd,ok.frames,ok.stk,ok.exf,ok.bs,ok.bsz,ok.noex,ok.exfs,ok.funs,ok.frf⟩
theorem Cx.Ok.unwish {X:Cx}{E:jt->jw->Prop}(ok:(X.wish E).Ok):X.Ok:=
 ⟨ok.mod,ok.kind,ok.glob,ok.blt,ok.above,ok.inj,ok.has,ok.cab,ok.hd,ok.frames,ok.stk,ok.exf,ok.bs,ok.bsz,ok.noex,ok.exfs,ok.funs,ok.frf⟩
section
variable {X:Cx}{kb:List (ju×Obj)}{σ:St}{H:Hp}{s:jw}{E:jt->jw->Prop}
theorem Inv.wish (I:Inv X kb σ H s)(E:jt->jw->Prop):Inv (X.wish E) kb σ H s:=⟨I.ok.wish E,I.os,I.bare,I.base,I.loc,I.cell,I.free,I.freeC,I.pin,I.hok,I.len⟩
theorem Inv.unwish (I:Inv (X.wish E) kb σ H s):Inv X kb σ H s:=⟨I.ok.unwish,I.os,I.bare,I.base,I.loc,I.cell,I.free,I.freeC,I.pin,I.hok,I.len⟩
theorem SP.unwish (h:SP (X.wish E) kb D f s'):SP X kb D f s':=by
 cases f with
 |next=>obtain⟨σ',H',I,q⟩:=h;exact⟨σ',H',I.unwish,q⟩
 |brk=>obtain⟨σ',H',I,q⟩:=h;exact⟨σ',H',I.unwish,q⟩
 |cont=>obtain⟨σ',H',I,q⟩:=h;exact⟨σ',H',I.unwish,q⟩
 |ret u=>obtain⟨v,σ',H',I,r,q⟩:=h;exact⟨v,σ',H',I.unwish,r,q⟩
theorem CV.nox {st:List mw}{t:TS}(h:CV X.nox st t):CV X st t:=λkb s σ H D I hw=>
 rl (h kb s σ H D (I.wish _) hw) (λ_ _ q=>q.unwish) λ_ _ z=>uw z
end
section
variable {X:Cx}{st:mw}{rest:List mw}{t u:TS}{e:om}{te:TE}{pos:Pos}
noncomputable def A7r:TS:=λD σ H=>D.nx σ H
noncomputable def nA (t u:TS):TS:=λD σ H=>t {D with nx:=u D} σ H
theorem bU:CV X [] A7r:=λ_ _ σ H _ I h=>yp ⟨σ,H,I,h⟩
theorem aT (h1:PS X st t)(h2:CV X rest u):CV X (st::rest) (nA t u):=by
 intro kb s σ H D I h;refine wpAny_execs_cons (thn (h1 kb s σ H {D with nx:=u D} I h) λf s1 q=> ?_);cases f with
 |next=>
  obtain⟨σ',H',I',q⟩:=q;exact h2 kb s1 σ' H' D I' q
 |ret v=>exact q
 |brk=>exact q
 |cont=>exact q
theorem aR (h1:PS X st t):CV X [st] t:=by
 intro kb s σ H D I h;refine wpAny_execs_cons (thn (h1 kb s σ H D I h) λf s1 q=> ?_);cases f with
 |next=>exact yp q
 |ret v=>exact q
 |brk=>exact q
 |cont=>exact q
theorem Inv.quiet (I:Inv X kb σ H s):interactive X.env=false:=by simp[interactive,I.ok.kind]
noncomputable def yR (te:TE):TS:=λD σ H=>te σ H λ_ H1=>D.nx σ H1
theorem dP (he:PE X e te)(hs:BR e none pos.line X.env=pure false:=by rfl):PS X (.Expr e pos) (yR te):=by intro kb s σ H D I h;exact wpAny_Expr_any (thn (he kb s σ H _ I h) λv s1 ⟨x,H1,I1,r1,q1⟩=> ⟨σ,H1,I1,q1⟩) I.quiet hs
noncomputable def nU (te:TE):TS:=λD σ H=>te σ H D.rt
theorem aY (he:PE X e te):PS X (.Return (some e) pos) (nU te):=by intro kb s σ H D I h;exact wpAny_Return_some (thn (he kb s σ H _ I h) λv s1 ⟨x,H1,I1,r1,q1⟩=> ⟨x,σ,H1,I1,r1,q1⟩)
noncomputable def B0e (c:TT)(t u:TS):TS:=λD σ H=>c σ H λb H1=>if b=true then t D σ H1 else u D σ H1
theorem bV (hc:PT X c tc)(ha:CV X a t)(hb:CV X b u):PS X (.If c a b pos) (B0e tc t u):=by
 intro kb s σ H D I h;refine wpAny_If (thn (hc kb s σ H _ I h) λd s1 ⟨H1,I1,q1⟩=> ?_);cases d with
 |true=>exact ha kb s1 σ H1 D I1 q1
 |false=>exact hb kb s1 σ H1 D I1 q1
noncomputable def A3l:TS:=λ_ _ _=>False
theorem gJ:CV X sts A3l:=λ_ _ _ _ _ _ h=>h.elim
end
noncomputable abbrev TG:=V->St->Hp->(St->Hp->Prop)->Prop
noncomputable abbrev TGs:=List V->St->Hp->(St->Hp->Prop)->Prop
noncomputable def PG (X:Cx)(target:om)(t:TG):Prop:=
 ∀(kb:List (ju×Obj))(s:jw)(σ:St)(H:Hp)(v:V)(u:jt)(Q:St->Hp->Prop),Inv X kb σ H s->RelV v u->t v σ H Q->
  jy (kg X.prog X.w) X.A (B8 target X.env u) (λ_ s'=> ∃σ' H',Inv X kb σ' H' s'/\Q σ' H') X.xe s
noncomputable def PGs (X:Cx)(ts:List om)(t:TGs):Prop:=
 ∀(kb:List (ju×Obj))(s:jw)(σ:St)(H:Hp)(vs:List V)(us:List jt)(Q:St->Hp->Prop),Inv X kb σ H s->Vals vs us->t vs σ H Q->
  jy (kg X.prog X.w) X.A (BX ((zk ts X.env).map (·.2)) us) (λ_ s'=> ∃σ' H',Inv X kb σ' H' s'/\Q σ' H') X.xe s
noncomputable abbrev xM:=V->V->V->Hp->(Hp->Prop)->Prop
noncomputable def yD (X:Cx)(t:xM):Prop:=
 ∀(kb:List (ju×Obj))(s:jw)(σ:St)(H:Hp)(o i v:V)(ov iv u:jt)(Q:Hp->Prop),Inv X kb σ H s->RelV o ov->RelV i iv->RelV v u->t o i v H Q->
  jy (kg X.prog X.w) X.A (setItem ov iv u) (λ_ s'=> ∃H',Inv X kb σ H' s'/\Q H') X.xe s
noncomputable abbrev TIp:=V->V->Hp->VK->Prop
noncomputable def PIp (X:Cx)(op:Operator)(t:TIp):Prop:=
 ∀(kb:List (ju×Obj))(s:jw)(σ:St)(H:Hp)(x y:V)(v u:jt)(Q:VK),Inv X kb σ H s->RelV x v->RelV y u->t x y H Q->
  jy (kg X.prog X.w) X.A (inplaceOp op v u) (EP X kb σ Q) X.xe s
noncomputable def cN (i:Nat):TG:=λv σ H Q=>Q (σ.set i (some v)) H
theorem aJ (hN:X.N.Nodup)(hi:X.N[i]?=some x)(hx:Loc X.env.scope x)(hf:X.fn x=true\/X.env.scope.names.lookup x=some .local:=by first|exact .inl rfl|exact .inr rfl|assumption):PG X (.Name x pos) (cN i):=by intro kb s σ H v u Q I r h;exact wpAny_assign_Name (mM I hN hi hx r (λs' I'=> ⟨_,H,I',h⟩) hf)
theorem CZ (i:Nat)(hN:X.N.Nodup)(hi:X.N[i]?=some x:=by rfl)(hx:Loc X.env.scope x:=by exact .inl rfl)(hf:X.fn x=true\/X.env.scope.names.lookup x=some .local:=by first|exact .inl rfl|exact .inr rfl|assumption):PG X (.Name x pos) (cN i):=aJ hN hi hx hf
noncomputable def iS:TGs:=λvs σ H Q=>vs=[]/\Q σ H
noncomputable def fA (t:TG)(u:TGs):TGs:=λvs σ H Q=> ∃v r,vs=v::r/\t v σ H λσ' H'=>u r σ' H' Q
theorem bH:PGs X [] iS:=by intro kb s σ H vs us Q I r h;obtain⟨e,h⟩:=h;subst e;cases r;exact assignInOrder_nil ⟨σ,H,I,h⟩
theorem aV (h1:PG X e t)(h2:PGs X es u)
  (hs:(zk (e::es) X.env).map (·.2)=B8 e X.env::(zk es X.env).map (·.2):=by rfl):PGs X (e::es) (fA t u):=by
 intro kb s σ H vs us Q I r h;obtain⟨v,vr,e1,h⟩:=h;subst e1;cases r with
 |cons r rr=>
  rw[hs];refine zl (thn (h1 kb s σ H _ _ _ I r h) λ_ s1 ⟨σ1,H1,I1,q1⟩=> ?_);exact h2 kb s1 σ1 H1 _ _ Q I1 rr q1
noncomputable def iR (K:W.Frag)(n:Nat)(t:TGs):TG:=λv σ H Q=> ∃a xs,v= .ref a/\CY K H a xs/\xs.length=n/\t xs σ H Q
theorem bI (hc:X.calm=true)(h:PGs X es t)
  (hn:(zk es X.env).length=n:=by rfl)(hst:(zk es X.env).findIdx? (·.1)=none:=by rfl):PG X (.Tuple es k pos) (iR X.K n t):=by
 intro kb s σ H v u Q I r hw;obtain⟨a,xs,e1,hq,hl,hw⟩:=hw;subst e1;cases r;obtain⟨lu,rv,ht,hz⟩:=I.tuple hq;refine assign_Tuple_tuple (I.ok.hd hc) ht (by simp[hn,←hl,rv.length]) hst λh' hx=> ?_;have I1:Inv X kb σ H {s with heap:=h'}:=I.kept (t':=s.toks) λb o e=>hx b o (jo (CO e)) e;exact h kb _ σ H xs _ Q I1 (by simpa using rv) hw
noncomputable def A32 (to ti:TE)(t:xM):TG:=λv σ H Q=>to σ H λo H1=>ti σ H1 λi H2=>t o i v H2 λH3=>Q σ H3
theorem uW (ho:PE X o to)(hi:PE X i ti)(hs:yD X t)
  (ha:∀v,B8 (.Subscript o i pos) X.env v=(do
   let ov←Ak [v] (sf o X.env);let iv←Ak [v,ov] (sf i X.env)
   BQ pos
   Ak [v,ov,iv] (setItem ov iv v)
   release [v,ov,iv] []):=by intro _;rfl):PG X (.Subscript o i pos) (A32 to ti t):=by
 intro kb s σ H v u Q I r h;rw[ha];refine CI (l8 (thn (ho kb s σ H _ I h) λov s1 ⟨x,H1,I1,r1,q1⟩=> ?_));refine CI (l8 (thn (hi kb s1 σ H1 _ I1 q1) λiv s2 ⟨y,H2,I2,r2,q2⟩=> ?_));refine CI (ua (CI (l8 (thn (hs kb s2 σ H2 x y v ov iv u _ I2 r1 r2 r q2) λ_ s3 ⟨H3,I3,q3⟩=> ?_))));exact wpAny_release ⟨σ,H3,I3,q3⟩
noncomputable def gY (te:TE)(g:TG):TS:=λD σ H=>te σ H λx H1=>g x σ H1 D.nx
theorem cQ (he:PE X e te)(hg:PG X tg g)(hs:swapsWithSole [tg] e pos.line X.env=pure false:=by rfl)(hw:swappedStores [tg] e X.env=pure none:=by rfl)
  (h1:(zk [tg] X.env).map (·.2)=[B8 tg X.env]:=by rfl):PS X (.Assign [tg] e pos) (gY te g):=by
 intro kb s σ H D I h;refine wpAny_Assign_stores (thn (he kb s σ H _ I h) λv s1 ⟨x,H1,I1,r1,q1⟩=> ?_) hs hw;rw[h1];exact thn (hg kb s1 σ H1 x v _ I1 r1 q1) λ_ s2 q=>q
theorem bJ (hN:X.N.Nodup)(hi:X.N[i]?=some x)(hx:Loc X.env.scope x)(he:PE X e te)(hs:BR e (some (.Name x pos')) pos.line X.env=pure false:=by rfl)(hf:X.fn x=true\/X.env.scope.names.lookup x=some .local:=by first|exact .inl rfl|exact .inr rfl|assumption):
  PS X (.Assign [.Name x pos'] e pos) (gY te (cN i)):=by
 intro kb s σ H D I h;refine wpAny_Assign_Name (thn (he kb s σ H _ I h) λv s1 ⟨y,H1,I1,r1,q1⟩=> ?_) hs;exact mM I1 hN hi hx r1 (λs2 I2=> ⟨_,H1,I2,q1⟩) hf
noncomputable def A8d (i j:Nat)(ta:TA):TS:=λD σ H=>ta σ H λvs H1=> ∃v w,vs=[v,w]/\D.nx ((σ.set i (some v)).set j (some w)) H1
theorem jL (hc:X.calm=true)(hN:X.N.Nodup)(hi:X.N[i]?=some x)(hj:X.N[j]?=some y)(hij:i≠j)
  (hx:X.env.scope.names.lookup x=some .local)(hy:X.env.scope.names.lookup y=some .local)(ha:PA X [a,b] ta)
  (hw:swappedStores [.Tuple [.Name x px,.Name y py] kt pt] (.Tuple [a,b] k2 pt2) X.env=pure (some [x,y]))
  (hs:swapsWithSole [.Tuple [.Name x px,.Name y py] kt pt] (.Tuple [a,b] k2 pt2) pos.line X.env=pure false:=by rfl):
  PS X (.Assign [.Tuple [.Name x px,.Name y py] kt pt] (.Tuple [a,b] k2 pt2) pos) (A8d i j ta):=by
 intro kb s σ H D I h;rw[exec_Assign_arm];refine CI (ua ?_);rw[hs];refine CI (CJ ?_);rw[if_neg (by decide)];refine CI (Tuple_ (thn (ha _ kb s σ H _ I h) λus s1 ⟨vs,H1,I1,r1,q1⟩=> ?_));obtain⟨v,w,e1,q1⟩:=q1;subst e1;obtain⟨u1,u2,rfl,rv,rw'⟩:∃u1 u2,us=[u1,u2]/\RelV v u1/\RelV w u2:=by
  cases r1 with
  |cons p q=>
   cases q with
   |cons p' q'=>
    cases q';exact⟨_,_,rfl,p,p'⟩
 refine k8 ?_ (by show 2<=jv;decide);have I2:Inv X kb σ H1 {s1 with heap:=s1.heap.push {cls:=.type "tuple",data:=.seq [u1,u2].toArray}}:=I1.kept (t':=s1.toks) λb o e=>CK _ e;rw[hw];refine CI (CJ ?_)
 show jy (kg X.prog X.w) X.A (do rule "assign.swapped-stores";let items←unpackItems (.ref s1.heap.objs.size) 2 none;BX [λv=>bindName X.env y v,λv=>bindName X.env x v] items.reverse;pure Flow.next) _ _ _;refine CI (pj (CI (unpackItems_tuple (items:=#[u1,u2]) (I.ok.hd hc) (BE.new s1.heap _) λh' hx'=> ?_)));have I3:=I2.kept (h':=h') (t':=s1.toks) λb o e=>hx' b o (jo (CO e)) e;show jy _ _ (BX [λv=>bindName X.env y v,λv=>bindName X.env x v] [u2,u1]>>=λ_=>pure Flow.next) _ _ _;refine CI (zl (wpAny_bindName (mM I3 hN hj (.inl hy) rw' (λs2 I4=> ?_) (.inr hy))));refine zl (wpAny_bindName (mM I4 hN hi (.inl hx) rv (λs3 I5=>assignInOrder_nil (CJ ?_)) (.inr hx)));rw[List.set_comm _ _ (Ne.symm hij)]at I5;exact⟨_,H1,I5,q1⟩
noncomputable def B0x (i:Nat)(te:TE)(ti:TIp):TS:=λD σ H=> ∃x,σ[i]?=some (some x)/\te σ H λy H1=>ti x y H1 λz H2=>D.nx (σ.set i (some z)) H2
theorem B2i (hN:X.N.Nodup)(hi:X.N[i]?=some x)(hx:Loc X.env.scope x)(he:PE X e te)(ho:PIp X op ti)(hf:X.fn x=true\/X.env.scope.names.lookup x=some .local:=by first|exact .inl rfl|exact .inr rfl|assumption):
  PS X (.AugAssign (.Name x pos') op e pos) (B0x i te ti):=by
 intro kb s σ H D I h;obtain⟨v,e1,h⟩:=h;obtain⟨m,hn,hl⟩:=I.loc;have vis:Vis X.env.scope x:=by rcases hx with k|k;exact .inl k;exact .inr (.inl k)
 obtain⟨u,r,l⟩:=hl i x v hi e1 vis;refine wpAny_AugAssign_Name ?_;have go:jy (kg X.prog X.w) X.A (sf e X.env) (λw s₂=>jy (kg X.prog X.w) X.A (inplaceOp op u w) (λr s₃=>jy (kg X.prog X.w) X.A (storeName X.env x r) (λ_=>SP X kb D .next) X.xe s₃) X.xe s₂) X.xe s:=by
  refine thn (he kb s σ H _ I h) λw s1 ⟨y,H1,I1,r1,q1⟩=> ?_;refine thn (ho kb s1 σ H1 v y u w _ I1 r r1 q1) λz s2 ⟨zv,H2,I2,r2,q2⟩=> ?_;exact mM I2 hN hi hx r2 (λs3 I3=> ⟨_,H2,I3,q2⟩) hf
 rcases l with⟨hk,hm⟩| ⟨hk,c,hc,hcell⟩
 ·exact wpAny_loadName_local I.ok.kind hk hn hm go
 ·rcases hk with hk|hk
  ·exact wpAny_loadName_cell I.ok.kind hk hc hcell go
  ·rcases hx with k|k
   ·have:X.env.scope.names.lookup x=some .free:=hk;rw[k]at this;cases this
   ·have:X.env.scope.names.lookup x=some .free:=hk;rw[k]at this;cases this
noncomputable def ipI (f:Int->Int->Int):TIp:=λx y H Q=> ∃i j,x= .int i/\y= .int j/\Q (.int (f i j)) H
theorem A42:PIp X .Add (ipI λi j=>i+j):=by intro kb s σ H x y v u Q I r1 r2 h;obtain⟨i,j,e1,e2,q⟩:=h;subst e1;subst e2;obtain⟨t,rfl⟩:=r1;obtain⟨t',rfl⟩:=r2;exact iadd_int ⟨.int _,H,I.tok _,⟨_,rfl⟩,q⟩
noncomputable def A2z (c:TT)(tb:TS):TS:=λD σ H=> ∃W:Nat->St->Hp->Prop,(∃m,W m σ H)/\∀m σ H,W m σ H->
 c σ H λb H1=>if b=true then∃N:St->Hp->Prop,(∀σ' H',N σ' H'->∃m',m'<m/\W m' σ' H')/\tb {D with nx:=N,ct:=N,bk:=D.nx} σ H1 else D.nx σ H1
theorem uX (hp:nh (kg X.prog X.w) X.A X.env X.xe)(hc:PT X c tc)(hb:CV X body tb):PS X (.While c body [] pos) (A2z tc tb):=by
 intro kb s σ H D I h;obtain⟨W,⟨m0,w0⟩,turn⟩:=h;refine wpAny_While (codeAny_whileLoop (λn s'=> ∃σ' H',Inv X kb σ' H' s'/\W n σ' H') ?_ m0 ⟨σ,H,I,w0⟩);rintro n s1 ⟨σ1,H1,I1,w1⟩;refine sy hp (thn (hc kb s1 σ1 H1 _ I1 (turn n σ1 H1 w1)) λb s2 ⟨H2,I2,q2⟩=> ?_);cases b with
 |true=>
  obtain⟨N,hN,q2⟩:=q2;rw[if_pos rfl];refine sy hp (thn (hb kb s2 σ1 H2 _ I2 q2) λf s3 q3=> ?_);cases f with
  |next=>
   obtain⟨σ3,H3,I3,n3⟩:=q3;obtain⟨m',hm,w3⟩:=hN σ3 H3 n3;exact⟨m',hm,σ3,H3,I3,w3⟩
  |cont=>
   obtain⟨σ3,H3,I3,n3⟩:=q3;obtain⟨m',hm,w3⟩:=hN σ3 H3 n3;exact⟨m',hm,σ3,H3,I3,w3⟩
  |brk=>exact q3
  |ret v=>exact q3
 |false=>
  rw[if_neg ki];exact yp ⟨σ1,H2,I2,q2⟩
structure It where
 go:Nat->Hp->Prop
 yld:Nat->Hp->V->Hp->Prop
 stop:Nat->Hp->Prop
noncomputable def fO (X:Cx)(kb:List (ju×Obj))(H:Hp)(b:ju):Prop:=
 H b=none/\b≠X.env.locals/\b∉X.fs/\(b∈X.ex\/X.s₀.heap.objs.size<=b)/\(∀x c,X.env.cells.lookup x=some c->c≠b)/\∀p∈X.pn++kb,p.1≠b
theorem Inv.fpOk (I:Inv X kb σ H s)(hb:s.heap.objs.size<=b)(hn:H' b=none):fO X kb H' b:=by
 refine⟨hn,jn (jf I.lt hb),I.nofs hb,.inr (jd I.sz hb),λx c e z=> ?_,λp hp z=> ?_⟩
 ·obtain⟨v,q⟩:=I.cell x c e;exact absurd (jf q.lt (by rw[z];exact hb)) (je _)
 ·exact absurd (jf (CO (I.pin p hp).1) (by rw[z];exact hb)) (je _)
structure fX (P:j9)(w:kl)(K:W.Frag)(tg:om)(J:It)(fp:List ju)(it:ju)(tn:Nat->kj->Prop):Prop where
 mem:it∈fp
 obj:∀i h,tn i h->∀b∈fp,∃o,h.get? b=some o/\∀v,o.data≠ .cell v
 keep:∀i h h',tn i h->(∀b∈fp,∀o,h.get? b=some o->h'.get? b=some o)->tn i h'
 item:∀(X:Cx),X.prog=P->X.w=w->X.K=K->X.calm=true->∀(i:Nat)(kb:List (ju×Obj))(s:jw)(σ:St)(H:Hp)(E:jt->jw->Prop),Inv X kb σ H s->(∀b∈fp,fO X kb H b)->tn i s.heap->J.go i H->
  jy (kg P w) X.A (ub (.ref it)) (λr s1=> ∃u,r=some u/\
   jy (kg P w) X.A (yq tg (.ref it) u) (λ_ s2=> ∃x H',Inv X kb σ H' s2/\RelV x u/\J.yld i H x H'/\tn (i+1) s2.heap/\∀b∈fp,H' b=none) E s1) E s
 done:∀(X:Cx),X.prog=P->X.w=w->X.K=K->X.calm=true->∀(i:Nat)(kb:List (ju×Obj))(s:jw)(σ:St)(H:Hp)(E:jt->jw->Prop),Inv X kb σ H s->(∀b∈fp,fO X kb H b)->tn i s.heap->J.stop i H->
  jy (kg P w) X.A (ub (.ref it)) (λr s1=>r=none/\Inv X kb σ H s1) E s
 self:∀(A:mh)(i:Nat)(s:jw)(Q:jt->jw->Prop)(E:jt->jw->Prop),tn i s.heap->Q (.ref it) s->jy (kg P w) A (A7 (.ref it)) Q E s
noncomputable abbrev TI:=St->Hp->(It->Hp->Prop)->Prop
noncomputable def PIE (X:Cx)(kb:List (ju×Obj))(σ:St)(tg:om)(R:It->Hp->Prop)(itv:jt)(s2:jw):Prop:=
 ∃(it:ju)(fp:List ju)(tn:Nat->kj->Prop)(J:It)(H':Hp),itv= .ref it/\Inv X kb σ H' s2/\fX X.prog X.w X.K tg J fp it tn/\tn 0 s2.heap/\(∀b∈fp,fO X kb H' b)/\R J H'
noncomputable def PI (X:Cx)(tg iter:om)(wi:TI):Prop:=
 ∀(kb:List (ju×Obj))(s:jw)(σ:St)(H:Hp)(R:It->Hp->Prop),Inv X kb σ H s->wi σ H R->
  jy (kg X.prog X.w) X.A (sf iter X.env) (λv s1=>jy (kg X.prog X.w) X.A (A7 v) (PIE X kb σ tg R) X.xe s1) X.xe s
theorem mU (ho:s.heap.get? it=some o)(hc:o.cls= .type n)(hd:o.data= .fields vs)
    (hn:["enumerate","zip","dict_itemiterator","dict_reverseitemiterator","odict_iterator","itertools.zip_longest","itertools.pairwise"].contains n=false)(hQ:Q () s):jy M A (yq tg (.ref it) u) Q E s:=by
  unfold yq;cases tg<;>first
    |exact CJ hQ
    | (cases u<;>first
        |exact CJ hQ
        | (refine CI (wpAny_load ho ?_)
           rw[hc,hd];show jy M A (if (["enumerate","zip","dict_itemiterator","dict_reverseitemiterator","odict_iterator","itertools.zip_longest","itertools.pairwise"].contains n&&vs[0]?==some (vh _))=true then _ else _) Q E s;rw[if_neg (by intro h;rw[hn,Bool.false_and]at h;cases h)];exact CJ hQ))
noncomputable def Itl (K:W.Frag)(a:ju):It:=
 ⟨λi H=> ∃xs x,CW K H a xs/\xs[i]?=some x,λi H x H'=>H'=H/\∀xs,CW K H a xs->xs[i]?=some x,λi H=> ∃xs,CW K H a xs/\xs.length<=i⟩
noncomputable def Itt (K:W.Frag)(a:ju):It:=
 ⟨λi H=> ∃xs x,CY K H a xs/\xs[i]?=some x,λi H x H'=>H'=H/\∀xs,CY K H a xs->xs[i]?=some x,λi H=> ∃xs,CY K H a xs/\xs.length<=i⟩
noncomputable def Itr (lo:Int)(n:Nat):It:=⟨λi _=>i<n,λi H x H'=>H'=H/\x= .int (lo+i),λi _=>n<=i⟩
theorem A6m {P:j9}{w:kl}{K:W.Frag}{tg:om}(a it:ju):fX P w K tg (Itl K a) [it] it (λi h=>h.IsListIter it a i)where
 mem:=by simp
 obj:=λi h st b hb=>by
  have e:b=it:=by simpa using hb
  subst e;obtain⟨o,e,c,d⟩:=st;exact⟨o,e,λv z=>by rw[d]at z;cases z⟩
 keep:=λi h h' st k=>st.at λo e=>k it (by simp) o e
 item:=by
  intro X hP hw hK hc i kb s σ H E I hf st hg;subst hP hw hK;obtain⟨xs,x,hq,hx⟩:=hg;obtain⟨lu,rv,p,hz⟩:=I.list hq;obtain⟨u,hu,ru⟩:=rv.get hx;obtain⟨f0,f1,f2,f3,f4,f5⟩:=hf it (by simp);refine A8 st p.isList (x:=u) (by simpa using hu) λh' yf sb=> ?_;have I1:Inv X kb σ H {s with heap:=h'}:=I.turned (t':=s.toks) (λb o hb e=>(sb.2 b hb).trans e) f0 f1 f3 f4 f5;obtain⟨o,e,c,d⟩:=id yf;exact⟨u,rfl,mU (s:={s with heap:=h'}) e c d (by decide) ⟨x,H,I1,ru,⟨rfl,λys hy=>by rw[I.list_inj hy hq];exact hx⟩,yf,λb hb=>(hf b hb).1⟩⟩
 done:=by
  intro X hP hw hK hc i kb s σ H E I hf st hg;subst hP hw hK;obtain⟨xs,hq,hx⟩:=hg;obtain⟨lu,rv,p,hz⟩:=I.list hq;obtain⟨f0,f1,f2,f3,f4,f5⟩:=hf it (by simp);have hl:=rv.length;exact Bu (I.ok.hd hc) st p.isList (by simp;omega) λh' eb=> ⟨rfl,I.turned (t':=s.toks) (λb o hb e=>eb b o hb e) f0 f1 f3 f4 f5⟩
 self:=λ_ _ _ _ _ st h=>wpAny_pyIter_listiter st h
theorem B21 {P:j9}{w:kl}{K:W.Frag}{tg:om}(a it:ju):fX P w K tg (Itt K a) [it] it (λi h=>h.IsTupleIter it a i)where
 mem:=by simp
 obj:=λi h st b hb=>by
  have e:b=it:=by simpa using hb
  subst e;obtain⟨o,e,c,d⟩:=st;exact⟨o,e,λv z=>by rw[d]at z;cases z⟩
 keep:=λi h h' st k=>st.at λo e=>k it (by simp) o e
 item:=by
  intro X hP hw hK hc i kb s σ H E I hf st hg;subst hP hw hK;obtain⟨xs,x,hq,hx⟩:=hg;obtain⟨lu,rv,p,hz⟩:=I.tuple hq;obtain⟨u,hu,ru⟩:=rv.get hx;obtain⟨f0,f1,f2,f3,f4,f5⟩:=hf it (by simp);refine wpAny_pyNext_tuple_item st (show s.heap.IsTuple a lu.toArray from p) (x:=u) (by simpa using hu) λh' yf sb=> ?_;have I1:Inv X kb σ H {s with heap:=h'}:=I.turned (t':=s.toks) (λb o hb e=>(sb.2 b hb).trans e) f0 f1 f3 f4 f5;obtain⟨o,e,c,d⟩:=id yf;exact⟨u,rfl,mU (s:={s with heap:=h'}) e c d (by decide) ⟨x,H,I1,ru,⟨rfl,λys hy=>by rw[I.tuple_inj hy hq];exact hx⟩,yf,λb hb=>(hf b hb).1⟩⟩
 done:=by
  intro X hP hw hK hc i kb s σ H E I hf st hg;subst hP hw hK;obtain⟨xs,hq,hx⟩:=hg;obtain⟨lu,rv,p,hz⟩:=I.tuple hq;obtain⟨f0,f1,f2,f3,f4,f5⟩:=hf it (by simp);have hl:=rv.length;exact wpAny_pyNext_tuple_end (I.ok.hd hc) st (show s.heap.IsTuple a lu.toArray from p) (by simp;omega) λh' eb=> ⟨rfl,I.turned (t':=s.toks) (λb o hb e=>eb b o hb e) f0 f1 f3 f4 f5⟩
 self:=λ_ _ _ _ _ st h=>wpAny_pyIter_tupleiter st h
theorem B33 {P:j9}{w:kl}{K:y7}{tg:om}(it:ju)(lo:Int)(n:Nat):fX P w K tg (Itr lo n) [it] it (λi h=>IsRangeIter h it (lo+(i:Nat)*1) ((n:Int) -(i:Nat)) 1)where
 mem:=by simp
 obj:=λi h st b hb=>by
  have e:b=it:=by simpa using hb
  subst e;exact⟨_,st,λv z=>by
   have z':Data.fields _=Data.cell v:=z;cases z'⟩
 keep:=λi h h' st k=>k it (by simp) _ st
 item:=by
  intro X hP hw hK hc i kb s σ H E I hf st hg;subst hP hw hK;obtain⟨f0,f1,f2,f3,f4,f5⟩:=hf it (by simp);have W:=Walks.range (prog:=X.prog) (w:=X.w) (I.ok.hd hc) it lo 1 n;refine W.item i s _ _ hg st λv h' tk hv yf kk=> ?_;obtain⟨t,rfl⟩:=hv;have I1:Inv X kb σ H {s with heap:=h',toks:=tk}:=I.turned (λb o hb e=>kk b o (by simpa using hb) e) f0 f1 f3 f4 f5;refine⟨_,rfl,mU (s:={s with heap:=h',toks:=tk}) (n:="range_iterator") yf rfl rfl (by decide) ⟨.int (lo+i),H,I1,⟨t,?_⟩,⟨rfl,rfl⟩,yf,λb hb=>(hf b hb).1⟩⟩;rw[Int.mul_one]
 done:=by
  intro X hP hw hK hc i kb s σ H E I hf st hg;subst hP hw hK;obtain⟨f0,f1,f2,f3,f4,f5⟩:=hf it (by simp);exact wpAny_pyNext_range_end (I.ok.hd hc) st (by have:n<=i:=hg;omega) λh' eb=> ⟨rfl,I.turned (t':=s.toks) (λb o hb e=>eb b o hb e) f0 f1 f3 f4 f5⟩
 self:=λ_ _ _ _ _ st h=>wpAny_pyIter_rangeiter st h
noncomputable def A6r (K:W.Frag)(tl:TE):TI:=λσ H R=>tl σ H λx H1=> ∃a,x= .ref a/\(∃xs,CW K H1 a xs)/\R (Itl K a) H1
noncomputable def A4z (K:W.Frag)(tl:TE):TI:=λσ H R=>tl σ H λx H1=> ∃a,x= .ref a/\(∃xs,CY K H1 a xs)/\R (Itt K a) H1
theorem cR {l:om}{tl:TE}(hl:PE X l tl):PI X tg l (A6r X.K tl):=by
 intro kb s σ H R I h;refine thn (hl kb s σ H _ I h) λv s1 ⟨x,H1,I1,r1,q1⟩=> ?_;obtain⟨a,e,⟨xs,hq⟩,q⟩:=q1;subst e;cases r1;obtain⟨lu,rv,p,hz⟩:=I1.list hq;refine tj p.isList ?_;refine⟨s1.heap.objs.size,[s1.heap.objs.size],_,_,H1,rfl,I1.kept (t':=s1.toks) λb o e=>CK _ e,A6m a _,⟨_,iy _ rfl,rfl,rfl⟩,λb hb=> ?_,q⟩;have e:b=s1.heap.objs.size:=by simpa using hb
 subst e;exact I1.fpOk (CT _) (I1.hok.fresh (CT _))
theorem cW {l:om}{tl:TE}(hl:PE X l tl):PI X tg l (A4z X.K tl):=by
 intro kb s σ H R I h;refine thn (hl kb s σ H _ I h) λv s1 ⟨x,H1,I1,r1,q1⟩=> ?_;obtain⟨a,e,⟨xs,hq⟩,q⟩:=q1;subst e;cases r1;obtain⟨lu,rv,p,hz⟩:=I1.tuple hq;refine qe (show s1.heap.IsTuple a lu.toArray from p) ?_;refine⟨s1.heap.objs.size,[s1.heap.objs.size],_,_,H1,rfl,I1.kept (t':=s1.toks) λb o e=>CK _ e,B21 a _,⟨_,iy _ rfl,rfl,rfl⟩,λb hb=> ?_,q⟩;have e:b=s1.heap.objs.size:=by simpa using hb
 subst e;exact I1.fpOk (CT _) (I1.hok.fresh (CT _))
theorem A41 {kb:List (ju×Obj)}{σ:St}{H:Hp}{s:jw}{R:It->Hp->Prop}{E:jt->jw->Prop}{lo hi:Int}{t u v:Tok}{tk:Nat}(I:Inv X kb σ H s)(h1:-(2^62)<=lo)(h2:lo<2^62)(h3:-(2^62)<=hi)(h4:hi<2^62)
  (q:R (Itr lo (hi - lo).toNat) H):jy (kg X.prog X.w) X.A (A7 (.ref s.heap.objs.size)) (PIE X kb σ tg R) E {s with heap:=s.heap.push {cls:=.type "range",data:=.fields #[.int lo t,.int hi u,.int 1 v]},toks:=tk}:=by
 refine wpAny_pyIter_range (IsRange.new ..) (small_one h1 h2 h3 h4) ?_;have I1:Inv X kb σ H {s with heap:=s.heap.push {cls:=.type "range",data:=.fields #[.int lo t,.int hi u,.int 1 v]},toks:=tk}:=I.kept λb o e=>CK _ e;refine⟨(s.heap.push {cls:=.type "range",data:=.fields #[.int lo t,.int hi u,.int 1 v]}).objs.size,[(s.heap.push {cls:=.type "range",data:=.fields #[.int lo t,.int hi u,.int 1 v]}).objs.size],_,_,H,rfl,
  I1.kept (t':=tk) λb o e=>CK _ e,B33 _ lo (hi - lo).toNat,?_,λb hb=> ?_,q⟩
 ·have e1:lo+((0:Nat):Int)*1=lo:=by simp
  have e2:(((hi - lo).toNat:Nat):Int) -((0:Nat):Int)=j6.Range.rangeSize lo hi 1:=by rw[rangeSize_one];split<;>omega
  show IsRangeIter _ _ (lo+((0:Nat):Int)*1) ((((hi - lo).toNat:Nat):Int) -((0:Nat):Int)) 1;rw[e1,e2];exact iy _ rfl
 ·have e:b=(s.heap.push {cls:=.type "range",data:=.fields #[.int lo t,.int hi u,.int 1 v]}).objs.size:=by simpa using hb
  subst e;exact I1.fpOk (CT _) (I1.hok.fresh (CT _))
noncomputable def A6i (ta:TA):TI:=λσ H R=>ta σ H λvs H1=> ∃j:Int,vs=[.int j]/\-(2^62)<=j/\j<2^62/\R (Itr 0 j.toNat) H1
theorem jK {a:om}{ta:TA}{p pos:Pos}(hg:Gl X "range")(hm:X.mg "range" =none)(ha:PA X [a] ta)(hs:ni [a] X.env=[(false,sf a X.env)]:=by rfl):PI X tg (.Call (.Name "range" p) [a] [] pos) (A6i ta):=by
 intro kb s σ H R I h;refine Call_ (iE I hg hm boot_range (ot (thn (ha pos kb s σ H _ I h) λus s1 ⟨vs,H1,I1,r1,q1⟩=> ?_) hs rfl));obtain⟨j,e,q1,q2,q⟩:=q1;subst e;cases r1 with
 |cons r rr=>
  cases rr;obtain⟨t,rfl⟩:=r;exact call_range_1 (A41 I1 (by omega) (by omega) q1 q2 (by simpa using q))
noncomputable def A7c (wi:TI)(g:TG)(tb:TS):TS:=λD σ H=>wi σ H λJ H1=> ∃W:Nat->Nat->St->Hp->Prop,(∃m,W 0 m σ H1)/\∀i m σ H,W i m σ H->
 (J.stop i H/\D.nx σ H)\/(J.go i H/\∃N:St->Hp->Prop,(∀σ' H',N σ' H'->∃m',m'<m/\W (i+1) m' σ' H')/\∀x H',J.yld i H x H'->g x σ H' λσ2 H2=>tb {D with nx:=N,ct:=N,bk:=D.nx} σ2 H2)
noncomputable def lL (fp:List ju)(h:kj):List (ju×Obj):=fp.filterMap λb=>(h.get? b).map λo=>(b,o)
theorem oD (hb:b∈fp)(e:h.get? b=some o):(b,o)∈lL fp h:=fh.mpr ⟨b,hb,by rw[e];rfl⟩
theorem B04 (hp:p∈lL fp h):p.1∈fp/\h.get? p.1=some p.2:=by
 obtain⟨b,hb,e⟩:=fh.mp hp;cases q:h.get? b with
 |none=>rw[q]at e;cases e
 |some o=>
  rw[q]at e;have e':(b,o)=p:=j7 e;subst e';exact⟨hb,q⟩
theorem Inv.pinned (I:Inv X kb σ H s)(hf:∀b∈fp,fO X kb H b)(ho:∀b∈fp,∃o,s.heap.get? b=some o/\∀v,o.data≠ .cell v):Inv X (kb++lL fp s.heap) σ H s:=
 I.pins_of λp hp=>(d8.mp hp).elim (λz=>I.pin p (fc _ z)) λz=>by
  obtain⟨hb,e⟩:=B04 z;obtain⟨f0,f1,f2,_⟩:=hf p.1 hb;obtain⟨o,e',d⟩:=ho p.1 hb;rw[e]at e';cases e';exact⟨e,f0,f1,f2,d⟩
theorem Inv.unpinned (I:Inv X (kb++pl) σ H s):Inv X kb σ H s:=I.pins_of λp hp=>I.pin p (fc _ (d9 _ hp))
theorem dF (hp:nh (kg X.prog X.w) X.A X.env X.xe)(hc:X.calm=true)(hi:PI X tg iter wi)(hg:PG X tg g)(hb:CV X body tb)
  (hs:∀x,ou iter X.env x=pure x:=by intro _;rfl):PS X (.For tg iter body [] pos) (A7c wi g tb):=by
 intro kb s σ H D I h;refine wpAny_For (thn (hi kb s σ H _ I h) λv s1 h1=>thn h1 λitv s2 h2=> ?_) hs;obtain⟨it,fp,tn,J,H2,e,I2,T,st2,f2,W,⟨m0,w0⟩,turn⟩:=h2;subst e;have stat:∀{H':Hp},(∀b∈fp,H' b=none)->∀b∈fp,fO X kb H' b:=λhn b hb=> ⟨hn b hb,(f2 b hb).2⟩;refine codeAny_forLoop_any (λn s'=> ∃i σ' H',Inv X kb σ' H' s'/\tn i s'.heap/\(∀b∈fp,H' b=none)/\W i n σ' H') ?_ m0 ⟨0,σ,H2,I2,st2,λb hb=>(f2 b hb).1,w0⟩;rintro n s3 ⟨i,σ3,H3,I3,st3,fr3,w3⟩;rcases turn i n σ3 H3 w3 with⟨stop,qn⟩| ⟨go,N,hN,step⟩
 ·refine sy hp (thn (T.done X rfl rfl rfl hc i kb s3 σ3 H3 X.xe I3 (stat fr3) st3 stop) λr s4 ⟨hr,I4⟩=> ?_);subst hr;exact yp ⟨σ3,H3,I4,qn⟩
 ·refine sy hp (thn (T.item X rfl rfl rfl hc i kb s3 σ3 H3 X.xe I3 (stat fr3) st3 go) λr s4 ⟨u,hr,h4⟩=> ?_);subst hr;refine sy hp (thn h4 λ_ s5 ⟨x,H5,I5,r5,y5,st5,fr5⟩=> ?_);have I5':=I5.pinned (stat fr5) (T.obj _ _ st5);refine sy hp (thn (hg _ s5 σ3 H5 x u _ I5' r5 (step x H5 y5)) λ_ s6 ⟨σ6,H6,I6,q6⟩=> ?_);refine sy hp (thn (hb _ s6 σ6 H6 _ I6 q6) λf s7 q7=> ?_);have again:∀{σ7:St}{H7:Hp},Inv X (kb++lL fp s5.heap) σ7 H7 s7->N σ7 H7->∃m,m<n/\∃i σ' H',Inv X kb σ' H' s7/\tn i s7.heap/\(∀b∈fp,H' b=none)/\W i m σ' H':=fun{σ7 H7} I7 n7=>by
   obtain⟨m',hm,w7⟩:=hN σ7 H7 n7;refine⟨m',hm,i+1,σ7,H7,I7.unpinned,T.keep _ _ _ st5 λb hb o e=>(I7.pin (b,o) (fc _ (fc _ (oD hb e)))).1,λb hb=> ?_,w7⟩;obtain⟨o,e,d⟩:=T.obj _ _ st5 b hb;exact(I7.pin (b,o) (fc _ (fc _ (oD hb e)))).2.1
  cases f with
  |next=>obtain⟨σ7,H7,I7,n7⟩:=q7;exact again I7 n7
  |cont=>obtain⟨σ7,H7,I7,n7⟩:=q7;exact again I7 n7
  |brk=>obtain⟨σ7,H7,I7,q7⟩:=q7;exact⟨σ7,H7,I7.unpinned,q7⟩
  |ret v=>obtain⟨x7,σ7,H7,I7,r7,q7⟩:=q7;exact⟨x7,σ7,H7,I7.unpinned,r7,q7⟩
theorem eU {K:y7}{a:ju}{xs:List V}{g:TG}{tb:TS}{D:dC}{σ:St}{H:Hp}(Pv:Nat->St->Hp->Prop)(h0:Pv 0 σ H)(hl:∀i σ H,i<=xs.length->Pv i σ H->CW K H a xs)
  (hs:∀i x σ H,xs[i]?=some x->Pv i σ H->g x σ H λσ2 H2=>tb {D with nx:=Pv (i+1),ct:=Pv (i+1),bk:=D.nx} σ2 H2)(hd:∀σ H,Pv xs.length σ H->D.nx σ H):
  ∃W:Nat->Nat->St->Hp->Prop,(∃m,W 0 m σ H)/\∀i m σ H,W i m σ H->
   ((Itl K a).stop i H/\D.nx σ H)\/((Itl K a).go i H/\∃N:St->Hp->Prop,(∀σ' H',N σ' H'->∃m',m'<m/\W (i+1) m' σ' H')/\∀x H',(Itl K a).yld i H x H'->g x σ H' λσ2 H2=>tb {D with nx:=N,ct:=N,bk:=D.nx} σ2 H2):=by
 refine⟨λi m σ H=>m=xs.length - i/\i<=xs.length/\Pv i σ H,⟨xs.length,by simp,js _,h0⟩,?_⟩;rintro i m σ H ⟨rfl,hi,p⟩;have q:=hl i σ H hi p;by_cases CA:i<xs.length
 ·refine .inr ⟨⟨xs,xs[i],q,by simp[CA]⟩,Pv (i+1),λσ' H' p'=> ⟨xs.length -(i+1),by omega,rfl,CA,p'⟩,λx H' y=> ?_⟩;obtain⟨e,y⟩:=y;subst e;exact hs i x σ _ (y xs q) p
 ·have e:i=xs.length:=by omega
  subst e;exact .inl ⟨⟨xs,q,CT _⟩,hd σ H p⟩
theorem gC {K:y7}{a:ju}{xs:List V}{g:TG}{tb:TS}{D:dC}{σ:St}{H:Hp}(Pv:Nat->St->Hp->Prop)(h0:Pv 0 σ H)(hl:∀i σ H,i<=xs.length->Pv i σ H->CY K H a xs)
  (hs:∀i x σ H,xs[i]?=some x->Pv i σ H->g x σ H λσ2 H2=>tb {D with nx:=Pv (i+1),ct:=Pv (i+1),bk:=D.nx} σ2 H2)(hd:∀σ H,Pv xs.length σ H->D.nx σ H):
  ∃W:Nat->Nat->St->Hp->Prop,(∃m,W 0 m σ H)/\∀i m σ H,W i m σ H->
   ((Itt K a).stop i H/\D.nx σ H)\/((Itt K a).go i H/\∃N:St->Hp->Prop,(∀σ' H',N σ' H'->∃m',m'<m/\W (i+1) m' σ' H')/\∀x H',(Itt K a).yld i H x H'->g x σ H' λσ2 H2=>tb {D with nx:=N,ct:=N,bk:=D.nx} σ2 H2):=by
 refine⟨λi m σ H=>m=xs.length - i/\i<=xs.length/\Pv i σ H,⟨xs.length,by simp,js _,h0⟩,?_⟩;rintro i m σ H ⟨rfl,hi,p⟩;have q:=hl i σ H hi p;by_cases CA:i<xs.length
 ·refine .inr ⟨⟨xs,xs[i],q,by simp[CA]⟩,Pv (i+1),λσ' H' p'=> ⟨xs.length -(i+1),by omega,rfl,CA,p'⟩,λx H' y=> ?_⟩;obtain⟨e,y⟩:=y;subst e;exact hs i x σ _ (y xs q) p
 ·have e:i=xs.length:=by omega
  subst e;exact .inl ⟨⟨xs,q,CT _⟩,hd σ H p⟩
theorem jE {lo:Int}{n:Nat}{g:TG}{tb:TS}{D:dC}{σ:St}{H:Hp}(Pv:Nat->St->Hp->Prop)(h0:Pv 0 σ H)
  (hs:∀i σ H,i<n->Pv i σ H->g (.int (lo+i)) σ H λσ2 H2=>tb {D with nx:=Pv (i+1),ct:=Pv (i+1),bk:=D.nx} σ2 H2)(hd:∀σ H,Pv n σ H->D.nx σ H):
  ∃W:Nat->Nat->St->Hp->Prop,(∃m,W 0 m σ H)/\∀i m σ H,W i m σ H->
   ((Itr lo n).stop i H/\D.nx σ H)\/((Itr lo n).go i H/\∃N:St->Hp->Prop,(∀σ' H',N σ' H'->∃m',m'<m/\W (i+1) m' σ' H')/\∀x H',(Itr lo n).yld i H x H'->g x σ H' λσ2 H2=>tb {D with nx:=N,ct:=N,bk:=D.nx} σ2 H2):=by
 refine⟨λi m σ H=>m=n - i/\i<=n/\Pv i σ H,⟨n,by simp,js _,h0⟩,?_⟩;rintro i m σ H ⟨rfl,hi,p⟩;by_cases CA:i<n
 ·refine .inr ⟨CA,Pv (i+1),λσ' H' p'=> ⟨n -(i+1),by omega,rfl,CA,p'⟩,λx H' y=> ?_⟩;obtain⟨e,y⟩:=y;subst e y;exact hs i σ _ CA p
 ·have e:i=n:=by omega
  subst e;exact .inl ⟨CT _,hd σ H p⟩
theorem xX (Pv:St->Hp->Prop)(μ:St->Hp->Nat)(h0:Pv σ H)
  (hs:∀σ H,Pv σ H->c σ H λb H1=>if b=true then tb {D with nx:=λσ' H'=>Pv σ' H'/\μ σ' H'<μ σ H,ct:=λσ' H'=>Pv σ' H'/\μ σ' H'<μ σ H,bk:=D.nx} σ H1 else D.nx σ H1)
  (mono:∀σ H Q Q',(∀b H1,Q b H1->Q' b H1)->c σ H Q->c σ H Q'):A2z c tb D σ H:=by
 refine⟨λm σ H=>m=μ σ H/\Pv σ H,⟨_,rfl,h0⟩,?_⟩;rintro m σ H ⟨rfl,p⟩;refine mono σ H _ _ (λb H1 q=> ?_) (hs σ H p);cases b with
 |true=>exact⟨_,λσ' H' ⟨p',l⟩=> ⟨_,l,rfl,p'⟩,q⟩
 |false=>exact q
noncomputable abbrev R2:=V->V->Hp->VK->Prop
noncomputable def OpR (X:Cx)(f:jt->jt->Sem jt)(r:R2):Prop:=
 ∀(kb:List (ju×Obj))(s:jw)(σ:St)(H:Hp)(x y:V)(v u:jt)(Q:VK),Inv X kb σ H s->RelV x v->RelV y u->r x y H Q->
  jy (kg X.prog X.w) X.A (f v u) (EP X kb σ Q) X.xe s
noncomputable def UnR (X:Cx)(f:jt->Sem jt)(r:V->Hp->VK->Prop):Prop:=
 ∀(kb:List (ju×Obj))(s:jw)(σ:St)(H:Hp)(x:V)(v:jt)(Q:VK),Inv X kb σ H s->RelV x v->r x H Q->
  jy (kg X.prog X.w) X.A (f v) (EP X kb σ Q) X.xe s
noncomputable def cV (X:Cx)(f:jt)(r:List V->Hp->VK->Prop):Prop:=
 ∀(kb:List (ju×Obj))(s:jw)(σ:St)(H:Hp)(xs:List V)(us:List jt)(Q:VK),Inv X kb σ H s->Vals xs us->r xs H Q->
  jy (kg X.prog X.w) X.A (call f us) (EP X kb σ Q) X.xe s
noncomputable def tOp (r:R2)(ta tb:TE):TE:=λσ H Q=>ta σ H λx H1=>tb σ H1 λy H2=>r x y H2 Q
noncomputable def tUn (r:V->Hp->VK->Prop)(ta:TE):TE:=λσ H Q=>ta σ H λx H1=>r x H1 Q
noncomputable def rI (C:Int->Int->Prop)(g:Int->Int->V):R2:=λx y H Q=> ∃i j,x= .int i/\y= .int j/\C i j/\Q (g i j) H
noncomputable def rI0 (g:Int->Int->V):R2:=λx y H Q=> ∃i j,x= .int i/\y= .int j/\Q (g i j) H
noncomputable def rU (g:Int->V):V->Hp->VK->Prop:=λx H Q=> ∃i,x= .int i/\Q (g i) H
section
variable {X:Cx}{a b c:om}{ta tb tc:TE}{pos:Pos}
theorem rA (ha:PE X a ta)(hb:PE X b tb){kb:List (ju×Obj)}{s:jw}{σ:St}{H:Hp}{R:V->V->Hp->Prop}(I:Inv X kb σ H s)
  (h:ta σ H λx H1=>tb σ H1 λy H2=>R x y H2){Q:jt->jw->Prop}{f:jt->jt->Sem jt}
  (hf:∀v u s2 x y H2,Inv X kb σ H2 s2->RelV x v->RelV y u->R x y H2->jy (kg X.prog X.w) X.A (f v u) Q X.xe s2):
  jy (kg X.prog X.w) X.A (sf a X.env) (λv s₁=>jy (kg X.prog X.w) X.A (sf b X.env) (λu s₂=>jy (kg X.prog X.w) X.A (f v u) Q X.xe s₂) X.xe s₁) X.xe s:=by
 refine thn (ha kb s σ H _ I h) λv s1 ⟨x,H1,I1,r1,q1⟩=> ?_;refine thn (hb kb s1 σ H1 _ I1 q1) λu s2 ⟨y,H2,I2,r2,q2⟩=> ?_;exact hf v u s2 x y H2 I2 r1 r2 q2
theorem bC {op:Operator}{r:R2}(ho:OpR X (wo op) r)(ha:PE X a ta)(hb:PE X b tb):PE X (.BinOp a op b pos) (tOp r ta tb):=by intro kb s σ H Q I h;exact wpAny_BinOp (rA ha hb I h λv u s2 x y H2 I2 rx ry q=>ho kb s2 σ H2 x y v u Q I2 rx ry q)
theorem gN (ho:UnR X (unaryOp op) r)(ha:PE X a ta):PE X (.UnaryOp op a pos) (tUn r ta):=by intro kb s σ H Q I h;exact UnaryOp_ (thn (ha kb s σ H _ I h) λv s1 ⟨x,H1,I1,r1,q1⟩=>ho kb s1 σ H1 x v Q I1 r1 q1)
theorem opI {f:jt->jt->Sem jt}{C:Int->Int->Prop}{g:Int->Int->Int}
  (rule:∀(i j:Int)(t u:Tok)(s:jw)(Q:jt->jw->Prop)(E:jt->jw->Prop),C i j->Q (.int (g i j) s.toks) {s with toks:=s.toks+1}->jy (kg X.prog X.w) X.A (f (.int i t) (.int j u)) Q E s):
  OpR X f (rI C λi j=> .int (g i j)):=by
 intro kb s σ H x y v u Q I rx ry h;obtain⟨i,j,rfl,rfl,hc,q⟩:=h;obtain⟨t,rfl⟩:=rx;obtain⟨t',rfl⟩:=ry;exact rule i j t t' s _ _ hc ⟨.int (g i j),H,I.tok _,⟨_,rfl⟩,q⟩
theorem uC {f:jt->jt->Sem jt}{g:Int->Int->Int}
  (rule:∀(i j:Int)(t u:Tok)(s:jw)(Q:jt->jw->Prop)(E:jt->jw->Prop),Q (.int (g i j) s.toks) {s with toks:=s.toks+1}->jy (kg X.prog X.w) X.A (f (.int i t) (.int j u)) Q E s):
  OpR X f (rI0 λi j=> .int (g i j)):=by
 intro kb s σ H x y v u Q I rx ry h;obtain⟨i,j,rfl,rfl,q⟩:=h;obtain⟨t,rfl⟩:=rx;obtain⟨t',rfl⟩:=ry;exact rule i j t t' s _ _ ⟨.int (g i j),H,I.tok _,⟨_,rfl⟩,q⟩
theorem oW {f:jt->jt->Sem jt}{g:Int->Int->Bool}
  (rule:∀(i j:Int)(t u:Tok)(s:jw)(Q:jt->jw->Prop)(E:jt->jw->Prop),Q (.bool (g i j)) s->jy (kg X.prog X.w) X.A (f (.int i t) (.int j u)) Q E s):
  OpR X f (rI0 λi j=> .bl (g i j)):=by
 intro kb s σ H x y v u Q I rx ry h;obtain⟨i,j,rfl,rfl,q⟩:=h;obtain⟨t,rfl⟩:=rx;obtain⟨t',rfl⟩:=ry;exact rule i j t t' s _ _ ⟨.bl (g i j),H,I,rfl,q⟩
noncomputable def A0g (i j:Int):Prop:=0<j/\j<1073741824
noncomputable def A6l (i j:Int):Prop:=0<=j/\j<=1000000/\i.natAbs<2^64
noncomputable def CMul (i j:Int):Prop:=(-(2^64)<i/\i<2^64)\/(-(2^64)<j/\j<2^64)
theorem CMul.ok (h:CMul i j):IntMulOk i j:=by
 rcases h with⟨h1,h2⟩| ⟨h1,h2⟩
 ·exact .of_left (intBits_le_64 h1 h2)
 ·exact .of_right (intBits_le_64 h1 h2)
theorem dG:OpR X (wo .Add) (rI0 λi j=> .int (i+j)):=uC λ_ _ _ _ _ _ _ q=>add_int q
theorem iI:OpR X (wo .Sub) (rI0 λi j=> .int (i - j)):=uC λ_ _ _ _ _ _ _ q=>sub_int q
theorem eQ:OpR X (wo .Mult) (rI CMul λi j=> .int (i*j)):=opI λ_ _ _ _ _ _ _ hc q=>mul_int q hc.ok
theorem pH:OpR X (wo .FloorDiv) (rI A0g λi j=> .int (i/j)):=opI λi j _ _ _ _ _ hc q=>by
 have h1:(0:Int)<j:=hc.1;have h2:j<1073741824:=hc.2;exact floordiv_int (by omega) (by rw[zm i (by omega)];exact q) (.inl (A9 (by omega)))
theorem kY:OpR X (wo .Mod) (rI (λ_ j=>0<j) λi j=> .int (i%j)):=opI λi j _ _ _ _ _ hc q=>by
 have h1:(0:Int)<j:=hc;exact mod_int' (by omega) (by rw[zo i (by omega)];exact q)
theorem A8a:OpR X (wo .Pow) (rI A6l λi j=> .int (i^j.toNat)):=opI λ_ _ _ _ _ _ _ hc q=>pow_int_small hc.1 hc.2.1 hc.2.2 q
theorem B30:OpR X (wo .BitAnd) (rI0 λi j=> .int (mq i j)):=uC λ_ _ _ _ _ _ _ q=>and_int q
theorem unI {f:jt->Sem jt}{g:Int->Int}
  (rule:∀(i:Int)(t:Tok)(s:jw)(Q:jt->jw->Prop)(E:jt->jw->Prop),Q (.int (g i) s.toks) {s with toks:=s.toks+1}->jy (kg X.prog X.w) X.A (f (.int i t)) Q E s):
  UnR X f (rU λi=> .int (g i)):=by
 intro kb s σ H x v Q I rx h;obtain⟨i,rfl,q⟩:=h;obtain⟨t,rfl⟩:=rx;exact rule i t s _ _ ⟨.int (g i),H,I.tok _,⟨_,rfl⟩,q⟩
theorem iA:UnR X (unaryOp .USub) (rU λi=> .int (-i)):=unI λ_ _ _ _ _ q=>neg_int q
end
noncomputable def scal:V->V->Bool
 | .non,.non=>true| .non,.int _=>true| .int _,.non=>true| .non,.bl _=>true| .bl _,.non=>true| .non,.str _=>true| .str _,.non=>true
 | .int _,.int _=>true| .bl _,.bl _=>true| .str _,.str _=>true| .byt _,.byt _=>true
 | .int _,.str _=>true| .str _,.int _=>true| .bl _,.str _=>true| .str _,.bl _=>true
 |_,_=>false
noncomputable def rEq:R2:=λx y H Q=>scal x y=true/\Q (.bl (decide (x=y))) H
noncomputable def rNe:R2:=λx y H Q=>scal x y=true/\Q (.bl (!decide (x=y))) H
theorem A2k:decide (V.int i=V.int j)=(i==j):=by rw[k6];simp
theorem xL:decide (V.bl i=V.bl j)=(i==j):=by rw[k6];simp
theorem vK:decide (V.str i=V.str j)=(i==j):=by rw[k6];simp
theorem yK:decide (V.byt i=V.byt j)=(i.toList==j.toList):=by rw[k6];cases i;cases j;simp
theorem bZ (I:Inv X kb σ H s)(q:Q (.bl k) H)(e:k=k'):EP X kb σ Q (.bool k') s:=by subst e;exact⟨.bl k,H,I,rfl,q⟩
theorem fN:OpR X (nv .Eq) rEq:=by
 intro kb s σ H x y v u Q I rx ry h;obtain⟨hs,q⟩:=h;cases x with
 |non=>
  cases rx;cases y with
  |non=>cases ry;exact PySem.EqNone.eq_none_none (bZ I q (by simp))
  |bl j=>cases ry;exact PySem.EqNone.eq_none_bool (bZ I q (by simp))
  |int j=>obtain⟨t',rfl⟩:=ry;exact PySem.EqNone.eq_none_int (bZ I q (by simp))
  |str j=>obtain⟨t',rfl⟩:=ry;exact PySem.EqNone.eq_none_str (bZ I q (by simp))
  |_=>exact absurd (show false=true from hs) ki
 |bl i=>
  cases rx;cases y with
  |non=>cases ry;exact PySem.EqNone.eq_bool_none (bZ I q (by simp))
  |bl j=>cases ry;exact eq_bool (bZ I q xL)
  |str j=>obtain⟨t',rfl⟩:=ry;exact PySem.EqMixed.eq_bool_str (bZ I q (by simp))
  |_=>exact absurd (show false=true from hs) ki
 |int i=>
  obtain⟨t,rfl⟩:=rx;cases y with
  |non=>cases ry;exact PySem.EqNone.eq_int_none (bZ I q (by simp))
  |int j=>obtain⟨t',rfl⟩:=ry;exact eq_int (bZ I q A2k)
  |str j=>obtain⟨t',rfl⟩:=ry;exact PySem.EqMixed.eq_int_str (bZ I q (by simp))
  |_=>exact absurd (show false=true from hs) ki
 |str i=>
  obtain⟨t,rfl⟩:=rx;cases y with
  |non=>cases ry;exact PySem.EqNone.eq_str_none (bZ I q (by simp))
  |bl j=>cases ry;exact PySem.EqMixed.eq_str_bool (bZ I q (by simp))
  |int j=>obtain⟨t',rfl⟩:=ry;exact PySem.EqMixed.eq_str_int (bZ I q (by simp))
  |str j=>obtain⟨t',rfl⟩:=ry;exact eq_str (bZ I q vK)
  |_=>exact absurd (show false=true from hs) ki
 |byt i=>
  obtain⟨t,rfl⟩:=rx;cases y with
  |byt j=>obtain⟨t',rfl⟩:=ry;exact W.eq_bytes (bZ I q yK)
  |_=>exact absurd (show false=true from hs) ki
 |_=>cases y<;>exact absurd (show false=true from hs) ki
theorem uM:OpR X (nv .NotEq) rNe:=by
 intro kb s σ H x y v u Q I rx ry h;obtain⟨hs,q⟩:=h;cases x with
 |non=>
  cases rx;cases y with
  |non=>cases ry;exact PySem.EqNone.ne_none_none (bZ I q (by simp))
  |bl j=>cases ry;exact PySem.EqNone.ne_none_bool (bZ I q (by simp))
  |int j=>obtain⟨t',rfl⟩:=ry;exact PySem.EqNone.ne_none_int (bZ I q (by simp))
  |str j=>obtain⟨t',rfl⟩:=ry;exact PySem.EqNone.ne_none_str (bZ I q (by simp))
  |_=>exact absurd (show false=true from hs) ki
 |bl i=>
  cases rx;cases y with
  |non=>cases ry;exact PySem.EqNone.ne_bool_none (bZ I q (by simp))
  |bl j=>cases ry;exact ne_bool (bZ I q (congrArg not xL))
  |str j=>obtain⟨t',rfl⟩:=ry;exact PySem.EqMixed.ne_bool_str (bZ I q (by simp))
  |_=>exact absurd (show false=true from hs) ki
 |int i=>
  obtain⟨t,rfl⟩:=rx;cases y with
  |non=>cases ry;exact PySem.EqNone.ne_int_none (bZ I q (by simp))
  |int j=>obtain⟨t',rfl⟩:=ry;exact ne_int (bZ I q (congrArg not A2k))
  |str j=>obtain⟨t',rfl⟩:=ry;exact PySem.EqMixed.ne_int_str (bZ I q (by simp))
  |_=>exact absurd (show false=true from hs) ki
 |str i=>
  obtain⟨t,rfl⟩:=rx;cases y with
  |non=>cases ry;exact PySem.EqNone.ne_str_none (bZ I q (by simp))
  |bl j=>cases ry;exact PySem.EqMixed.ne_str_bool (bZ I q (by simp))
  |int j=>obtain⟨t',rfl⟩:=ry;exact PySem.EqMixed.ne_str_int (bZ I q (by simp))
  |str j=>obtain⟨t',rfl⟩:=ry;exact ne_str (bZ I q (congrArg not vK))
  |_=>exact absurd (show false=true from hs) ki
 |byt i=>
  obtain⟨t,rfl⟩:=rx;cases y with
  |byt j=>obtain⟨t',rfl⟩:=ry;exact W.ne_bytes (bZ I q (congrArg not yK))
  |_=>exact absurd (show false=true from hs) ki
 |_=>cases y<;>exact absurd (show false=true from hs) ki
theorem oX:OpR X (nv .Lt) (rI0 λi j=> .bl (decide (i<j))):=oW λ_ _ _ _ _ _ _ q=>lt_int q
theorem jJ:OpR X (nv .LtE) (rI0 λi j=> .bl (decide (i<=j))):=oW λ_ _ _ _ _ _ _ q=>le_int q
theorem vY:OpR X (nv .Gt) (rI0 λi j=> .bl (decide (j<i))):=oW λ_ _ _ _ _ _ _ q=>gt_int q
theorem mP:OpR X (nv .GtE) (rI0 λi j=> .bl (decide (j<=i))):=oW λ_ _ _ _ _ _ _ q=>ge_int q
theorem B11:OpR X (nv .Is) (λx y H Q=>y= .non/\Q (.bl (decide (x= .non))) H):=by
 intro kb s σ H x y v u Q I rx ry h;obtain⟨rfl,q⟩:=h;cases ry;refine is_none_gen (bZ I q ?_);cases x<;>first
  | (cases rx;rfl)
  | (obtain⟨t,rfl⟩:=rx;rfl)
theorem nomark (b:om)(h:op≠ .In:=by decide)(h2:op≠ .NotIn:=by decide):yh op b=false:=by
 have e1:(op==CmpOp.In)=false:=by cases op<;>first|rfl|exact absurd rfl h
 have e2:(op==CmpOp.NotIn)=false:=by cases op<;>first|rfl|exact absurd rfl h2
 cases b<;>simp[yh,e1,e2]
theorem eX {op:CmpOp}{r:R2}(ho:OpR X (nv op) r)(ha:PE X a ta)(hb:PE X b tb)(hm:yh op b=false):PE X (.Compare a [op] [b] pos) (tOp r ta tb):=by intro kb s σ H Q I h;exact wpAny_Compare1 (rA ha hb I h λv u s2 x y H2 I2 rx ry q=>ho kb s2 σ H2 x y v u Q I2 rx ry q) hm
noncomputable def A4f (t:TE):TT:=λσ H Q=>t σ H λx H'=> ∃k,x= .bl k/\Q k H'
theorem cB (ho:OpR X (nv op) r)(ha:PE X a ta)(hb:PE X b tb)(hm:yh op b=false):PT X (.Compare a [op] [b] pos) (A4f (tOp r ta tb)):=by
 intro kb s σ H Q I h;refine Bt (thn (ha kb s σ H _ I h) λv s1 ⟨x,H1,I1,r1,q1⟩=>thn (hb kb s1 σ H1 _ I1 q1) λu s2 ⟨y,H2,I2,r2,q2⟩=>
  thn (ho kb s2 σ H2 x y v u _ I2 r1 r2 q2) λc s3 ⟨z,H3,I3,r3,k,e,q3⟩=> ?_) hm
 subst e;cases r3;exact oo ⟨H3,I3,q3⟩
noncomputable def A4h (r r':R2)(ta tb tc:TE):TE:=λσ H Q=>ta σ H λx H1=>tb σ H1 λy H2=>r x y H2 λz H3=> ∃k,z= .bl k/\
 (if k=true then tc σ H3 λw' H4=>r' y w' H4 Q else Q (.bl false) H3)
theorem tN (ho:OpR X (nv op) r)(ho':OpR X (nv op') r')(ha:PE X a ta)(hb:PE X b tb)(hc:PE X c tc)
  (hm:lastMarks [op,op'] [b,c]=false:=by with_unfolding_all rfl):PE X (.Compare a [op,op'] [b,c] pos) (A4h r r' ta tb tc):=by
 intro kb s σ H Q I h;refine Compare_chain (thn (ha kb s σ H _ I h) λv s1 ⟨x,H1,I1,r1,q1⟩=>chain_link (thn (hb kb s1 σ H1 _ I1 q1) λu s2 ⟨y,H2,I2,r2,q2⟩=>
  thn (ho kb s2 σ H2 x y v u _ I2 r1 r2 q2) λd s3 ⟨z,H3,I3,r3,k,e,q3⟩=> ?_)) hm
 subst e;cases r3;refine oo ?_;cases k with
 |false=>exact ite_ff ⟨.bl false,H3,I3,rfl,q3⟩
 |true=>exact ite_tt (chain_last (thn (hc kb s3 σ H3 _ I3 q3) λw' s4 ⟨z',H4,I4,r4,q4⟩=>ho' kb s4 σ H4 y z' u w' Q I4 r2 r4 q4))
theorem oE:(jv:Nat)<2^63:=by rw[ko];decide
theorem dR (r:Vals [x] us):∃u,us=[u]/\RelV x u:=by
 cases r with
 |cons r1 r2=>cases r2;exact⟨_,rfl,r1⟩
theorem jT (r:Vals [x,y] us):∃u w',us=[u,w']/\RelV x u/\RelV y w':=by
 cases r with
 |cons r1 r2=>
  cases r2 with
  |cons r3 r4=>cases r4;exact⟨_,_,rfl,r1,r3⟩
theorem pG:cV X (.builtin "abs") (λxs H Q=> ∃i,xs=[.int i]/\Q (.int (if i<0 then -i else i)) H):=by intro kb s σ H xs us Q I r h;obtain⟨i,rfl,q⟩:=h;obtain⟨u,rfl,t,rfl⟩:=dR r;exact call_abs_int λu tk=> ⟨.int (if i<0 then -i else i),H,I.tok _,⟨_,rfl⟩,q⟩
theorem sJ:cV X (.type "int") (λxs H Q=>(∃i,xs=[.int i]/\Q (.int i) H)\/ ∃k,xs=[.bl k]/\Q (.int (if k then 1 else 0)) H):=by
 intro kb s σ H xs us Q I r h;rcases h with⟨i,rfl,q⟩| ⟨k,rfl,q⟩
 ·obtain⟨u,rfl,t,rfl⟩:=dR r;exact call_int_int ⟨.int i,H,I,⟨_,rfl⟩,q⟩
 ·obtain⟨u,rfl,r1⟩:=dR r;cases r1;exact call_int_bool ⟨.int (if k then 1 else 0),H,I.tok _,⟨_,rfl⟩,q⟩
theorem B3i:cV X (.builtin "divmod") (λxs H Q=> ∃i j,xs=[.int i,.int j]/\A0g i j/\∀p,H p=none->Q (.ref p) (upd H p (.tup [.int (i/j),.int (i%j)]))):=by intro kb s σ H xs us Q I r h;obtain⟨i,j,rfl,⟨h1,h2⟩,q⟩:=h;obtain⟨u,w',rfl,⟨t,rfl⟩,⟨t',rfl⟩⟩:=jT r;refine divmod_int (by omega) ?_ (.inl (A9 (by omega)));rw[zm i (by omega),zo i (by omega)];have hn:H s.heap.objs.size=none:=I.hok.fresh (CT _);refine⟨.ref s.heap.objs.size,_,?_,rfl,q _ hn⟩;refine I.laid (λb o e=>CK _ e) (CT _) ⟨by simp only[c9,dk];rw[ko];decide,[.int (i/j) s.toks,.int (i%j) (s.toks+1)],.cons ⟨_,rfl⟩ (.cons ⟨_,rfl⟩ .nil),?_⟩;exact⟨_,iy s.heap rfl,rfl,0,rfl⟩
structure ObjM (h:kj)(x dx C:ju)(mA:Str->Option jt):Prop where
 obj:h.get? x=some (W.instObj C dx)
 ns:h.Ns1 dx mA
 ne:dx≠x
theorem B1i {h:kj}{dx:ju}{mA:Str->Option jt}(n:h.Ns1 dx mA):∃od,h.get? dx=some od/\∀name,W.lookIn name od=some (mA name):=by
 obtain⟨o,es,ep,ho,hd,hk,_,hm⟩:=n;refine⟨o,ho,λname=> ?_⟩;have e:=hm name;unfold nsFind findBy at e;rw[←Array.find?_toList]at e;unfold W.lookIn;rw[hd];dsimp only
 split
 ·rename_i y q;rw[q]at e;exact congrArg some e
 ·rename_i q;rw[q]at e;have a:es.toList.any (·.refKey)=false:=by
   rw[ag];intro y hy;obtain⟨z,t,hkey⟩:=hk y (Array.mem_toList_iff.mp hy);simp[wc.refKey,hkey]
  have a':¬es.toList.any (·.refKey)=true:=by rw[a];exact ki
  rw[if_neg a'];exact congrArg some e
theorem ObjM.look (I:ObjM h x dx C mA):∃od,W.InstAt h x (W.instObj C dx) C (some od)/\∀name,W.lookIn name od=some (mA name):=
 let ⟨od,ho,hl⟩:=B1i I.ns
 ⟨od,⟨I.obj,rfl,rfl,ho⟩,hl⟩
noncomputable def fL (f:Str)(v:V):List (Str×V)->List (Str×V)
 | []=> [(f,v)]
 | (g,x)::r=>if g=f then(g,v)::r else(g,x)::fL f v r
theorem RelO.some_of (r:RelO (some v) o):∃u,o=some u/\RelV v u:=by
 cases o with
 |none=>exact(show False from r).elim
 |some u=>exact⟨u,rfl,r⟩
theorem B41 (hok:CU P w H h)(e:H a=some (.ins C dx fs)):∃mA,ObjM h a dx C mA/\(∀f,RelO (fs.lookup f) (mA f))/\PySem.Within mA (fs.map (·.1))/\fs.length<=1000/\H dx=some (.own a):=by obtain⟨d,z,ne,ob,mA,n,r,q⟩:=(show ObjOk P w H h a (.ins C dx fs)from hok a _ e);exact⟨mA,⟨ob,n,ne⟩,r,q,z,d⟩
structure Cls (K:W.Frag)(C:ju):Prop where
 pg:W.plainGet K C Str.empty=true
 hd:W.hasDictIn K C=true
 po:W.plainOver K C=true
 sa:W.findIn K (.ref C) "__setattr__" =some (some (.builtin "object.__setattr__"))
theorem Cls.get {K:W.Frag}{C:ju}(c:Cls K C)(f:Str):W.plainGet K C f=true:=c.pg
inductive TyOf (K:W.Frag) (H:Hp):V->jt->Prop where
 |non:TyOf K H .non (.type "NoneType")
 |bl (x:Bool):TyOf K H (.bl x) (.type "bool")
 |int (i:Int):TyOf K H (.int i) (.type "int")
 |str (x:Str):TyOf K H (.str x) (.type "str")
 |flt (x:UInt64):TyOf K H (.flt x) (.type "float")
 |lst {a:ju} {xs:List V} (e:H a=some (.lst xs)):TyOf K H (.ref a) (.type "list")
 |frz {a:ju} {o:Obj} {xs:List V} (e:H a=some (.frz o (.lst xs))):TyOf K H (.ref a) (.type "list")
 |tup {a:ju} {xs:List V} (e:H a=some (.tup xs)):TyOf K H (.ref a) (.type "tuple")
 |dK {a:ju} {kvs:List (Key×V)} (e:H a=some (.dK kvs)):TyOf K H (.ref a) (.type "dict")
 |dT {a:ju} {kvs:List (List Key×V)} (e:H a=some (.dT kvs)):TyOf K H (.ref a) (.type "dict")
 |ins {a C dx:ju} {fs:List (Str×V)} (e:H a=some (.ins C dx fs)) (cl:Cls K C) (ha:W.findIn K (.ref C) "__class__" =some (some (.builtin "object.__class__")))
   (hn:W.specialIn K (.builtin "object.__class__") "__get__" =some (some (.builtin "getset_descriptor.__get__"))) (htk:W.takesIn K (.builtin "object.__class__")=some true)
   (hm:W.mroIn K C (.type "object")=some true):TyOf K H (.ref a) (.ref C)
theorem A22 (I:Inv X kb σ H s)(rx:RelV x u)(ty:TyOf X.K H x t):∃P,W.KitX X.K u t P/\P s.heap/\u≠ .builtin "__main__.__loader__#opaque":=by
 cases ty with
 |non=>cases (show u=ke from rx);exact⟨_,W.kitx_none,p6,(λz=>nomatch z)⟩
 |bl y=>cases (show u=rj y from rx);exact⟨_,W.kitx_bool,p6,(λz=>nomatch z)⟩
 |int i=>obtain⟨t,q⟩:=(show∃t,u=sv i t from rx);cases q;exact⟨_,W.kitx_int,p6,(λz=>nomatch z)⟩
 |str y=>obtain⟨t,q⟩:=(show∃t,u=AE y t from rx);cases q;exact⟨_,W.kitx_str,p6,(λz=>nomatch z)⟩
 |flt y=>obtain⟨t,q⟩:=(show∃t,u=jt.float y t from rx);cases q;exact⟨_,W.kitx_float,p6,(λz=>nomatch z)⟩
 | @lst a xs ea=>
  cases (show u=jx a from rx);obtain⟨_,_,n,_,h1⟩:=(show ObjOk X.prog X.w H s.heap a (.lst xs)from I.hok a _ ea);exact⟨_,W.kitx_list,⟨_,h1,rfl⟩,(λz=>nomatch z)⟩
 | @frz a ob xs ea=>
  cases (show u=jx a from rx);obtain⟨_,_,_,n,_,h1⟩:=(show ObjOk X.prog X.w H s.heap a (.frz ob (.lst xs))from I.hok a _ ea);exact⟨_,W.kitx_list,⟨_,h1,rfl⟩,(λz=>nomatch z)⟩
 | @tup a xs ea=>
  cases (show u=jx a from rx);obtain⟨_,_,_,p⟩:=(show ObjOk X.prog X.w H s.heap a (.tup xs)from I.hok a _ ea);obtain⟨o,h1,h2,_⟩:=p;exact⟨_,W.kitx_tuple,⟨o,h1,h2⟩,(λz=>nomatch z)⟩
 | @dK a kvs ea=>
  cases (show u=jx a from rx);obtain⟨_,_,vs,_,p⟩:=(show ObjOk X.prog X.w H s.heap a (.dK kvs)from I.hok a _ ea);obtain⟨o,es,ep,h1,h2,_⟩:=p;exact⟨_,W.kitx_dict,⟨o,h1,h2.1⟩,(λz=>nomatch z)⟩
 | @dT a kvs ea=>
  cases (show u=jx a from rx);obtain⟨_,_,xs,_,o,es,ep,h1,h2,_⟩:=(show ObjOk X.prog X.w H s.heap a (.dT kvs)from I.hok a _ ea);exact⟨_,W.kitx_dict,⟨o,h1,h2.1⟩,(λz=>nomatch z)⟩
 | @ins a C dx fs ea cl ha hn htk hm=>
  cases (show u=jx a from rx);obtain⟨mA,O,_⟩:=B41 I.hok ea;obtain⟨od,J,_⟩:=O.look;exact⟨_,(W.kitx_own (cl.get _) cl.hd ha hn htk hm),J,(λz=>nomatch z)⟩
theorem A8w (I:Inv X kb σ H s)(rx:RelV x u)(ty:TyOf X.K H x t)(e:W.kitOne X.K t c=some b)(h:∀tk,Q (.bool b) {s with toks:=tk}):
  jy (kg X.prog X.w) A (call (.builtin "isinstance") [u,c]) Q E s:=
 let ⟨_,z,p,n⟩:=A22 I rx ty
 W.kia_one z I.kIn p e n h
structure Room (k:Nat)(A:mh):Prop where
 hd:A.handled=none
 dp:A.depth+3*k+5<recursionLimit
 un:A.units+16*k+200<nj
 gd:A.guards=some []
theorem Room.mono (r:Room k A)(h:j<=k):Room j A:=⟨r.hd,by have:=r.dp;omega,by have:=r.un;omega,r.gd⟩
theorem Room.deeper (r:Room (k+1) A)(env:Env):Room k (A.deeper env):=
 ⟨r.hd,by have:=r.dp;show A.depth+1+3*k+5<_;omega,by have:=r.un;show A.units+3+16*k+200<_;omega,r.gd⟩
theorem Room.depth (r:Room k A):A.depth<recursionLimit:=by have:=r.dp;omega
theorem Room.units (r:Room k A):A.units+64<nj:=by have:=r.un;omega
noncomputable def iJ:TA:=λ_ H Q=>Q [] H
noncomputable def bX (ta:TE)(tr:TA):TA:=λσ H Q=>ta σ H λx H1=>tr σ H1 λxs H2=>Q (x::xs) H2
theorem aB:PA X [] iJ:=λ_ _ _ _ H Q I h=>xt ⟨[],H,I,.nil,h⟩
theorem bA (ha:PE X e te)(hr:PA X es t)(hs:ni (e::es) X.env=(false,sf e X.env)::ni es X.env:=by rfl):PA X (e::es) (bX te t):=by intro pos kb s σ H Q I h;rw[hs];show jy _ _ (spliced ((false,sf e X.env)::As pos (ni es X.env))) _ _ s;refine rm (thn (ha kb s σ H _ I h) λu s1 ⟨x,H1,I1,r1,q1⟩=> ?_);exact thn (hr pos kb s1 σ H1 _ I1 q1) λus s2 ⟨xs,H2,I2,r2,q2⟩=> ⟨x::xs,H2,I2,.cons r1 r2,q2⟩
noncomputable def jW (t:TA):TE:=λσ H Q=>t σ H λxs H1=>xs.length<=jv/\∀p,H1 p=none->Q (.ref p) (upd H1 p (.tup xs))
noncomputable def rG (t:TA):TE:=λσ H Q=>t σ H λxs H1=>xs.length<=jv/\∀p,H1 p=none->Q (.ref p) (upd H1 p (.lst xs))
theorem bT (h:PA X es t):PE X (.Tuple es x1 pos) (jW t):=by intro kb s σ H Q I hq;refine wpAny_Tuple_spliced (thn (h pos kb s σ H _ I hq) λus s1 ⟨xs,H1,I1,r,z,q⟩=> ⟨by rw[←r.length];exact z,?_⟩);have hf:H1 s1.heap.objs.size=none:=I1.hok.fresh (CT _);refine⟨.ref s1.heap.objs.size,upd H1 s1.heap.objs.size (.tup xs),I1.laid (t':=s1.toks) (λb u e=>CK _ e) (CT _) ?_,rfl,q _ hf⟩;exact⟨z,us,r,⟨_,iy _ rfl,rfl,_,rfl⟩⟩
theorem cZ (h:PA X es t):PE X (.List es pos) (rG t):=by intro kb s σ H Q I hq;refine wpAny_List_spliced (thn (h pos kb s σ H _ I hq) λus s1 ⟨xs,H1,I1,r,z,q⟩=> ⟨by rw[←r.length];exact z,?_⟩);have hf:H1 s1.heap.objs.size=none:=I1.hok.fresh (CT _);refine⟨.ref s1.heap.objs.size,upd H1 s1.heap.objs.size (.lst xs),I1.laid (t':=s1.toks) (λb u e=>CK _ e) (CT _) ?_,rfl,q _ hf⟩;exact⟨z,us,0,r,iy _ rfl⟩
noncomputable abbrev Sp:=List V->Hp->VK->XK->Prop
noncomputable abbrev CXT:=List Env->Hp->jw->XK->jt->jw->Prop
structure oU (P:j9)(w:kl)(K:W.Frag)(mg:Str->Option jt)(base:kj)(A:mh)(outer:List Env)(s:jw)(H:Hp):Prop where
 frames:A.frames=some outer
 mod:Mod K mg base
 bs:∀b o,base.get? b=some o->s.heap.get? b=some o/\H b=none
 bsz:base.objs.size<=s.heap.objs.size
 funs:s.heap.FunFrames base outer
 frf:∀b∈frs outer,H b=none
 hok:CU P w H s.heap
 bare:Aj s.gens
noncomputable def CE (outer:List Env)(P:j9)(w:kl)(H:Hp)(s:jw)(Q:VK)(u:jt)(s':jw):Prop:=
 ∃v H',s'.os=s.os/\Aj s'.gens/\Un (frs outer) [] H H' s.heap s'.heap/\CU P w H' s'.heap/\RelV v u/\Q v H'
noncomputable def CR (CX:CXT)(outer:List Env)(P:j9)(w:kl)(H:Hp)(s:jw)(Q:VK)(E:XK)(r:Result)(s':jw):Prop:=
 match r with
 | .ok (.ret u)=>CE outer P w H s Q u s'
 | .ok _=>False
 | .error e=>CX outer H s E e s'
structure FnOk (P:j9)(w:kl)(K:W.Frag)(mg:Str->Option jt)(base:kj)(CX:CXT)(k:Nat)(f:ju)(fd:tm)(ps:List Str)(sp:Sp):Prop where
 len:∀vs H Q E,sp vs H Q E->vs.length=ps.length
 run:∀(A:mh)(outer:List Env)(s:jw)(H:Hp)(args:Args)(us:List jt)(vs:List V)(Q:VK)(E:XK),Room k A->oU P w K mg base A outer s H->BS s fd args (ps.zip us)->Vals vs us->sp vs H Q E->
  tq (kg P w) A (.call (.ref f) args) (CR CX outer P w H s Q E) s
theorem FnOk.imp {P:j9}{w:kl}{K:W.Frag}{mg:Str->Option jt}{base:kj}{CX:CXT}{k:Nat}{f:ju}{fd:tm}{ps:List Str}{sp sp':Sp}(F:FnOk P w K mg base CX k f fd ps sp)
  (h:∀vs H Q E,sp' vs H Q E->sp vs H Q E):FnOk P w K mg base CX k f fd ps sp':=
 ⟨λvs H Q E q=>F.len vs H Q E (h _ _ _ _ q),λA outer s H args us vs Q E hr he hb hv hs=>F.run A outer s H args us vs Q E hr he hb hv (h _ _ _ _ hs)⟩
theorem Inv.env0 (I:Inv X kb σ H s):oU X.prog X.w X.K X.mg X.base X.A X.stack s H:=
 ⟨I.ok.frames,I.ok.mod,I.bs,jd I.ok.bsz I.sz,I.stack,I.stkFree,I.hok,I.bare⟩
theorem Inv.after (I:Inv X kb σ H s)(h:CE X.stack X.prog X.w H s Q u s'):EP X kb σ Q u s':=by obtain⟨v,H',os,bare,un,hok,r,q⟩:=h;obtain⟨hh,g,d,t,os'⟩:=s';obtain rfl:os'=s.os:=os;exact⟨v,H',I.call (h':=hh) (g':=g) (d':=d) (t':=t) (ch:=[]) un hok bare (λb z=>absurd z (by simp)),r,q⟩
noncomputable def rP (sp:Sp)(dvs:List V)(E:XK)(t:TA):TE:=λσ H Q=>t σ H λvs H1=>sp (vs++dvs) H1 Q E
noncomputable def Binds (K:W.Frag)(fd:tm)(ps:List Str)(ds:List jt):Prop:=
 ∀(s:jw)(us:List jt),K.In s.heap->(us++ds).length=ps.length->BS s fd ⟨us,[]⟩ (ps.zip (us++ds))
theorem Binds.all {K:W.Frag}{fd:tm}{ps:List Str}(h:∀us:List jt,us.length=ps.length->bindArgs fd ⟨us,[]⟩=pure (ps.zip us)):Binds K fd ps []:=λs us _ hl=>by
 rw[ak]at hl⊢;exact .of_eq (h us hl)
noncomputable def qX (CX:CXT)(X:Cx)(E:XK):Prop:=∀(kb:List (ju×Obj))(σ:St)(H:Hp)(s:jw)(e:jt)(s':jw),Inv X kb σ H s->CX X.stack H s E e s'->X.xe e s'
theorem A7l (F:FnOk X.prog X.w X.K X.mg X.base CX k f fd ps sp)(hr:Room k X.A)(hb:Binds X.K fd ps ds)(hd:Vals dvs ds)(hx:qX CX X E)
  (I:Inv X kb σ H s)(r:Vals vs us)(h:sp (vs++dvs) H Q E):jy (kg X.prog X.w) X.A (call (.ref f) us) (EP X kb σ Q) X.xe s:=by
 have r2:Vals (vs++dvs) (us++ds):=r.append hd;have hl:(us++ds).length=ps.length:=by rw[←r2.length];exact F.len _ _ _ _ h
 refine wpAny_call (qg (F.run X.A X.stack s H ⟨us,[]⟩ (us++ds) (vs++dvs) Q E hr I.env0 (hb s us I.kIn hl) r2 h) λr s' hq=> ?_);cases r with
 |error e=>exact hx kb σ H s e s' I hq
 |ok fl=>
  cases fl with
  |ret u=>exact I.after hq
  |next=>exact uw hq
  |brk=>exact uw hq
  |cont=>exact uw hq
theorem vR (F:FnOk X.prog X.w X.K X.mg X.base CX k f fd ps sp)(hr:Room k X.A)(hg:Gl X x)(hm:X.mg x=some (.ref f))(hk:W.keepIn X.K (.ref f)=true)(hb:Binds X.K fd ps ds)(hd:Vals dvs ds)(hx:qX CX X E)
  (ha:PA X (e::es) t)(hdb:(x==("__debug__":Str))=false:=by decide)(he:ni (e::es) X.env=(false,sf e X.env)::ni es X.env:=by rfl)(hpl:(As pos (ni es X.env)).any (·.1)=false:=by rfl):
  PE X (.Call (.Name x p) (e::es) [] pos) (rP sp dvs E t):=by
 intro kb s σ H Q I h;refine va (A0i I hg hm ?_ hdb);refine W.callWith_K (h₀:=X.base) I.ok.mod.kin hk (thn (ha pos kb s σ H _ I h) λus s1 ⟨vs,H1,I1,r,q⟩=> ⟨I1.kIn,?_⟩) he hpl;exact A7l F hr hb hd hx I1 r q
structure gD (N P:List Str)(sc:yk):Prop where
 kind:sc.kind= .function
 co:sc.isCoroutine=false
 gen:sc.isGenerator=false
 nd:N.Nodup
 pre:N.take P.length=P
 par:∀x∈P,sc.names.lookup x=some .local\/sc.names.lookup x=some .cell
 nofree:∀y∈sc.names,y.2≠ .free
theorem A2v {qp:Str->Option k7}{x:Str}:∀{binds:List (Str×jt)}{m:Str->Option jt},(∀v,(x,v)∉binds)->bindL qp binds m x=m x
 | [],_,_=>rfl
 | (n,v)::r,m,h=>by
  unfold bindL;rw[A2v λw hw=>h w (CP _ hw)]
  split
  ·have:x≠n:=by rintro rfl;exact h v CQ
   simp[this]
  ·rfl
theorem A1h {qp:Str->Option k7}{x:Str}:∀{binds:List (Str×jt)}{m:Str->Option jt},(∀v,(x,v)∉binds)->bindC qp binds m x=m x
 | [],_,_=>rfl
 | (n,v)::r,m,h=>by
  unfold bindC;rw[A1h λw hw=>h w (CP _ hw)]
  split
  ·rfl
  ·have:x≠n:=by rintro rfl;exact h v CQ
   simp[this]
theorem A1f {qp:Str->Option k7}{x:Str}{v:jt}:∀{P:List Str}{vs:List jt}{i:Nat}{m:Str->Option jt},P.Nodup->P[i]?=some x->vs[i]?=some v->qp x=some .local->
  bindL qp (P.zip vs) m x=some v
 | [],_,_,_,_,h,_,_=>by simp at h
 |_::_,[],_,_,_,_,h,_=>by simp at h
 |p::P,w::vs,0,m,nd,h1,h2,hk=>by
  simp at h1 h2;subst h1;subst h2;show bindL qp ((p,w)::P.zip vs) m p=_;unfold bindL;rw[A2v λv hv=>(f9.mp nd).1 (gj hv).1,if_pos hk];simp
 |p::P,w::vs,i+1,m,nd,h1,h2,hk=>by
  show bindL qp ((p,w)::P.zip vs) m x=_;unfold bindL;exact A1f (i:=i) (f9.mp nd).2 (by simpa using h1) (by simpa using h2) hk
theorem yN {qp:Str->Option k7}{x:Str}{v:jt}:∀{P:List Str}{vs:List jt}{i:Nat}{m:Str->Option jt},P.Nodup->P[i]?=some x->vs[i]?=some v->qp x≠some .local->
  bindC qp (P.zip vs) m x=some v
 | [],_,_,_,_,h,_,_=>by simp at h
 |_::_,[],_,_,_,_,h,_=>by simp at h
 |p::P,w::vs,0,m,nd,h1,h2,hk=>by
  simp at h1 h2;subst h1;subst h2;show bindC qp ((p,w)::P.zip vs) m p=_;unfold bindC;rw[A1h λv hv=>(f9.mp nd).1 (gj hv).1,if_neg hk];simp
 |p::P,w::vs,i+1,m,nd,h1,h2,hk=>by
  show bindC qp ((p,w)::P.zip vs) m x=_;unfold bindC;exact yN (i:=i) (f9.mp nd).2 (by simpa using h1) (by simpa using h2) hk
noncomputable def start (N:List Str)(vs:List V):St:=vs.map some++List.replicate (N.length - vs.length) none
noncomputable def fK (CX:CXT)(P:j9)(w:kl)(K:W.Frag)(mg:Str->Option jt)(base:kj)(N:List Str)(qual:Str)(scope:yk)(f:ju)(cd:jt)(A:mh)(outer:List Env)(s:jw)(H:Hp)(E:XK):Cx where
 prog:=P
 w:=w
 K:=K
 mg:=mg
 base:=base
 A:=A.deeper (zq qual scope s.heap.objs.size f cd)
 N:=N
 s₀:=s
 H₀:=H
 env:=zq qual scope s.heap.objs.size f cd
 outer:=outer
 stack:=zq qual scope s.heap.objs.size f cd::outer
 ex:=[]
 calm:=true
 fn:=λ_=>true
 pn:=[]
 xe:=λe s'=>jy (kg P w) (A.deeper (zq qual scope s.heap.objs.size f cd)) (leaving (zq qual scope s.heap.objs.size f cd) e) (λ_ s''=>CX outer H s E e s'') (λe' s''=>CX outer H s E e' s'') s'
theorem A1a {sc:yk}{n:Nat}{x:Str}(h:sc.names.lookup x=some .cell):∃c,(p9 n sc.names []).lookup x=some c:=by have q:=W.cellsFrom_some sc.names n [] (.inl h);exact qh.mp q
theorem B0k {CX:CXT}{P:j9}{w:kl}{K:W.Frag}{mg:Str->Option jt}{base:kj}{N ps:List Str}{qual:Str}{scope:yk}{f:ju}{cd:jt}{A:mh}{outer:List Env}{s s1:jw}{H:Hp}{E:XK}{us:List jt}{vs:List V}
  (S:gD N ps scope)(hd:A.handled=none)(e0:oU P w K mg base A outer s H)(hl:vs.length=ps.length)(r:Vals vs us)
  (x:InCallC s s.heap.objs.size (bindL (zq qual scope s.heap.objs.size f cd).kindOf (ps.zip us) λ_=>none) (p9 (s.heap.objs.size+1) scope.names []) (bindC (zq qual scope s.heap.objs.size f cd).kindOf (ps.zip us) λ_=>none) s1):
  Inv (fK CX P w K mg base N qual scope f cd A outer s H E) [] (start N vs) H s1:=by
 have hpl:ps.length<=N.length:=by have:=congrArg pk S.pre;rw[du]at this;omega
 obtain⟨h1,tk,rfl,hk⟩:=x.done;have noA:∀b:ju,b∉(fK CX P w K mg base N qual scope f cd A outer s H E).ex:=λb z=>absurd (show b∈([]:List ju)from z) (by simp);refine⟨⟨e0.mod,S.kind,rfl,rfl,CT _,λy z c h1 h2=> ?_,λy hy=> ?_,λy c _ h=> ?_,λ_=>hd,mh.frames_deeper e0.frames,.inr ⟨rfl,rfl⟩,λb z=>absurd z (noA b),e0.bs,e0.bsz,λb _ _=>noA b,λb z=>absurd z (noA b),e0.funs,e0.frf⟩,
  rfl,e0.bare,Un.kept hk,⟨_,x.toInCall.ns,λi y v h1 h2 h3=> ?_⟩,λy c h=> ⟨_,x.cell y c h⟩,e0.hok.fresh (CT _),λy c h=> ?_,λp hp=>absurd (show p∈([]:List (ju×Obj))from hp) (by simp),e0.hok.kept hk,?_⟩
 ·exact name_of_addr x.apart (oh h1) (oh h2)
 ·have hy:scope.names.lookup y=some .cell\/scope.names.lookup y=some .free:=hy;rcases hy with hy|hy
  ·exact A1a hy
  ·exact absurd rfl (S.nofree _ (oh hy))
 ·exact jb (x.above y c (oh h))
 ·have hi:i<vs.length:=by
   unfold start at h2;by_cases hi:i<vs.length
   ·exact hi
   ·rw[cq (by simpa using hi)]at h2;rw[AF]at h2
    split at h2<;>cases h2
  have ha:vs[i]?=some v:=by
   unfold start at h2;rw[cp (by simpa using hi),cy]at h2;cases e:vs[i]? with
   |none=>rw[e]at h2;cases h2
   |some a=>rw[e]at h2;cases h2;rfl
  obtain⟨u,hu,rv⟩:=r.get ha;have hp:ps[i]?=some y:=by
   rw[←S.pre,uc (by omega)];exact h1
  have ndP:ps.Nodup:=by rw[←S.pre];exact S.nd.sublist (ir _ _)
  refine⟨u,rv,?_⟩;rcases S.par y (fq hp)with k|k
  ·exact .inl ⟨k,A1f ndP hp hu k⟩
  ·obtain⟨c,e⟩:=A1a (n:=s.heap.objs.size+1) k;refine .inr ⟨.inl k,c,e,?_⟩;have q:=x.cell y c e;rw[yN ndP hp hu (by show scope.names.lookup y≠_;rw[k];decide)]at q;exact q
 ·exact e0.hok.fresh (jb (x.above y c (oh h)))
 ·unfold start;show _=N.length;rw[c8,di,Bv];omega
theorem A4b {CX:CXT}{P:j9}{w:kl}{K:W.Frag}{mg:Str->Option jt}{base:kj}{k:Nat}{f:ju}{name qual:Str}{params:Arguments}{body:List mw}{scope:yk}{dV kV doc pm cdv ct oc:jt}{an od:Option ju}
  {osl:Array (Option jt)}{N ps:List Str}{sp:Sp}(lk:K.lookup f=some ⟨oc,od,.func (W.fnOf name qual params body scope dV kV doc pm an cdv ct),osl⟩)(hcd:W.codeIn K cdv qual=true)(S:gD N ps scope)
  (len:∀vs H Q E,sp vs H Q E->vs.length=ps.length)
  (hbody:∀(A:mh)(outer:List Env)(s:jw)(H:Hp)(vs:List V)(Q:VK)(E:XK),Room k (A.deeper (zq qual scope s.heap.objs.size f cdv))->sp vs H Q E->
   ∃t,CV (fK CX P w K mg base N qual scope f cdv A outer s H E) body t/\t {nx:=λ_ H'=>Q .non H',rt:=Q} (start N vs) H):
  FnOk P w K mg base CX (k+1) f (W.fnOf name qual params body scope dV kV doc pm an cdv ct) ps sp:=by
 refine⟨len,λA outer s H args us vs Q E hr e0 hb r hsp=> ?_⟩;have hl:=len _ _ _ _ hsp;have KX:K.In s.heap:=e0.mod.kin.keeps λb o e=>(e0.bs b o e).1;have lim:s.heap.NoLimit:=e0.mod.nolimit.keeps λb o e=>(e0.bs b o e).1;have hkind:∀y∈ps.zip us,scope.names.lookup y.1=some .local\/(scope.names.lookup y.1=some .cell/\((p9 (s.heap.objs.size+1) scope.names []).lookup y.1).isSome=true):=λ⟨n,v⟩ hy=>by
  rcases S.par n (gj hy).1 with q|q
  ·exact .inl q
  ·exact .inr ⟨q,W.cellsFrom_some _ _ _ (.inl q)⟩
 refine codeAny_call_function hr.depth (KX _ _ lk) rfl S.co S.gen rfl (W.codeRec_of KX hcd) (hb _ _ _ _ ?_);refine wpAny_newFunctionEnv_cells S.kind hkind λenv he s1 x=> ?_;subst he;refine⟨lim.keeps x.toInCall.keep,codeAny_func ?_⟩;obtain⟨t,ht,hq⟩:=hbody A outer s H vs Q E (hr.deeper _) hsp;have I:Inv (fK CX P w K mg base N qual scope f cdv A outer s H E) [] (start N vs) H s1:=B0k S hr.hd e0 hl r x;refine rl (ht [] s1 (start N vs) H _ I hq) (λfl s' hs=> ?_) λe s' hs=>hs;have fin:∀{σ':St}{H':Hp}{v:V}{u:jt},Inv (fK CX P w K mg base N qual scope f cdv A outer s H E) [] σ' H' s'->RelV v u->Q v H'->CE outer P w H s Q u s':=
  fun{σ' H' v u} J rv q=> ⟨v,H',J.os,J.bare,J.base,J.hok,rv,q⟩
 cases fl with
 |ret u=>
  obtain⟨v,σ',H',J,rv,q⟩:=hs;exact fin J rv q
 |next=>
  obtain⟨σ',H',J,q⟩:=hs;exact fin (v:=V.non) (u:=ke) J rfl q
 |brk=>
  obtain⟨_,_,_,q⟩:=hs;exact uw q
 |cont=>
  obtain⟨_,_,_,q⟩:=hs;exact uw q
section
variable {X:Cx}{x:Str}{p pos:Pos}{e:om}{es:List om}{t:TA}{id T:String}{r:List V->Hp->VK->Prop}
noncomputable def tCB (r:List V->Hp->VK->Prop)(t:TA):TE:=λσ H Q=>t σ H λvs H1=>r vs H1 Q
theorem bD (hc:cV X (.builtin id) r)(hg:Gl X x)(hm:X.mg x=none)(hv:qu x=some (.builtin id))(ha:PA X (e::es) t)(hn:x≠ "__name__":=by decide)(hdb:(x==("__debug__":Str))=false:=by decide)
  (he:ni (e::es) X.env=(false,sf e X.env)::ni es X.env:=by rfl)(hpl:(As pos (ni es X.env)).any (·.1)=false:=by rfl):PE X (.Call (.Name x p) (e::es) [] pos) (tCB r t):=by
 intro kb s σ H Q I h;refine va (iE I hg hm hv ?_ hn hdb);exact PyProof.Rows.callWith_builtin1 (thn (ha pos kb s σ H _ I h) λus s1 ⟨vs,H1,I1,r1,q1⟩=>hc kb s1 σ H1 vs us Q I1 r1 q1) he hpl
theorem eP (hc:cV X (.type T) r)(hg:Gl X x)(hm:X.mg x=none)(hv:qu x=some (.type T))(ha:PA X (e::es) t)(hn:x≠ "__name__":=by decide)(hdb:(x==("__debug__":Str))=false:=by decide)
  (he:ni (e::es) X.env=(false,sf e X.env)::ni es X.env:=by rfl)(hpl:(As pos (ni es X.env)).any (·.1)=false:=by rfl):PE X (.Call (.Name x p) (e::es) [] pos) (tCB r t):=by
 intro kb s σ H Q I h;refine va (iE I hg hm hv ?_ hn hdb);exact ot (thn (ha pos kb s σ H _ I h) λus s1 ⟨vs,H1,I1,r1,q1⟩=>hc kb s1 σ H1 vs us Q I1 r1 q1) he hpl
end
end L2
namespace HT
open PySem PyProof.Rows
noncomputable def lexLt:List Int->List Int->Bool
 | [],[]=>false
 | [],_::_=>true
 |_::_,[]=>false
 |x::xs,y::ys=>if x=y then lexLt xs ys else decide (x<y)
theorem lexLt_cons (x y:Int)(xs ys:List Int):lexLt (x::xs) (y::ys)=if x=y then lexLt xs ys else decide (x<y):=rfl
theorem B4x:lexLt [] []=false:=rfl
theorem A9i (y:Int)(ys:List Int):lexLt [] (y::ys)=true:=rfl
theorem B3j (x:Int)(xs:List Int):lexLt (x::xs) []=false:=rfl
theorem A82 (A:mh)(s:jw)(a:Int)(t:Tok)(c:Int)(u:Tok):∃e,nz A s (.int a t) (.int c u) e/\(e=true↔a=c):=
 ⟨(a==c),xg a t c u,by simp⟩
theorem B46 (A:mh)(s:jw)(a:Int)(t:Tok)(c:Int)(u:Tok)(prog:j9)(w:kl)(E:jt->jw->Prop)(Q:jt->jw->Prop)(h:Q (.bool (decide (a<c))) s):
  jy (kg prog w) A (richCompare .Lt (.int a t) (.int c u)) Q E s:=
 (PyProof.Rows.lt_int h:jy (kg prog w) A (nv .Lt (.int a t) (.int c u)) Q E s)
section
open PySem.SeqAt
open PySem.AutoSeq1 (wpAny_loadPart')
open PySem.MeetsSeq PySem.MeetsSeq2 PySem.MeetsSeq3
theorem A33 (l b:ju)(items items2:Array jt)(n n2:Nat)(dd dd2:Option ju)(sl sl2:Array (Option jt))(ns ms:List Int)(hi:qv items.toList ns)(hj:qv items2.toList ms):
  Meets (j6.«tuple.__lt__» ⟨[.ref l,.ref b],[]⟩)
   (λ_ R s=>s.heap.get? l=some {cls:=.type "tuple",dict:=dd,data:=.seq items n,slots:=sl}/\s.heap.get? b=some {cls:=.type "tuple",dict:=dd2,data:=.seq items2 n2,slots:=sl2}/\
    R (.ok (.ret (.bool (lexLt ns ms)))) s):=
 .of_wp λprog w A R s h=>by
  obtain⟨hp,g,d,tk,os⟩:=s;obtain⟨hl,hb,h⟩:=h;have f2:=AutoSeq1.sub_tuple_tuple;have z1:items.size=ns.length:=by rw[←hi.length];simp
  have z2:items2.size=ms.length:=by rw[←hj.length];simp
  wp_walk using n8 hl,n8 hb,wd _ (λrest b s'=>b.1=none/\s'=⟨hp,g,d,tk,os⟩/\∃(vs ws:List jt)(ns' ms':List Int),rest=vs.zip ws/\
   qv vs ns'/\qv ws ms'/\ns'.length+items2.size=ms'.length+items.size/\R (.ok (.ret (.bool (lexLt ns' ms')))) ⟨hp,g,d,tk,os⟩) _
  case turn=>
   rintro⟨y,x⟩ rest b s' ⟨hb',rfl,vs,ws,ns',ms',hz,hvi,hwi,ue,hR⟩;cases hvi with
   |nil=>rw[List.zip_nil_left]at hz;cases hz
   |cons a t hvi'=>
    cases hwi with
    |nil=>rw[List.zip_nil_right]at hz;cases hz
    |cons c u hwi'=>
     rw[iw]at hz;injection hz with hyx hrest
     injection hyx with hy hx;subst hy hx;rw[lexLt_cons]at hR;simp only[c9]at ue;obtain⟨e,he,hiff⟩:=A82 A.in1 ⟨hp,g,d,tk,os⟩ a t c u;refine CI (he prog w _ _ ?_);cases e with
     |true=>
      rw[if_pos (hiff.mp rfl)]at hR
      wp_walk
      exact⟨rfl,rfl,_,_,_,_,hrest,hvi',hwi',by omega,hR⟩
     |false=>
      rw[if_neg (λq=>absurd (hiff.mpr q) ki)]at hR;have hri:=B46 A.in1 ⟨hp,g,d,tk,os⟩ a t c u prog w
      wp_walk using hri
      exact⟨_,rfl,by simpa using hR⟩
  case fin=>
   rintro⟨b1,b2⟩ s' ⟨hb',rfl,vs,ws,ns',ms',hz,hvi,hwi,ue,hR⟩;simp only at hb';subst hb';have hv:lexLt ns' ms'=decide (items.size<items2.size):=by
    cases hvi with
    |nil=>
     cases hwi with
     |nil=>
      simp only[dk]at ue;rw[B4x];exact(CN (by omega)).symm
     |cons c u hw=>
      simp only[dk,c9]at ue;rw[A9i];exact(CM (by omega)).symm
    |cons a t hv=>
     cases hwi with
     |nil=>
      simp only[dk,c9]at ue;rw[B3j];exact(CN (by omega)).symm
     |cons c u hw=>
      rw[iw]at hz;cases hz
   rw[hv]at hR
   wp_walk
   exact⟨_,rfl,by simpa[j6.Tuple.tupleCompareSizes]using hR⟩
  case h=>
   exact⟨rfl,rfl,items.toList,items2.toList,ns,ms,rfl,hi,hj,by omega,h⟩
end
theorem lt_tupInts (hl:BE s.heap l items)(hb:BE s.heap b items2)(hi:qv items.toList ns)(hj:qv items2.toList ms)
  (hu:A.units<nj)(h:Q (.bool (lexLt ns ms)) s):jy (kg prog w) A (nv .Lt (.ref l) (.ref b)) Q E s:=by
 obtain⟨⟨cls,dd,data,sl⟩,ho,hc,n,hd⟩:=id hl;obtain⟨⟨cls2,dd2,data2,sl2⟩,ho2,hc2,n2,hd2⟩:=id hb;simp only at hc hd hc2 hd2;subst hc hd hc2 hd2;exact richCompare_meets_room (op:=.Lt) ⟨_,ho,rfl⟩ ⟨_,ho2,rfl⟩ PySem.F.slot_tuple_lt PySem.F.entry_tuple_lt (PySem.F.args_tuple_lt_2 _ _) (A33 l b items items2 n n2 dd dd2 sl sl2 ns ms hi hj)
  ⟨ho,ho2,show rj (lexLt ns ms)≠jt.notImplemented/\Q (.bool (lexLt ns ms)) s from⟨(λx=>nomatch x),h⟩⟩ hu
theorem cat_tup (ht:BE s.heap t vs.toArray)(hb:BE s.heap b ws.toArray)(hv:vs≠[])
  (h1:ws=[]->Q (.ref t) s)(h2:ws≠[]->Q (.ref s.heap.objs.size) {s with heap:=s.heap.push {cls:=.type "tuple",data:=.seq (vs++ws).toArray}})
  (hsz:vs.length+ws.length<=jv):jy (kg prog w) A (wo .Add (.ref t) (.ref b)) Q E s:=by
 obtain⟨⟨cls,dd,data,sl⟩,ho,hc,n,hd⟩:=id ht;obtain⟨⟨cls2,dd2,data2,sl2⟩,ho2,hc2,n2,hd2⟩:=id hb;simp only at hc hd hc2 hd2;subst hc hd hc2 hd2;have e:vs.toArray++ws.toArray=(vs++ws).toArray:=by simp
 by_cases hw:ws=[]
 ·exact Cf ⟨_,ho,rfl⟩ ⟨_,ho2,rfl⟩ AG BY xu xk (wq _ _)
   (tuple_addW1 t b vs.toArray ws.toArray n n2 dd dd2 sl sl2 (by simpa using hv) (by simp[hw])) ⟨ho,ho2,h1 hw⟩
 ·refine Cf ⟨_,ho,rfl⟩ ⟨_,ho2,rfl⟩ AG BY xu xk (wq _ _)
   (tuple_addW2 t b vs.toArray ws.toArray n n2 dd dd2 sl sl2 (by simpa using hv) (by simpa using hw) (by rw[ic,ic];exact hsz)) ⟨ho,ho2,?_⟩
  rw[e];exact h2 hw
noncomputable def sIx (n d:Nat):Option Int->Nat
 |none=>d
 |some v=>if v<0 then(v+(n:Int)).toNat else min v.toNat n
theorem sIx_nat (n d k:Nat):sIx n d (some (k:Int))=min k n:=by show(if (k:Int)<0 then((k:Int)+(n:Int)).toNat else min (k:Int).toNat n)=min k n;rw[if_neg (by omega),lq]
theorem A3n (n d:Nat)(hd:d<=n)(o:Option Int):sIx n d o<=n:=by
 cases o with
 |none=>exact hd
 |some v=>
  show(if v<0 then(v+(n:Int)).toNat else min v.toNat n)<=n;by_cases hv:v<0
  ·rw[if_pos hv];omega
  ·rw[if_neg hv];exact Nat.min_le_right _ _
theorem A27 (v:Int)(n d:Nat):(if v<0 then max (v+(n:Int)) 0 else min v (n:Int))=((sIx n d (some v):Nat):Int):=by
 show(if v<0 then max (v+(n:Int)) 0 else min v (n:Int))=(((if v<0 then(v+(n:Int)).toNat else min v.toNat n):Nat):Int);by_cases hv:v<0
 ·simp only[if_pos hv];omega
 ·simp only[if_neg hv];omega
theorem B0v (lo hi:Option Int)(n:Nat):wg lo hi 1 (n:Int)=(((sIx n 0 lo:Nat):Int),((sIx n n hi:Nat):Int)):=by
 have h1:¬((1:Int)<0):=by omega
 unfold wg;simp only[h1,if_false];refine AH ?_ ?_
 ·cases lo with
  |none=>rfl
  |some v=>exact A27 v n 0
 ·cases hi with
  |none=>rfl
  |some v=>exact A27 v n n
theorem A6f (i j:Nat):si (i:Int) (j:Int) 1=j - i:=by
 unfold si;have h1:(1:Int)>0:=by omega
 simp only[h1,if_true,Int.ediv_one]
 split<;>omega
theorem A03 (p:Ba v o)(h:Q o s):jy (kg prog w) A (j6.Slice.slicePartIndex v) Q E s:=by
 cases p with
 |none=>exact slicePart_none h
 |int i t=>exact slicePart_int h
theorem sliceApplied_gen {sl:ju}{vl vu:jt}{lo hi:Option Int}{n:Nat}{Q:Int×Int×Nat->jw->Prop}(hs:s.heap.IsSliceOf sl vl vu .none)(pl:Ba vl lo)(pu:Ba vu hi)
  (h:Q (((sIx n 0 lo:Nat):Int),1,sIx n n hi - sIx n 0 lo) s):jy (kg prog w) A (zr (.ref sl) (pure (n:Int))) Q E s:=by
 obtain⟨os,hos,hcs,hds⟩:=id hs;unfold zr j6.Slice.sliceFields;refine CI (CI (oi hos hds (x:=vl) rfl (CI (oi hos hds (x:=vu) rfl (CI (oi hos hds (x:=.none) rfl (CJ ?_)))))));refine CI (slicePart_none ?_);show jy _ _ (if ((1:Int)==0)=true then _ else _) _ _ s;rw[if_neg (by decide)];refine CI (A03 pl (CI (A03 pu (CI (CJ ?_)))));show jy _ _ (match wg lo hi 1 (n:Int)with| (lo,hi)=>pure (lo,(1:Int),si lo hi 1)) _ _ s;rw[B0v lo hi n];show jy _ _ (pure (((sIx n 0 lo:Nat):Int),(1:Int),si ((sIx n 0 lo:Nat):Int) ((sIx n n hi:Nat):Int) 1)) _ _ s;rw[A6f];exact CJ h
theorem A50 (xs:Array jt)(i k:Nat):((kz k).filterMap λ(m:Nat)=>xs[((i:Int)+(m:Int)*1).toNat]?).toArray=((xs.toList.drop i).take k).toArray:=by
 have e:(λ(m:Nat)=>xs[((i:Int)+(m:Int)*1).toNat]?)=λm=>xs[i+m]?:=by
  funext m
  have:((i:Int)+(m:Int)*1).toNat=i+m:=by omega
  rw[this]
 rw[e];have:=pick_run xs i k;rw[List.filterMap_map]at this;have e2:((λx=>xs[x]?)∘λx=>i+x)=λm=>xs[i+m]?:=rfl;rw[e2]at this;rw[this]
theorem getItem_tuple_cut {t sl:ju}{items:Array jt}{vl vu:jt}{lo hi:Option Int}{Q:jt->jw->Prop}(ht:BE s.heap t items)(hs:s.heap.IsSliceOf sl vl vu .none)(pl:Ba vl lo)(pu:Ba vu hi)
  (hw:¬(sIx items.size 0 lo=0/\sIx items.size items.size hi=items.size))
  (h:Q (.ref s.heap.objs.size) {s with heap:=s.heap.push {cls:=.type "tuple",data:=.seq ((items.toList.drop (sIx items.size 0 lo)).take (sIx items.size items.size hi - sIx items.size 0 lo)).toArray}})
  (hsz:items.size<=jv):jy (kg prog w) A (y8 (.ref t) (.ref sl)) Q E s:=by
 have htake:sizeOk (.seq ((items.toList.drop (sIx items.size 0 lo)).take (sIx items.size items.size hi - sIx items.size 0 lo)).toArray):=by
  show((items.toList.drop (sIx items.size 0 lo)).take (sIx items.size items.size hi - sIx items.size 0 lo)).toArray.size<=jv;rw[ic,du,de,k5];omega
 have hj:sIx items.size items.size hi<=items.size:=A3n _ _ (CT _) hi;obtain⟨os,hos,hcs,hds⟩:=id hs;have hTs:s.TypeIs (.ref sl) "slice":=⟨os,hos,hcs⟩;unfold y8
 try with_reducible refine l8 ?_
 first|refine CI (CJ ?_)|skip
 refine CI (wpAny_sequenceKey ht.typeIs (by decide) ?_);refine CI (nc (name:=qi "__getitem__") ht.typeIs ox
  (ly ox ht.typeIs entry_tuple_getitem ?_ (args_tuple_getitem _ _)))
 show jy _ _ (vp (.ref t)>>=_) _ _ s;refine CI (tupleItemsOf_ ht ?_);refine CI (we hTs ?_);rw[if_pos (by decide)];refine CI (sliceApplied_gen hs pl pu ?_);have hno:¬((((sIx items.size 0 lo:Nat):Int)==0&&(1:Int)==1&&(sIx items.size items.size hi - sIx items.size 0 lo)==items.size)=true):=by
  intro q;rw[pe,pe]at q;have q1:((sIx items.size 0 lo:Nat):Int)=0:=eq_of_beq q.1.1;have q2:sIx items.size items.size hi - sIx items.size 0 lo=items.size:=eq_of_beq q.2;exact hw ⟨by omega,by omega⟩
 show jy _ _ (if (((sIx items.size 0 lo:Nat):Int)==0&&(1:Int)==1&&(sIx items.size items.size hi - sIx items.size 0 lo)==items.size)=true then _ else _) _ _ s;rw[if_neg hno,A50]
 first
  |exact CI (m:=ud _) (k8 (CJ ⟨_,rfl,CJ h⟩) htake)
  |exact CI (m:=ud _) (k8 (CI (CJ (CJ ⟨_,rfl,CJ h⟩))) htake)
  |exact CI (CI (m:=ud _) (k8 (CJ (CJ ⟨_,rfl,CJ h⟩)) htake))
  |exact CI (CI (m:=ud _) (k8 (CJ ⟨_,rfl,CJ h⟩) htake))
end HT
namespace L2
open PySem PySem.Spec PyProof.Rows
noncomputable abbrev TO:=St->Hp->(Option Int->Hp->Prop)->Prop
noncomputable def PO (X:Cx)(e:Option om)(t:TO):Prop:=
 ∀(kb:List (ju×Obj))(s:jw)(σ:St)(H:Hp)(Q:Option Int->Hp->Prop),Inv X kb σ H s->t σ H Q->
  jy (kg X.prog X.w) X.A (evalPart e X.env) (λu s'=> ∃o H',Inv X kb σ H' s'/\Ba u o/\Q o H') X.xe s
noncomputable def A44:TO:=λ_ H Q=>Q none H
noncomputable def A6t (t:TE):TO:=λσ H Q=>t σ H λx H1=> ∃i,x= .int i/\Q (some i) H1
theorem jO:∀{us:List jt},Vals (ns.map V.int) us->qv us ns:=by
 induction ns with
 |nil=>intro us r;rw[map_nil]at r;cases r;exact .nil
 |cons n ns ih=>
  intro us r;rw[d6]at r;cases r with
  |cons r1 r2=>
   obtain⟨t,e⟩:=r1;subst e;exact .cons n t (ih r2)
section
variable {X:Cx}{e:om}{te:TE}{lo hi:Option om}{tl th:TO}{pos p2:Pos}
theorem lW:PO X none A44:=by intro kb s σ H Q I h;rw[BZ];exact CJ ⟨none,H,I,.none,h⟩
theorem iQ (h:PE X e te):PO X (some e) (A6t te):=by intro kb s σ H Q I hw;rw[evalPart_some];refine thn (h kb s σ H _ I hw) λu s1 ⟨x,H1,I1,r1,q1⟩=> ?_;obtain⟨i,rfl,q⟩:=q1;obtain⟨t,rfl⟩:=r1;exact⟨some i,H1,I1,.int i t,q⟩
noncomputable def SlR (X:Cx)(r:V->Option Int->Option Int->Hp->VK->Prop):Prop:=
 ∀(kb:List (ju×Obj))(s:jw)(σ:St)(H:Hp)(x:V)(v vl vu:jt)(lo hi:Option Int)(sl:ju)(Q:VK),Inv X kb σ H s->RelV x v->s.heap.IsSliceOf sl vl vu .none->Ba vl lo->Ba vu hi->r x lo hi H Q->
  ∃T id,typeLookup (.type T) "__getitem__" =pure (some (.builtin id))/\s.TypeIs v T/\jy (kg X.prog X.w) X.A (y8 v (.ref sl)) (EP X kb σ Q) X.xe s
noncomputable def tSl (r:V->Option Int->Option Int->Hp->VK->Prop)(te:TE)(tl th:TO):TE:=λσ H Q=>te σ H λx H1=>tl σ H1 λl H2=>th σ H2 λu H3=>r x l u H3 Q
theorem jY {r:V->Option Int->Option Int->Hp->VK->Prop}(hr:SlR X r)(he:PE X e te)(hl:PO X lo tl)(hu:PO X hi th):PE X (.Subscript e (.Slice lo hi none p2) pos) (tSl r te tl th):=by intro kb s σ H Q I h;refine B9 (thn (he kb s σ H _ I h) λv s1 ⟨x,H1,I1,r1,q1⟩=> ?_);refine wpAny_Slice (thn (hl kb s1 σ H1 _ I1 q1) λvl s2 ⟨l,H2,I2,pl,q2⟩=>thn (hu kb s2 σ H2 _ I2 q2) λvu s3 ⟨u,H3,I3,pu,q3⟩=> ?_);rw[BZ];refine CJ ?_;have I4:Inv X kb σ H3 {s3 with heap:=s3.heap.push {cls:=.type "slice",data:=.fields #[vl,vu,.none]}}:=I3.kept (t':=s3.toks) λb ob q=>CK _ q;obtain⟨T,id,hT,ht,hg⟩:=hr kb {s3 with heap:=s3.heap.push {cls:=.type "slice",data:=.fields #[vl,vu,.none]}} σ H3 x v vl vu l u s3.heap.objs.size Q I4 r1 (kj.IsSliceOf.new ..) pl pu q3;show jy (kg X.prog X.w) X.A (Au e (.Slice lo hi none p2) v (.ref s3.heap.objs.size)) (EP X kb σ Q) X.xe {s3 with heap:=s3.heap.push {cls:=.type "slice",data:=.fields #[vl,vu,.none]}};exact tail_any (ops:=[.ref s3.heap.objs.size,v]) ht hT hg (by with_unfolding_all rfl)
noncomputable def cI (xs:List V)(lo hi:Option Int):List V:=(xs.drop (HT.sIx xs.length 0 lo)).take (HT.sIx xs.length xs.length hi - HT.sIx xs.length 0 lo)
theorem uO (xs:List V)(lo hi:Option Int):(cI xs lo hi).length<=xs.length:=by unfold cI;rw[du,de];omega
noncomputable def B32 (K:W.Frag):R2:=λx y H Q=> ∃a b ns ms,x= .ref a/\y= .ref b/\CY K H a (ns.map V.int)/\CY K H b (ms.map V.int)/\Q (.bl (HT.lexLt ns ms)) H
theorem A63 (hu:X.A.units<nj):OpR X (nv .Lt) (B32 X.K):=by intro kb s σ H x y v u Q I rx ry h;obtain⟨a,b,ns,ms,rfl,rfl,ha,hb,q⟩:=h;cases rx;cases ry;obtain⟨lu,r1,p1,_⟩:=I.tuple ha;obtain⟨its2,r2,p2,_⟩:=I.tuple hb;have i1:qv lu.toArray.toList ns:=jO r1;have i2:qv its2.toArray.toList ms:=jO r2;exact HT.lt_tupInts p1 p2 i1 i2 hu ⟨.bl (HT.lexLt ns ms),H,I,rfl,q⟩
theorem Vals.nil_iff (r:Vals xs us):us=[]↔xs=[]:=by
 cases r with
 |nil=>simp
 |cons _ _=>simp
end
noncomputable def ixN (n:Nat)(i:Int):Option Nat:=if 0<=i then(if i<n then some i.toNat else none)else if -(n:Int)<=i then some (i+n).toNat else none
noncomputable def atI {α:Type}(xs:List α)(i:Int):Option α:=(ixN xs.length i).bind λj=>xs[j]?
theorem A0v (h:ixN n i=some j):seqIndex? i n=some j/\j<n/\-(n:Int)<=i/\i<n:=by
 unfold ixN at h;by_cases h0:0<=i
 ·rw[if_pos h0]at h;by_cases h1:i<n
  ·rw[if_pos h1]at h;have e:i.toNat=j:=j7 h;exact⟨by rw[seqIndex_of h0 h1,e],by omega,by omega,h1⟩
  ·rw[if_neg h1]at h;cases h
 ·rw[if_neg h0]at h;by_cases h1:-(n:Int)<=i
  ·rw[if_pos h1]at h;have e:(i+n).toNat=j:=j7 h;exact⟨by rw[Cg (by omega) h1,e],by omega,h1,by omega⟩
  ·rw[if_neg h1]at h;cases h
theorem jV (h:atI xs i=some v):∃j,seqIndex? i xs.length=some j/\xs[j]?=some v/\j<xs.length/\-(xs.length:Int)<=i/\i<xs.length:=by
 unfold atI at h;cases e:ixN xs.length i with
 |none=>rw[e]at h;cases h
 |some j=>
  rw[e]at h;obtain⟨h1,h2,h3,h4⟩:=A0v e;exact⟨j,h1,h,h2,h3,h4⟩
theorem cK {α:Type}{xs:List α}{j:Nat}{v:α}(h:xs[j]?=some v):atI xs (j:Int)=some v:=by
 have hj:j<xs.length:=(CL.mp h).1;have e:ixN xs.length (j:Int)=some j:=by
  unfold ixN;rw[if_pos (by omega),if_pos (by omega)];simp
 unfold atI;rw[e];exact h
noncomputable def B5i (b:om):Prop:=∀o i,BF b false o i=operate [o,i] (y8 o i)
noncomputable def IxR (X:Cx)(r:R2):Prop:=
 ∀(value slice:om)(kb:List (ju×Obj))(s:jw)(σ:St)(H:Hp)(x y:V)(v u:jt)(Q:VK),Inv X kb σ H s->RelV x v->RelV y u->r x y H Q->
  BF slice false v u=operate [v,u] (y8 v u)->jy (kg X.prog X.w) X.A (Au value slice v u) (EP X kb σ Q) X.xe s
noncomputable def MtR (X:Cx)(id:String)(r:V->List V->Hp->VK->Prop):Prop:=
 ∀(kb:List (ju×Obj))(s:jw)(σ:St)(H:Hp)(x:V)(xs:List V)(v:jt)(us:List jt)(Q:VK),Inv X kb σ H s->RelV x v->Vals xs us->r x xs H Q->
  jy (kg X.prog X.w) X.A (call (.builtin id) (v::us)) (EP X kb σ Q) X.xe s
section
theorem bK (hr:IxR X r)(ha:PE X a ta)(hb:PE X b tb)(hs:B5i b):PE X (.Subscript a b pos) (tOp r ta tb):=by intro kb s σ H Q I h;exact B9 (rA ha hb I h λv u s2 x y H2 I2 rx ry q=>hr a b kb s2 σ H2 x y v u Q I2 rx ry q (hs _ _))
noncomputable def A46 (K:W.Frag):R2:=λx y H Q=> ∃p xs i v,x= .ref p/\y= .int i/\CW K H p xs/\atI xs i=some v/\Q v H
noncomputable def iP (K:W.Frag):R2:=λx y H Q=> ∃p xs i v,x= .ref p/\y= .int i/\CY K H p xs/\atI xs i=some v/\Q v H
theorem fG:IxR X (A46 X.K):=by
 intro value slice kb s σ H x y v u Q I rx ry h hs;obtain⟨p,xs,i,z,rfl,rfl,hq,he,q⟩:=h;cases rx;obtain⟨t,rfl⟩:=ry;obtain⟨lu,r,pl,hz⟩:=I.list hq;obtain⟨j,h1,h2,h3,h4,h5⟩:=jV he;obtain⟨w,ew,rw'⟩:=r.get h2;have hl:=r.length;have hn:=oE;have fin:EP X kb σ Q w s:=⟨z,H,I,rw',q⟩;by_cases h0:0<=i
 ·have hj:i.toNat=j:=by
   rw[seqIndex_of h0 h5]at h1;exact j7 h1
  exact item_listR pl.isList h0 (by omega) (by rw[hj];simpa using ew) fin hs
 ·have hj:(i+(lu.toArray.size:Int)).toNat=j:=by
   rw[Cg (by omega) h4]at h1;rw[ic,←hl];exact j7 h1
  exact Bb (x:=w) pl.isList.typeIs Al.lookup
   (wpAny_getItem_list_neg (Q:=λr s'=>r=w/\EP X kb σ Q r s') pl.isList (by omega) (by rw[ic]<;>omega) (by omega) (by rw[hj];simpa using ew) ⟨rfl,fin⟩) hs
theorem cD:IxR X (iP X.K):=by
 intro value slice kb s σ H x y v u Q I rx ry h hs;obtain⟨p,xs,i,z,rfl,rfl,hq,he,q⟩:=h;cases rx;obtain⟨t,rfl⟩:=ry;obtain⟨lu,r,pl,hz⟩:=I.tuple hq;obtain⟨j,h1,h2,h3,h4,h5⟩:=jV he;obtain⟨w,ew,rw'⟩:=r.get h2;have hl:=r.length;have hn:=oE;have fin:EP X kb σ Q w s:=⟨z,H,I,rw',q⟩;exact Bb (x:=w) pl.typeIs slot_tuple_getitem.lookup
  (getItem_tuple (j:=j) (Q:=λr s'=>r=w/\EP X kb σ Q r s') pl (by omega) (by omega) (by rw[ic,←hl];exact h1) (by simpa using ew) ⟨rfl,fin⟩) hs
theorem B3o (lu:List jt)(n j:Nat)(u:jt):m8 (·.setIfInBounds j u) {cls:=.type "list",data:=.seq lu.toArray n}={cls:=.type "list",data:=.seq (lu.set j u).toArray n}:=by simp[m8]
theorem Inv.lst (I:Inv X kb σ H s)(h:H p=some (.lst xs)):
  ∃(lu:List jt)(n:Nat),Vals xs lu/\s.heap.get? p=some {cls:=.type "list",data:=.seq lu.toArray n}/\xs.length<=jv:=by
 obtain⟨z,lu,n,r,e⟩:=I.hok p _ h;exact⟨lu,n,r,e,z⟩
theorem Inv.lstUpd {kb:List (ju×Obj)}{σ:St}{H:Hp}{s:jw}{p:ju}{xs ys:List V}{lu its':List jt}{n n':Nat}{f:Obj->Obj}(I:Inv X kb σ H s)(h:H p=some (.lst xs))
  (ho:s.heap.get? p=some {cls:=.type "list",data:=.seq lu.toArray n})(hf:f {cls:=.type "list",data:=.seq lu.toArray n}={cls:=.type "list",data:=.seq its'.toArray n'})(r:Vals ys its')(hz:ys.length<=jv)(t:Nat):
  Inv X kb σ (upd H p (.lst ys)) {s with heap:=s.heap.update p f,toks:=t}:=by
 have e:(s.heap.update p f).get? p=some {cls:=.type "list",data:=.seq its'.toArray n'}:=by
  rw[i5 f ho (by rw[hf]<;>rfl),hf]
 refine I.write (x:=p) (e:=p) (by rw[h];trivial) (.inl rfl) (λb u hb q=>(i0 _ _ (Ne.symm hb)).trans q) ⟨_,e⟩ ?_;exact⟨hz,its',n',r,e⟩
noncomputable def A39:V->V->V->Hp->(Hp->Prop)->Prop:=λo i v H Q=> ∃p xs k j,o= .ref p/\i= .int k/\H p=some (.lst xs)/\ixN xs.length k=some j/\Q (upd H p (.lst (xs.set j v)))
theorem vD:yD X A39:=by
 intro kb s σ H o i v ov iv u Q I ro ri rv h;obtain⟨p,xs,k,j,rfl,rfl,hp,hj,q⟩:=h;cases ro;obtain⟨t,rfl⟩:=ri;obtain⟨lu,n,r,ho,hz⟩:=I.lst hp;obtain⟨h1,h2,h3,h4⟩:=A0v hj;have hl:=r.length;have hn:=oE;have I':Inv X kb σ (upd H p (.lst (xs.set j v))) {s with heap:=s.heap.update p (m8 (·.setIfInBounds j u))}:=
  I.lstUpd hp ho (B3o lu n j u) (r.set rv j) (by rw[List.length_set];exact hz) s.toks
 by_cases h0:0<=k
 ·have hk:k.toNat=j:=by
   rw[seqIndex_of h0 h4]at h1;exact j7 h1
  exact W.ki_setAt ho h0 (by omega) (by rw[ic,←hl];exact h4) (by rw[hk];exact⟨_,I',q⟩)
 ·have hk:(k+(lu.toArray.size:Int)).toNat=j:=by
   rw[Cg (by omega) h3]at h1;rw[ic,←hl];exact j7 h1
  exact W.ki_setBack ho (by omega) (by rw[ic,←hl];exact h3) (by omega) (by rw[hk];exact⟨_,I',q⟩)
theorem B5y (lo hi:Option Int)(n:Nat):(xl lo hi none n).1=((HT.sIx n 0 lo:Nat):Int)/\(xl lo hi none n).2.1=((HT.sIx n n hi:Nat):Int)/\(xl lo hi none n).2.2=1:=by
 refine⟨?_,?_,rfl⟩
 ·cases lo with
  |none=>simp[xl,HT.sIx]
  |some i=>
   simp only[xl,HT.sIx,AI,show(1:Int)>0 by decide,if_true];by_cases h:i<0
   ·simp only[h,if_true]<;>omega
   ·simp only[h,if_false]<;>omega
 ·cases hi with
  |none=>simp[xl,HT.sIx]
  |some i=>
   simp only[xl,HT.sIx,AI,show(1:Int)>0 by decide,if_true];by_cases h:i<0
   ·simp only[h,if_true]<;>omega
   ·simp only[h,if_false]<;>omega
theorem B0d (lu:List jt)(lo hi:Option Int):Cs lu.toArray lo hi none=((lu.drop (HT.sIx lu.length 0 lo)).take (HT.sIx lu.length lu.length hi - HT.sIx lu.length 0 lo)).toArray:=by obtain⟨h1,h2,h3⟩:=B5y lo hi lu.toArray.size;unfold Cs;rw[h1,h2,h3];simp only[sliceRange_one,pick_run,ic]<;>rfl
noncomputable def B5o (K:W.Frag):V->Option Int->Option Int->Hp->VK->Prop:=λx lo hi H Q=> ∃a xs,x= .ref a/\CW K H a xs/\∀p,H p=none->Q (.ref p) (upd H p (.lst (cI xs lo hi)))
theorem pI:SlR X (B5o X.K):=by intro kb s σ H x v vl vu lo hi sl Q I rx hs pl pu h;obtain⟨a,xs,rfl,hx,q⟩:=h;cases rx;obtain⟨lu,r,ht,hz⟩:=I.list hx;have ue:=r.length;refine⟨"list",_,Al.lookup,ht.isList.typeIs,?_⟩;refine Av ht.isList hs pl pu .none (by simp) ?_ (by rw[ic]<;>omega);rw[B0d,←ue];refine⟨.ref s.heap.objs.size,_,I.laid (t':=s.toks) (o:=.lst (cI xs lo hi)) (λb ob q=>CK _ q) (CT _) ?_,rfl,q _ (I.hok.fresh (CT _))⟩;exact⟨jd (uO xs lo hi) hz,_,0,(r.drop (HT.sIx xs.length 0 lo)).take (HT.sIx xs.length xs.length hi - HT.sIx xs.length 0 lo),iy _ rfl⟩
theorem eJ:cV X (.builtin "len") (λxs H Q=> ∃p ys,xs=[.ref p]/\(CW X.K H p ys\/CY X.K H p ys)/\Q (.int ys.length) H):=by
 intro kb s σ H xs us Q I r h;obtain⟨p,ys,rfl,hq,q⟩:=h;obtain⟨u,rfl,rx⟩:=dR r;cases rx;have hn:=oE;rcases hq with hq|hq
 ·obtain⟨lu,r',pl,hz⟩:=I.list hq;have ue:=r'.length;exact Calls.call_len_list pl.isList (by simp only[ic]<;>omega) ⟨.int ys.length,H,I.tok _,⟨s.toks+1,by rw[ic,ue]⟩,q⟩
 ·obtain⟨lu,r',pl,hz⟩:=I.tuple hq;have ue:=r'.length;exact len_tuple pl (by simp only[ic]<;>omega) ⟨.int ys.length,H,I.tok _,⟨s.toks+1,by rw[ic,ue]⟩,q⟩
theorem B02:cV X (.type "list") (λxs H Q=> ∃p ys,xs=[.ref p]/\(CW X.K H p ys\/CY X.K H p ys)/\∀l,H l=none->Q (.ref l) (upd H l (.lst ys))):=by
 intro kb s σ H xs us Q I r h;obtain⟨p,ys,rfl,hq,q⟩:=h;obtain⟨u,rfl,rx⟩:=dR r;cases rx;have fin:∀(lu:List jt),Vals ys lu->ys.length<=jv->∀(h':kj)(c':Nat),(∀b o',s.heap.get? b=some o'->h'.get? b=some o')->
   h'.get? s.heap.objs.size=some {cls:=.type "list",dict:=none,data:=.seq lu.toArray c',slots:=#[]}->EP X kb σ Q (.ref s.heap.objs.size) {s with heap:=h'}:=λlu r' hz h' c' kp e=>
  ⟨.ref s.heap.objs.size,_,I.laid (t':=s.toks) kp (CT _) (show ObjOk X.prog X.w _ h' _ (.lst ys)from⟨hz,lu,c',r',e⟩),rfl,q _ (I.hok.fresh (CT _))⟩
 rcases hq with hq|hq
 ·obtain⟨lu,r',pl,hz⟩:=I.list hq;have ue:=r'.length;obtain⟨o,ho,hc,n,hd⟩:=pl.isList;exact call_list_seq p (.inl rfl) ho hc hd (λh' c' kp e=>fin lu r' hz h' c' kp e) (by simp only[ic]<;>omega)
 ·obtain⟨lu,r',pl,hz⟩:=I.tuple hq;have ue:=r'.length;obtain⟨o,ho,hc,n,hd⟩:=pl;exact call_list_seq p (.inr rfl) ho hc hd (λh' c' kp e=>fin lu r' hz h' c' kp e) (by simp only[ic]<;>omega)
theorem gW:cV X (.type "tuple") (λxs H Q=> ∃p ys,xs=[.ref p]/\((CW X.K H p ys/\∀l,H l=none->Q (.ref l) (upd H l (.tup ys)))\/(CY X.K H p ys/\Q (.ref p) H))):=by
 intro kb s σ H xs us Q I r h;obtain⟨p,ys,rfl,h⟩:=h;obtain⟨u,rfl,rx⟩:=dR r;cases rx;rcases h with⟨hq,q⟩| ⟨hq,q⟩
 ·obtain⟨lu,r',pl,hz⟩:=I.list hq;have ue:=r'.length;refine call_tuple_list pl.isList (λh' kp=> ?_) (by simp only[ic]<;>omega);have I1:Inv X kb σ H {s with heap:=h'}:=I.kept (t':=s.toks) kp;have I2:Inv X kb σ (upd H h'.objs.size (.tup ys)) {s with heap:=h'.push {cls:=.type "tuple",data:=.seq lu.toArray}}:=
   I1.laid (t':=s.toks) (λb o e=>CK _ e) (CT _) (show ObjOk X.prog X.w _ _ _ (.tup ys)from⟨hz,lu,r',BE.new _ _⟩)
  exact⟨.ref h'.objs.size,_,I2,rfl,q _ (I1.hok.fresh (CT _))⟩
 ·obtain⟨lu,r',pl,hz⟩:=I.tuple hq;exact call_tuple_same pl ⟨.ref p,H,I,rfl,q⟩
noncomputable def tyV (K:W.Frag)(T:String)(x:V)(H:Hp):Prop:=match x with
 | .str _=>T= "str"
 | .int _=>T= "int"
 | .ref p=>(T= "list"/\∃xs,CW K H p xs)\/(T= "tuple"/\∃o,K.lookup p=some o/\o.cls= .type "tuple"/\o.dict=none)\/
   (T= "dict"/\((∃kvs,H p=some (.dK kvs))\/ ∃kvs,H p=some (.dT kvs)))\/(T= "set"/\∃S n,H p=some (.set S n))
 |_=>False
theorem A5s (I:Inv X kb σ H s)(r:RelV x v)(ty:tyV X.K T x H):
  s.TypeIs v T/\∀a,v= .ref a->∃ob,s.heap.get? a=some ob/\ob.dict=none:=by
 cases x with
 |str z=>
  obtain⟨t,rfl⟩:=r;cases (show T= "str" from ty);exact⟨typeIs_str s z t,λ_ e=>nomatch e⟩
 |int i=>
  obtain⟨t,rfl⟩:=r;cases (show T= "int" from ty);exact⟨typeIs_int s i t,λ_ e=>nomatch e⟩
 |ref p=>
  cases r;rcases ty with⟨rfl,xs,hq⟩| ⟨rfl,o,hk,hc,hd⟩| ⟨rfl,hk⟩| ⟨rfl,S,n,hk⟩
  ·obtain⟨lu,_,pl,_⟩:=I.list hq;refine⟨pl.isList.typeIs,λa e=> ?_⟩;cases e;obtain⟨o,n,e,c,hd,_⟩:=pl;exact⟨o,e,hd⟩
  ·refine⟨⟨o,I.kIn p o hk,hc⟩,λa e=> ?_⟩;cases e;exact⟨o,I.kIn _ o hk,hd⟩
  ·have z:∃o,s.heap.get? p=some o/\o.ExactDict:=by
    rcases hk with⟨kvs,hk⟩| ⟨kvs,hk⟩
    ·obtain⟨_,_,_,_,o,_,_,e,ex,_⟩:=I.hok p _ hk;exact⟨o,e,ex⟩
    ·obtain⟨_,_,_,_,o,_,_,e,ex,_⟩:=I.hok p _ hk;exact⟨o,e,ex⟩
   obtain⟨o,e,ex⟩:=z;refine⟨⟨o,e,ex.1⟩,λa e2=> ?_⟩;cases e2;exact⟨o,e,ex.2.1⟩
  ·obtain⟨o,_,_,_,e,ex,_⟩:=I.hok p _ hk;refine⟨⟨o,e,ex.1⟩,λa e2=> ?_⟩;cases e2;exact⟨o,e,ex.2.1⟩
 |_=>exact uw ty
noncomputable def tBM (K:W.Frag)(T:String)(r:V->List V->Hp->VK->Prop)(to:TE)(t:TA):TE:=λσ H Q=>to σ H λx H1=>tyV K T x H1/\t σ H1 λxs H2=>r x xs H2 Q
variable {o e:om}{es:List om}{to:TE}{t:TA}{name:Str}{apos CF:Pos}{T id:String}{r:V->List V->Hp->VK->Prop}
theorem iV (pa:PlainAttrs T)(slot:Slot T name id)(hty:typeOf (.builtin id)=pure (.type "method_descriptor"))(hm:MtR X id r)(ho:PE X o to)(ha:PA X (e::es) t)
  (hbase:Aw o name X.env (sf o X.env)=sf o X.env:=by rfl)
  (hfew:((As CF (ni (e::es) X.env)).all (λx=> !x.1)&&(backToKw CF (keywordEach [] X.env)).all (λx=>x.1.isSome)
   &&decide ((e::es).length+([]:List Keyword).length+(if ([]:List Keyword).isEmpty then 0 else 1)<30))=true:=by rfl)
  (hline:(apos.endLine==CF.line)=true:=by rfl)(hs:ni (e::es) X.env=(false,sf e X.env)::ni es X.env:=by rfl)(hplain:(As CF (ni es X.env)).any (·.1)=false:=by rfl):
  PE X (.Call (.Attribute o name apos) (e::es) [] CF) (tBM X.K T r to t):=by
 intro kb s σ H Q I h;refine wpAny_Call_method_late hbase hfew hline rfl (thn (ho kb s σ H _ I h) λv s1 ⟨x,H1,I1,r1,ty,q1⟩=> ?_);obtain⟨h1,h2⟩:=A5s I1 r1 ty;refine⟨T,id,pa,slot,hty,h1,h2,?_⟩;have hA:=ha CF kb s1 σ H1 _ I1 q1;rw[hs]at hA⊢;refine qw (by show(false|| (As CF (ni es X.env)).any (·.1))=false;rw[hplain]<;>rfl) (yl ?_);exact thn hA λus s2 ⟨vs,H2,I2,r2,q2⟩=>hm kb s2 σ H2 x vs v us Q I2 r1 r2 q2
/- xs.append(e),list.index on a module's tuple .. are MtR facts of 06m -/
end
noncomputable def MtM (X:Cx)(id:String)(r:V->List V->Hp->VK->Prop):Prop:=
 ∀(kb:List (ju×Obj))(s:jw)(σ:St)(H:Hp)(x:V)(xs:List V)(v:jt)(us:List jt)(Q:VK),Inv X kb σ H s->RelV x v->Vals xs us->r x xs H Q->
  jy (kg X.prog X.w) X.A (call (.builtin id) (v::us)) (EP X kb σ Q) X.xe s
theorem Vals.one:∀{x:V}{us:List jt},Vals [x] us->∃u,us=[u]/\RelV x u:=by intro x us h;cases h with|cons r t=>cases t;exact⟨_,rfl,r⟩
theorem Vals.two:∀{x y:V}{us:List jt},Vals [x,y] us->∃u v,us=[u,v]/\RelV x u/\RelV y v:=by intro x y us h;cases h with|cons r t=>cases t with|cons q t=>cases t;exact⟨_,_,rfl,r,q⟩
theorem Inv.lset {lu its':List jt}{n:Nat}{f:Array jt->Array jt}{t':Nat}(I:Inv X kb σ H s)(hH:H l=some (.lst xs))
  (e:s.heap.get? l=some {cls:=.type "list",data:=.seq lu.toArray n})(hf:f lu.toArray=its'.toArray)(hv:Vals ys its')(hz:ys.length<=jv):
  Inv X kb σ (upd H l (.lst ys)) {s with heap:=s.heap.update l (m8 f),toks:=t'}:=by
 have q:=PySem.IsL.update e f;rw[hf]at q;refine I.write (x:=l) (e:=l) (by rw[hH];exact trivial) (.inl rfl) (λb' u hb hu=>(i0 s.heap (m8 f) (Ne.symm hb)).trans hu) ⟨_,q⟩ ?_;exact⟨hz,its',_,hv,q⟩
theorem Inv.lnew (I:Inv X kb σ H s)(hv:Vals ys lu)(hz:ys.length<=jv):
  Inv X kb σ (upd H s.heap.objs.size (.lst ys)) {s with heap:=s.heap.push {cls:=.type "list",data:=.seq lu.toArray},toks:=t'}:=
 I.laid (λ_ _ q=>CK _ q) (CT _) ⟨hz,lu,0,hv,iy _ rfl⟩
theorem Inv.fresh (I:Inv X kb σ H s):H s.heap.objs.size=none:=I.hok.fresh (CT _)
theorem Inv.lstM (I:Inv X kb σ H s)(hH:H l=some (.lst xs)):xs.length<=jv/\∃(lu:List jt)(n:Nat),Vals xs lu/\xs.length=lu.length/\s.heap.get? l=some {cls:=.type "list",data:=.seq lu.toArray n}:=by obtain⟨z,lu,n,r,e⟩:=I.hok l _ hH;exact⟨z,lu,n,r,r.length,e⟩
theorem A9w (h:n<=jv):wu n=false:=by unfold wu;exact CN (by omega)
section
variable {X:Cx}
noncomputable def A4o:V->List V->Hp->VK->Prop:=λx vs H Q=> ∃l xs y,x= .ref l/\vs=[y]/\H l=some (.lst xs)/\xs.length<jv/\Q .non (upd H l (.lst (xs++[y])))
theorem jX:MtM X "list.append" A4o:=by intro kb s σ H x vs v us Q I rx rv h;obtain⟨l,xs,y,rfl,rfl,hH,hz,q⟩:=h;cases rx;obtain⟨u,rfl,ru⟩:=rv.one;obtain⟨z,lu,n,r,hl,e⟩:=I.lstM hH;refine call_meets F.slot_list_append ⟨_,e,rfl⟩ F.entry_list_append (F.args_list_append_2 _ _) (PySem.list_append l lu.toArray n u (by rw[ic];omega)) ⟨e,?_⟩;refine⟨.non,_,I.lset (its':=lu++[u]) hH e (by simp) (r.append (.cons ru .nil)) ?_,rfl,q⟩;rw[c8,dq];omega
noncomputable def B4e:V->List V->Hp->VK->Prop:=λx vs H Q=> ∃l b xs zs,x= .ref l/\vs=[.ref b]/\H l=some (.lst xs)/\H b=some (.lst zs)/\xs.length+zs.length<=jv/\Q .non (upd H l (.lst (xs++zs)))
theorem A14:MtM X "list.extend" B4e:=by
 intro kb s σ H x vs v us Q I rx rv h;obtain⟨l,b,xs,zs,rfl,rfl,hH,hB,hz,q⟩:=h;cases rx;obtain⟨u,rfl,ru⟩:=rv.one;cases ru;obtain⟨z,lu,n,r,hl,e⟩:=I.lstM hH;obtain⟨z2,its2,n2,r2,Cz,e2⟩:=I.lstM hB;have hsz:lu.toArray.size+its2.toArray.size<=jv:=by rw[ic,ic];omega
 have hlong:¬(!lu.toArray.isEmpty&&wu (lu.toArray.size+its2.toArray.size))=true:=by
  rw[A9w hsz,Bool.and_false];exact ki
 refine call_meets F.slot_list_extend ⟨_,e,rfl⟩ F.entry_list_extend (F.args_list_extend_2 _ _)
  (AutoSeq1.list_extend_list_list_0 l lu.toArray n b its2.toArray n2 hlong (by rw[ic];omega) (by omega)) ⟨e,e2,?_⟩
 refine⟨.non,_,I.lset (its':=lu++its2) hH e (by simp) (r.append r2) ?_,rfl,q⟩;rw[c8];omega
noncomputable def B26:R2:=λx y H Q=> ∃l b xs zs,x= .ref l/\y= .ref b/\H l=some (.lst xs)/\H b=some (.lst zs)/\xs.length+zs.length<=jv/\∀p,H p=none->Q (.ref p) (upd H p (.lst (xs++zs)))
theorem jI:OpR X (wo .Add) B26:=by
 intro kb s σ H x y v u Q I rx ry h;obtain⟨l,b,xs,zs,rfl,rfl,hH,hB,hz,q⟩:=h;cases rx;cases ry;obtain⟨z,lu,n,r,hl,e⟩:=I.lstM hH;obtain⟨z2,its2,n2,r2,Cz,e2⟩:=I.lstM hB;refine PySem.P.add_list e e2 ?_ (by rw[ic,ic];omega);have ea:lu.toArray++its2.toArray=(lu++its2).toArray:=by simp
 rw[ea];exact⟨.ref _,_,I.lnew (t':=s.toks) (r.append r2) (by rw[c8];omega),rfl,q _ I.fresh⟩
end
end L2
namespace Att
open PySem PySem.W PySem.Calls PyProof.Rows
theorem A7w:∀(ns:List Int)(vs:List jt),WellAll P h vs (ns.map WData.int)->qv vs ns:=by
 intro ns
 induction ns with
 |nil=>
  intro vs w;rw[map_nil]at w;cases w;exact .nil
 |cons n ns ih=>
  intro vs w;rw[d6]at w;cases w with
  |cons a b=>
   cases a;exact .cons _ _ (ih _ b)
theorem A45 {l:OpenLaw}{n:Nat}(hn:l.most=some n){P:Params}{h:kj}{args:List WData}{vals:List jt}
  (hpre:l.row.toRowW.claim.pre args=true)(hwl:WellAll P h vals args):
  ∃a vs ns,vals=[jx a]/\args=[WData.list (ns.map WData.int)]/\h.get? a=some {cls:=.type "list",data:=.seq vs.toArray}/\qv vs ns/\ns.length<=n:=by
 have hsh:WShape.hasAll [] args [.list .int]=true:=(pre_splitW hpre).1;have hc:l.pre.holds [] {args:=args}=true:=(pre_splitW hpre).2;obtain⟨d,r,rfl,h1,h2⟩:=hasAllW_cons hsh;obtain rfl:=hasAllW_nil h2;obtain⟨xs,rfl,h3⟩:=hasW_list h1;obtain⟨ns,rfl⟩:=items_int h3;have ue:ns.length<=n:=by
  unfold OpenLaw.pre at hc;have h4:(WTm.not (.lt (.lit (.int (n:Int))) (.len (.arg 0)))).holds [] {args:=[.list (ns.map .int)]}=true:=by
   have h4:=(holds_andW hc).1;rw[hn]at h4;exact h4
  have h5:=condW_of h4 (w_not (w_lt w_lit (w_len_list (w_arg rfl))));rw[di]at h5;refine Nat.le_of_not_lt λq=> ?_;have q':(n:Int)<((ns.length:Nat):Int):=by omega
  first
   | (rw[CM q']at h5;exact absurd h5 (by decide))
   | (simp at h5;omega)
 cases hwl with
 |cons w1 w2=>
  cases w2;cases w1 with
  |list ho hall=>exact⟨_,_,ns,rfl,rfl,ho,A7w ns _ hall,ue⟩
theorem A60 (l:OpenLaw)(args:List WData):l.row.toRowW.claim.post args (.bool true) args=true:=
 postW_of (r:=l.row.toRowW) (X:=(true==true))
  (show WShape.has [] (.bool true) .bool=true by first|rfl|decide|simp[WShape.has,WShape.arms,WShape.armsAll])
  (show(WTm.eq .res (.lit (.bool true))).value [] {args:=args,res:=some (.bool true),after:=args}=some (.bool (true==true))from w_eq_bool (w_res rfl) w_lit) rfl
theorem attach_call {l:OpenLaw}{n:Nat}{q:j9}{loose:List Str}{XP:(Str->Option jt)->kj->Prop}{YP:kl->kj->Prop}{d:DefRec}
  (hn:l.most=some n)(hdf:d.params.defaults=[])
  (call:∀(w:kl)(s₀ s₁:jw)(mg mb:Str->Option jt)(fa:ju)(o:Obj)(pm cd doc:jt)(a:ju)(vs:List jt)(ns:List Int),
   Ground q loose [] XP w s₀ mg mb s₁.heap->YP w s₁.heap->
   s₁.heap.get? fa=some o->o.data= .func (docDef d.name d.params d.body d.scope pm cd doc)->s₁.heap.CodeRec cd d.name->mg d.name=some (.ref fa)->
   s₁.heap.get? a=some {cls:=.type "list",data:=.seq vs.toArray}->qv vs ns->ns.length<=n->s₁.gens= #[]->
   tq (kg l.prog w) BU (.call (.ref fa) ⟨[.ref a],[]⟩) (λr s'=>r= .ok (.ret (.bool true))/\OldK s₁.heap s'.heap/\s'.os=s₁.os/\Aj s'.gens) s₁):
  WalkO q loose XP YP l.row.toRowW d [] (λf vs=>PySem.call f vs):=by
 intro w s₀ s₁ mg mb G Y fa o pm cd doc dV kV ho hd hcd hD hmg hg args vals as hpre hlay hrd hwl hlo;obtain rfl:dV= .none:=Dflts.none hD hdf;obtain rfl:kV= .none:=Dflts.noKw hD;obtain⟨a,vs,ns,rfl,rfl,hobj,hints,ue⟩:=A45 hn hpre hwl;refine enter_call (qg (call w s₀ s₁ mg mb fa o pm cd doc a vs ns G Y ho (fd_plain hd) hcd hmg hobj hints ue hg) λr s' hq=> ?_);obtain⟨rfl,h2,h3,h4⟩:=hq;exact⟨.inl ⟨.bool true,.bool true,[],rfl,λ_=>rfl,.bool true,A60 l _,λ_=> ⟨vk,λ_ hm=>(nomatch hm)⟩⟩,h2,h3,h4⟩
noncomputable def ledger (h:kj)(L d:ju):List (ju×Obj):=(kz h.objs.size).filterMap λa=>if a=L\/a=d then none else(h.get? a).map λo=>(a,o)
end Att
namespace L2
open PySem PySem.Spec PyProof.Rows
theorem wR:∀{vs:List jt}{ns:List Int},qv vs ns->Vals (ns.map V.int) vs
 |_,_,.nil=> .nil
 |_,_,.cons n t h=> .cons ⟨t,rfl⟩ (wR h)
noncomputable def sZ (H:Hp):Prop:=∀b,H b=none\/ ∃o xs,H b=some (.frz o (.lst xs))
theorem B1e {P:j9}{w:kl}{K:W.Frag}{mg mb:Str->Option jt}{CX:CXT}{k:Nat}{fa a:ju}{fd:tm}{x:Str}{sp:Sp}{s₁:jw}{vs:List jt}{ns:List Int}
  (KX:K.In s₁.heap)(hns:s₁.heap.Ns kf mg)(hb:s₁.heap.Ns builtinsNs mb)(hbb:∀x:Str,x≠ "__name__"->mb x=qu x)(hlim:s₁.heap.NoLimit)(hg:s₁.gens= #[])
  (ha:s₁.heap.get? a=some {cls:=.type "list",data:=.seq vs.toArray})(hi:qv vs ns)(hl:ns.length<=jv)(hr:Room k BU)
  (F:∀base:kj,K.In base->base.Ns kf mg->FnOk P w K mg base CX k fa fd [x] sp)(hbind:∀(s:jw)(u:jt),BS s fd ⟨[u],[]⟩ [(x,u)])
  (hsp:∀H:Hp,sZ H->CW K H a (ns.map V.int)->sp [.ref a] H (λv _=>v= .bl true) λ_ _ _=>False)
  (hCX:∀H e s',CX [] H s₁ (λ_ _ _=>False) e s'->False):
  tq (kg P w) BU (.call (.ref fa) ⟨[.ref a],[]⟩) (λr s'=>r= .ok (.ret (.bool true))/\OldK s₁.heap s'.heap/\s'.os=s₁.os/\Aj s'.gens) s₁:=by
 have rv:=wR hi;have lenV:=hi.length;have core:∀H:Hp,sZ H->CW K H a (ns.map V.int)->CU P w H s₁.heap->(∀b,H b≠none->b=a)->(H a≠none->K.lookup a=none)->
   tq (kg P w) BU (.call (.ref fa) ⟨[.ref a],[]⟩) (λr s'=>r= .ok (.ret (.bool true))/\OldK s₁.heap s'.heap/\s'.os=s₁.os/\Aj s'.gens) s₁:=by
  intro H hO hS hok hA hK;have base_of:∀{b:ju}{o:Obj},s₁.heap.get? b=some o->H b=none->(gQ s₁.heap H).get? b=some o:=λe n=>B4t e n;have noA:∀{b:ju}{o:Obj}{es:Array wc}{ep:Nat},s₁.heap.get? b=some o->o.data= .dict es ep->H b=none:=fun{b o es ep} e d=>by
   cases q:H b with
   |none=>rfl
   |some u=>
    have e':b=a:=hA b (by rw[q];simp);subst e';rw[ha]at e;cases e;have d':Data.seq vs.toArray _=Data.dict es ep:=d;cases d'
  have nsK:∀{b:ju}{m:Str->Option jt},s₁.heap.Ns b m->(gQ s₁.heap H).Ns b m:=fun{b m} ⟨o,es,ep,e,d,r⟩=> ⟨o,es,ep,base_of e (noA e d),d,r⟩;have hKb:K.In (gQ s₁.heap H):=λb o e=>base_of (KX b o e) (by
   cases q:H b with
   |none=>rfl
   |some u=>
    have e':b=a:=hA b (by rw[q];simp);subst e';rw[hK (by rw[q];simp)]at e;cases e)
  have hM:Mod K mg (gQ s₁.heap H):=⟨hKb,nsK hns,⟨mb,nsK hb,hbb⟩,let ⟨mc,h1,h2⟩:=hlim;⟨mc,nsK h1,h2⟩⟩;have e0:oU P w K mg (gQ s₁.heap H) BU [] s₁ H:=⟨rfl,hM,λb o e=>A96 e,ja (B5p _ _),trivial,λb hb=>absurd (show b∈([]:List ju)from hb) (by simp),hok,.of_eq hg⟩;refine qg ((F _ hKb (nsK hns)).run BU [] s₁ H ⟨[.ref a],[]⟩ [.ref a] [.ref a] _ _ hr e0 (hbind s₁ (.ref a)) (.cons rfl .nil) (hsp H hO hS)) λr s' h=> ?_;cases r with
  |error e=>exact(hCX H e s' h).elim
  |ok fl=>
   cases fl with
   |next=>exact uw h
   |brk=>exact uw h
   |cont=>exact uw h
   |ret u=>
    obtain⟨v,H',os,bare,un,hok',r',q⟩:=h;have q':v= .bl true:=q;subst q';obtain rfl:u=rj true:=r';refine⟨rfl,OldK.of_keep λb o e=> ?_,os,bare⟩;cases q:H b with
    |none=>exact un.keep b o e q (by intro z;exact absurd (show b∈([]:List ju)from z) (by simp)) (by simp)
    |some u=>
     rcases hO b with z| ⟨ob,xs,z⟩
     ·rw[q]at z;cases z
     ·have z2:=un.frzs b ob _ z;obtain⟨e1,_⟩:=hok b _ z;obtain⟨e2,_⟩:=hok' b _ z2;rw[e]at e1;cases e1;exact e2
 cases hk:K.lookup a with
 |some o=>
  have e:=KX a o hk;rw[ha]at e;cases e;refine core (λ_=>none) (λ_=> .inl rfl) (.inr ⟨_,vs.toArray,_,hk,rfl,rfl,rfl,by rw[ic,lenV];exact hl,by simpa using rv⟩) (λb u z=>by have z':(none:Option HO)=some u:=z;cases z') (λb z=>absurd rfl z) λz=>absurd rfl z
 |none=>
  refine core (λb=>if b=a then some (.frz {cls:=.type "list",data:=.seq vs.toArray} (.lst (ns.map V.int)))else none) (λb=> ?_) (.inl (.inr ⟨{cls:=.type "list",data:=.seq vs.toArray},if_pos rfl⟩)) (λb u z=> ?_) (λb z=> ?_) λ_=>hk
  ·by_cases hb:b=a
   ·exact .inr ⟨_,_,if_pos hb⟩
   ·exact .inl (if_neg hb)
  ·by_cases hb:b=a
   ·have z':=(if_pos hb).symm.trans z;cases z';subst hb;exact⟨ha,by rw[di];exact hl,vs,_,rv,ha⟩
   ·have z':=(if_neg hb).symm.trans z;cases z'
  ·by_cases hb:b=a
   ·exact hb
   ·exact absurd (if_neg hb) z
theorem walk_of {l:W.OpenLaw}{n k:Nat}{q:j9}{loose:List Str}{XP:(Str->Option jt)->kj->Prop}{YP:kl->kj->Prop}{d:DefRec}{K:Params->W.Frag}{CX:kl->CXT}{sp:kl->Sp}{x:Str}
  (hn:l.most=some n)(hn2:n<=jv)(hdf:d.params.defaults=[])(hr:Room k BU)
  (hY:∀(w:kl)(h:kj),YP w h->(K w.params).In h)
  (F:∀(w:kl)(mg:Str->Option jt)(fa:ju)(h:kj),(K w.params).In h->h.Ns kf mg->mg d.name=some (.ref fa)->
   ∃fd:tm,(∀(s:jw)(u:jt),BS s fd ⟨[u],[]⟩ [(x,u)])/\
    ∀base:kj,(K w.params).In base->base.Ns kf mg->FnOk l.prog w (K w.params) mg base (CX w) k fa fd [x] (sp w))
  (hsp:∀(w:kl)(H:Hp)(a:ju)(ns:List Int),ns.length<=n->sZ H->CW (K w.params) H a (ns.map V.int)->sp w [.ref a] H (λv _=>v= .bl true) λ_ _ _=>False)
  (hCX:∀(w:kl)(H:Hp)(s:jw)(e:jt)(s':jw),CX w [] H s (λ_ _ _=>False) e s'->False):
  W.WalkO q loose XP YP l.row.toRowW d [] (λf vs=>PySem.call f vs):=by
 refine Att.attach_call hn hdf λw s₀ s₁ mg mb fa o pm cd doc a vs ns G Y ho hd hcd hmg hobj hints ue hg=> ?_;have KX:=hY w _ Y;obtain⟨fd,hb,hF⟩:=F w mg fa _ KX G.T.g hmg;exact B1e KX G.T.g G.T.b G.T.builtins G.T.nolimit hg hobj hints (jd ue hn2) hr hF hb (λH hO hS=>hsp w H a ns ue hO hS) λH e s'=>hCX w H s₁ e s'
noncomputable def iT (s:mw):Arguments:=match s with
 | .FunctionDef _ a _ _ _ _ _ _ _ _=>a
 |_=> {posonlyargs:=[],args:=[],vararg:=none,kwonlyargs:=[],kw_defaults:=[],kwarg:=none,defaults:=[]}
noncomputable def dA (s:mw):List mw:=match s with
 | .FunctionDef _ _ b _ _ _ _ _ _ _=>b
 |_=> []
noncomputable def bB (s:mw):yk:=match s with
 | .FunctionDef _ _ _ _ _ _ sc _ _ _=>sc
 |_=> {kind:=.function,names:=[],isGenerator:=false,isCoroutine:=false}
noncomputable abbrev CX0:CXT:=λ_ _ _ _ _ _=>False
noncomputable abbrev E0:XK:=λ_ _ _=>False
theorem xY:qX CX0 X E0:=λ_ _ _ _ _ _ _ h=>h.elim
structure Fun (K:W.Frag)(x qual:Str)(st:mw)(f:ju)(fd:tm):Prop where
 ex:∃(oc:jt)(od:Option ju)(kV doc pm:jt)(an:Option ju)(cdv ct:jt)(osl:Array (Option jt)),
  fd=W.fnOf x qual (iT st) (dA st) (bB st) .none kV doc pm an cdv ct/\K.lookup f=some ⟨oc,od,.func fd,osl⟩/\W.codeIn K cdv qual=true
 kp:W.keepIn K (.ref f)=true
section
variable {P:j9}{w:kl}{K:W.Frag}{mg:Str->Option jt}{base:kj}
theorem Fun.ok {x qual:Str}{st:mw}{f:ju}{fd:tm}{N ps:List Str}{k:Nat}{sp:Sp}(F:Fun K x qual st f fd)(S:gD N ps (bB st))(len:∀vs H Q E,sp vs H Q E->vs.length=ps.length)
  (hbody:∀(cdv:jt)(A:mh)(outer:List Env)(s:jw)(H:Hp)(vs:List V)(Q:VK)(E:XK),Room k (A.deeper (zq qual (bB st) s.heap.objs.size f cdv))->sp vs H Q E->
   ∃t,CV (fK CX0 P w K mg base N qual (bB st) f cdv A outer s H E).nox (dA st) t/\t {nx:=λ_ H'=>Q .non H',rt:=Q} (start N vs) H):FnOk P w K mg base CX0 (k+1) f fd ps sp:=by
 obtain⟨oc,od,kV,doc,pm,an,cdv,ct,osl,rfl,lk,hcd⟩:=F.ex;refine A4b lk hcd S len λA outer s H vs Q E hr hsp=> ?_;obtain⟨t,h,q⟩:=hbody cdv A outer s H vs Q E hr hsp;exact⟨t,h.nox,q⟩
theorem Fun.binds {x qual:Str}{st:mw}{f:ju}{fd:tm}{ps:List Str}(F:Fun K x qual st f fd)
  (h:∀(kV doc pm:jt)(an:Option ju)(cdv ct:jt)(us:List jt),us.length=ps.length->bindArgs (W.fnOf x qual (iT st) (dA st) (bB st) .none kV doc pm an cdv ct) ⟨us,[]⟩=pure (ps.zip us)):Binds K fd ps []:=by
 obtain⟨oc,od,kV,doc,pm,an,cdv,ct,osl,rfl,lk,hcd⟩:=F.ex;exact .all (h kV doc pm an cdv ct)
theorem B20 {x qual:Str}{st:mw}{f:ju}{oc:jt}{od an:Option ju}{osl:Array (Option jt)}{kV doc pm cdv ct:jt}(l:K.lookup f=some ⟨oc,od,.func (W.fnOf x qual (iT st) (dA st) (bB st) .none kV doc pm an cdv ct),osl⟩)
  (c:W.codeIn K cdv qual=true)(k:W.keepIn K (.ref f)=true):Fun K x qual st f (W.fnOf x qual (iT st) (dA st) (bB st) .none kV doc pm an cdv ct):=⟨⟨oc,od,kV,doc,pm,an,cdv,ct,osl,rfl,l,c⟩,k⟩
end
theorem vJ (hr:Room k A):A.units+1<nj:=zt (Nat.add_le_add_left (by decide:1<=64) _) hr.units
theorem cO (h:n<=1000):n<jv:=zt h (by decide)
section
variable {X:Cx}
theorem pv (i:Nat)(hN:X.N[i]?=some x:=by rfl)(hv:Vis X.env.scope x:=by first|exact ng rfl|exact qr (ng rfl)|exact qr (qr rfl))(hd:(x==("__debug__":Str))=false:=by decide)
  (hcd:(x==("__classdict__":Str))=false:=by decide):PE X (.Name x pos) (dE i):=A7s hN hv hd hcd
end
theorem bY {A B:Prop}(h:B):if false=true then A else B:=by rw[if_neg ki];exact h
theorem fY {A B:Prop}(h:A):if true=true then A else B:=by rw[if_pos rfl];exact h
theorem rF {c A B:Prop} [Decidable c](hc:c)(h:B):if (!decide c)=true then A else B:=by rw[CM hc];exact bY h
noncomputable def Same (H H':Hp):Prop:=∀b o,H b=some o->H' b=some o
theorem Same.refl (H:Hp):Same H H:=λ_ _ h=>h
theorem Same.trans (a:Same H H1)(b:Same H1 H2):Same H H2:=λc o h=>b c o (a c o h)
theorem Same.free (e:Same H H')(h:H' l=BG):H l=BG:=by
 cases q:H l with
 |none=>rfl
 |some o=>
  rw[e l o q]at h;cases h
theorem Same.seq {K:W.Frag}{H H':Hp}{a:ju}{xs:List V}(e:Same H H')(h:CW K H a xs):CW K H' a xs:=by
 rcases h with(h| ⟨o,h⟩)|h
 ·exact .inl (.inl (e _ _ h))
 ·exact .inl (.inr ⟨o,e _ _ h⟩)
 ·exact .inr h
section
variable {κ:Type} [DecidableEq κ]
noncomputable def bW (kvs:List (κ×V))(k:κ):Option V:=(kvs.find? λkv=>decide (kv.1=k)).map (·.2)
noncomputable def cC (kvs:List (κ×V))(k:κ)(v:V):List (κ×V):=
 if (kvs.any λkv=>decide (kv.1=k))=true then kvs.map (λkv=>if kv.1=k then(kv.1,v)else kv)else kvs++[(k,v)]
theorem lY {p:κ×V}{r:List (κ×V)}{k:κ}(e:p.1=k):bW (p::r) k=some p.2:=by simp[bW,bx,e]
theorem lV {p:κ×V}{r:List (κ×V)}{k:κ}(e:¬p.1=k):bW (p::r) k=bW r k:=by simp[bW,bx,e]
theorem oS (k:κ):∀kvs:List (κ×V),(kvs.any λkv=>decide (kv.1=k))=(bW kvs k).isSome
 | []=>rfl
 |p::r=>by
  rw[af];by_cases e:p.1=k
  ·simp only[lY e,CM e,Bool.true_or,Option.isSome_some]
  ·rw[lV e,CN e,Bool.false_or];exact oS k r
theorem nN (kvs:List (κ×V))(k:κ)(v:V):(cC kvs k v).length<=kvs.length+1:=by
 unfold cC
 split
 ·rw[di];omega
 ·rw[c8,c9,dk];omega
theorem A6n {kvs:List (κ×V)}{k:κ}(v:V)(h:bW kvs k=none):cC kvs k v=kvs++[(k,v)]:=by unfold cC;rw[oS,h];exact if_neg (by decide)
theorem RelO.isSome_eq (r:RelO o u):o.isSome=u.isSome:=by
 cases o with
 |none=>cases u with
  |none=>rfl
  |some _=>exact(show False from r).elim
 |some _=>cases u with
  |none=>exact(show False from r).elim
  |some _=>rfl
theorem RelO.getD (r:RelO o u)(rd:RelV d d'):RelV (o.getD d) (u.getD d'):=by
 cases o with
 |none=>cases u with
  |none=>exact rd
  |some _=>exact(show False from r).elim
 |some _=>cases u with
  |none=>exact(show False from r).elim
  |some _=>exact r
theorem KV.val {kvs:List (κ×V)}{vs:List (κ×jt)}(r:KV kvs vs)(k:κ):RelO (bW kvs k) (BV vs k):=by
 unfold KV at r
 induction r with
 |nil=>exact p6
 | @cons p q ps qs h t ih=>
  obtain⟨h1,h2⟩:=h;by_cases e:p.1=k
  ·have e':q.1=k:=h1.symm.trans e;have b:BV (q::qs) k=some q.2:=by simp[BV,bx,e']
   rw[lY e,b];exact h2
  ·have e':¬q.1=k:=λz=>e (h1.trans z);have b:BV (q::qs) k=BV qs k:=by simp[BV,bx,e']
   rw[lV e,b];exact ih
theorem KV.any (r:KV kvs vs)(k:κ):(kvs.any λkv=>decide (kv.1=k))=vs.any λkv=>decide (kv.1=k):=by
 unfold KV at r
 induction r with
 |nil=>rfl
 |cons h t ih=>rw[af,af,ih,h.1]
theorem KV.repl (r:KV kvs vs)(k:κ)(ry:RelV y u):
  KV (kvs.map λkv=>if kv.1=k then(kv.1,y)else kv) (vs.map λkv=>if kv.1=k then(kv.1,u)else kv):=by
 unfold KV at r⊢
 induction r with
 |nil=>exact .nil
 | @cons p q ps qs h t ih=>
  rw[d6,d6];refine .cons ?_ ih;obtain⟨h1,h2⟩:=h;by_cases e:p.1=k
  ·rw[if_pos e,if_pos (h1.symm.trans e)];exact⟨h1,ry⟩
  ·rw[if_neg e,if_neg (λz=>e (h1.trans z))];exact⟨h1,h2⟩
theorem KV.put (r:KV kvs vs)(k:κ)(ry:RelV y u):KV (cC kvs k y) (stored vs k u):=by
 unfold cC stored;rw[r.any k];by_cases e:(vs.any λkv=>decide (kv.1=k))=true
 ·rw[if_pos e,if_pos e];exact r.repl k ry
 ·rw[if_neg e,if_neg e];exact Paired.snoc r ⟨rfl,ry⟩
theorem KV.length (r:KV kvs vs):kvs.length=vs.length:=Paired.length r
end
theorem iY (r:RelV (kV k) u):(cH P w).is k u=true:=by
 cases k with
 |inl i=>obtain⟨t,e⟩:=(show∃t,u=sv i t from r);subst e;exact A8q P w i t
 |inr x=>obtain⟨t,e⟩:=(show∃t,u=AE x t from r);subst e;exact A5y P w x t
theorem wY:∀{ks:List Key}{us:List jt},Vals (ks.map kV) us->ItemsAre (cH P w) ks us
 | [],_,r=>by rw[map_nil]at r;cases r;exact .nil
 |k::ks,_,r=>by
  rw[d6]at r;cases r with
  |cons h t=>exact .cons (iY h) (wY t)
noncomputable abbrev KT (H:Hp):List (List Key×V)->List (List Key×ju×jt)->Prop:=Paired λp q=>p.1=q.1/\H q.2.1=some (.tup (p.1.map kV))/\RelV p.2 q.2.2
theorem KT.val {H:Hp}{kvs:List (List Key×V)}{xs:List (List Key×ju×jt)}(r:KT H kvs xs)(k:List Key):RelO (bW kvs k) ((Bk xs k).map (·.2)):=by
 induction r with
 |nil=>exact p6
 | @cons p q ps qs h t ih=>
  obtain⟨h1,_,h2⟩:=h;by_cases e:p.1=k
  ·have e':q.1=k:=h1.symm.trans e;have b:Bk (q::qs) k=some q.2:=by simp[Bk,bx,e']
   rw[lY e,b];exact h2
  ·have e':¬q.1=k:=λz=>e (h1.trans z);have b:Bk (q::qs) k=Bk qs k:=by simp[Bk,bx,e']
   rw[lV e,b];exact ih
theorem KT.repl (r:KT H kvs xs)(k:List Key)(ry:RelV y u):
  KT H (kvs.map λkv=>if kv.1=k then(kv.1,y)else kv) (xs.map (putAt k u)):=by
 induction r with
 |nil=>exact .nil
 | @cons p q ps qs h t ih=>
  rw[d6,d6];refine .cons ?_ ih;obtain⟨h1,h2,h3⟩:=h;unfold putAt;by_cases e:p.1=k
  ·rw[if_pos e,if_pos (h1.symm.trans e)];exact⟨h1,h2,ry⟩
  ·rw[if_neg e,if_neg (λz=>e (h1.trans z))];exact⟨h1,h2,h3⟩
theorem KT.put (r:KT H kvs xs)(k:List Key)(hb:H b=some (.tup (k.map kV)))(ry:RelV y u):
  KT H (cC kvs k y) (storedH xs k b u):=by
 have e:(kvs.any λkv=>decide (kv.1=k))=(Bk xs k).isSome:=by
  rw[oS,(r.val k).isSome_eq,Am]
 unfold cC storedH;rw[e];by_cases q:(Bk xs k).isSome=true
 ·rw[if_pos q,if_pos q];exact r.repl k ry
 ·rw[if_neg q,if_neg q];exact Paired.snoc r ⟨rfl,hb,ry⟩
theorem KT.keeps (r:KT H kvs xs)(ht:∀b ys,H b=some (.tup ys)->H' b=some (.tup ys)):KT H' kvs xs:=
 Paired.mapP r λ_ _ z=> ⟨z.1,ht _ _ z.2.1,z.2.2⟩
theorem A28 (ok:CU P w H h)(e:Rd H a u):ObjOk P w H h a u:=e.ok ok
theorem kS (ok:CU P w H h)(e:Rd H a (.dK kvs)):kvs.length<=jv/\(a==n4)=false/\∃vs,KV kvs vs/\h.DictOf (cH P w) a vs:=
 show ObjOk P w H h a (.dK kvs)from A28 ok e
theorem pQ (ok:CU P w H h)(e:H a=some (.dK kvs)):kvs.length<=jv/\(a==n4)=false/\∃vs,KV kvs vs/\h.DictOf (cH P w) a vs:=kS ok (.inl e)
theorem jA (ok:CU P w H h)(e:H a=some (.tup (ks.map kV))):(qd (cH P w)).is h ks a:=by obtain⟨_,lu,r,o,h1,h2,n,h3⟩:=(show ObjOk P w H h a (.tup (ks.map kV))from ok a _ e);exact⟨o,lu.toArray,n,h1,h2,h3,by simpa using wY r⟩
theorem jU (ok:CU P w H h)(e:Rd H a (.dT kvs)):kvs.length<=jv/\(a==n4)=false/\
  ∃xs,KT H kvs xs/\h.DictOfH (qd (cH P w)) a xs:=by
 obtain⟨z,y,xs,r,o,es,ep,h1,h2,h3,h4,h5⟩:=(show ObjOk P w H h a (.dT kvs)from A28 ok e);refine⟨z,y,xs,r,o,es,ep,h1,h2,h3,h4,λx hx=> ?_,h5⟩;have all:∀{l:List (List Key×V)}{m:List (List Key×ju×jt)},KT H l m->∀x∈m,(qd (cH P w)).is h x.1 x.2.1:=by
  intro l m q
  induction q with
  |nil=>intro x hx;exact nomatch hx
  | @cons p q ps qs hq t ih=>
   intro x hx;rcases fe.mp hx with e|hx
   ·subst e;exact jA ok (by rw[←hq.1];exact hq.2.1)
   ·exact ih x hx
 exact all r x hx
theorem A4i (ok:CU P w H h)(e:H a=some (.dT kvs)):kvs.length<=jv/\(a==n4)=false/\
  ∃xs,KT H kvs xs/\h.DictOfH (qd (cH P w)) a xs:=jU ok (.inl e)
noncomputable def DGet (H:Hp)(a:ju)(y:V)(r:Option V):Prop:=
 (∃kvs k,Rd H a (.dK kvs)/\y=kV k/\r=bW kvs k)\/ ∃kvs k b,Rd H a (.dT kvs)/\y= .ref b/\H b=some (.tup (k.map kV))/\r=bW kvs k
noncomputable def DPut (H:Hp)(a:ju)(y v:V)(H':Hp):Prop:=
 (∃kvs k,H a=some (.dK kvs)/\y=kV k/\kvs.length<jv/\H'=upd H a (.dK (cC kvs k v)))\/
 ∃kvs k b,H a=some (.dT kvs)/\y= .ref b/\H b=some (.tup (k.map kV))/\kvs.length<jv/\H'=upd H a (.dT (cC kvs k v))
theorem DGet.k {H:Hp}{a:ju}{kvs:List (Key×V)}{k:Key}(e:H a=some (.dK kvs)):DGet H a (kV k) (bW kvs k):=.inl ⟨kvs,k,.inl e,rfl,rfl⟩
theorem DGet.t {H:Hp}{a b:ju}{kvs:List (List Key×V)}{k:List Key}(e:H a=some (.dT kvs))(eb:H b=some (.tup (k.map kV))):DGet H a (.ref b) (bW kvs k):=.inr ⟨kvs,k,b,.inl e,rfl,eb,rfl⟩
theorem DPut.k {H:Hp}{a:ju}{kvs:List (Key×V)}{k:Key}{v:V}(e:H a=some (.dK kvs))(hl:kvs.length<jv):DPut H a (kV k) v (upd H a (.dK (cC kvs k v))):=.inl ⟨kvs,k,e,rfl,hl,rfl⟩
theorem DPut.t {H:Hp}{a b:ju}{kvs:List (List Key×V)}{k:List Key}{v:V}(e:H a=some (.dT kvs))(eb:H b=some (.tup (k.map kV)))(hl:kvs.length<jv):
  DPut H a (.ref b) v (upd H a (.dT (cC kvs k v))):=.inr ⟨kvs,k,b,e,rfl,eb,hl,rfl⟩
theorem Inv.big (I:Inv X kb σ H s):n4<s.heap.objs.size:=by have h:kf<s.heap.objs.size:=(I.mod.glob.keeps I.bk).lt;exact jk (by decide) h
theorem B4g (hu:A.units+1<nj)(I:Inv X kb σ H s)(g:DGet H a y (some v))(ry:RelV y u)(h:∀w' s',Inv X kb σ H s'->RelV v w'->Q w' s'):
  jy (kg X.prog X.w) A (y8 (.ref a) u) Q E s:=by
 rcases g with⟨kvs,k,e,ey,l⟩| ⟨kvs,k,b,e,ey,eb,l⟩
 ·subst ey;obtain⟨z,hd,vs,rel,dd⟩:=kS I.hok e;obtain⟨w',hw,rw'⟩:=RelO.some_of (v:=v) (o:=BV vs k) (by rw[l];exact rel.val k);exact wpAny_getItem_of (iY ry) dd.mapOf hw (h w' _ (I.tok _) rw')
 ·subst ey;cases (show u=jx b from ry);obtain⟨z,hd,xs,rel,dd⟩:=jU I.hok e;obtain⟨w',hw,rw'⟩:=RelO.some_of (v:=v) (o:=(Bk xs k).map (·.2)) (by rw[l];exact rel.val k);obtain⟨p,hp,hp2⟩:=Option.map_eq_some_iff.mp hw;refine wpAny_getItem_heap (xh hu) (jA I.hok eb) dd hp ?_;rw[hp2];exact h w' _ (I.tok _) rw'
theorem B0u (hu:A.units+1<nj)(I:Inv X kb σ H s)(g:DGet H a y o)(ry:RelV y u)(h:∀s',Inv X kb σ H s'->Q (.bool (!o.isSome)) s'):
  jy (kg X.prog X.w) A (nv .NotIn u (.ref a)) Q E s:=by
 rcases g with⟨kvs,k,e,ey,l⟩| ⟨kvs,k,b,e,ey,eb,l⟩
 ·subst ey;obtain⟨z,hd,vs,rel,dd⟩:=kS I.hok e;refine wpAny_notIn_of (iY ry) hd dd.mapOf ?_;rw[←(rel.val k).isSome_eq,←l];exact h _ (I.tok _)
 ·subst ey;cases (show u=jx b from ry);obtain⟨z,hd,xs,rel,dd⟩:=jU I.hok e;refine wpAny_notIn_heap (xh hu) (jA I.hok eb) hd dd ?_;have q:=(rel.val k).isSome_eq;rw[Am]at q;rw[←q,←l];exact h _ (I.tok _)
theorem oY (I:Inv X kb σ H s)(mu:Mut (H a))(hs:my a s.heap h')(he:∃q,h'.get? a=some q)(new:ObjOk X.prog X.w (upd H a ob) h' a ob):
  Inv X kb σ (upd H a ob) {s with heap:=h',toks:=t'}:=
 I.write (x:=a) (e:=a) mu (.inl rfl) (λb q hb z=>(hs.2 b hb).trans z) he new
theorem qT (z:kvs.length<=jv)(hd:(a==n4)=false)(rel:KV kvs vs)(dd:h'.DictOf (cH P w) a vs):
  ObjOk P w H' h' a (.dK kvs):=⟨z,hd,vs,rel,dd⟩
theorem A4v (hu:A.units+1<nj)(I:Inv X kb σ H s)(g:DPut H a y v H')(ry:RelV y u)(rv:RelV v r)(h:∀s',Inv X kb σ H' s'->Q () s'):
  jy (kg X.prog X.w) A (setItem (.ref a) u r) Q E s:=by
 rcases g with⟨kvs,k,e,ey,l,eH⟩| ⟨kvs,k,b,e,ey,eb,l,eH⟩
 ·subst ey eH;obtain⟨z,hd,vs,rel,dd⟩:=pQ I.hok e;have hz:vs.length<=jv:=by rw[←rel.length];exact z
  have hl:(cC kvs k v).length<=jv:=by have:=nN kvs k v;omega
  refine wpAny_setItem_pairs (hsz:=hz) (iY ry) dd λh' dd' hs=>h _ ?_;have he:∃q,h'.get? a=some q:=let ⟨q,_,_,hq,_⟩:=dd';⟨q,hq⟩;exact oY I (by rw[e];exact p6) hs he (qT hl hd (rel.put k rv) dd')
 ·subst ey eH;cases (show u=jx b from ry);obtain⟨z,hd,xs,rel,dd⟩:=A4i I.hok e;have hz:xs.length<=jv:=by rw[←Paired.length rel];exact z
  have hl:(cC kvs k v).length<=jv:=by have:=nN kvs k v;omega
  refine wpAny_setItem_heap (hsz:=hz) (xh hu) (jA I.hok eb) dd λh' dd' hs=>h _ ?_;obtain⟨q,es,ep,hq,h2,h3,h4,_,h5⟩:=dd';refine oY I (by rw[e];exact p6) hs ⟨q,hq⟩ ⟨hl,hd,_,(rel.put k eb rv).keeps λc ys ec=> ?_,q,es,ep,hq,h2,h3,h4,h5⟩;rw[aN (uL ec e (λz=>nomatch z))];exact ec
noncomputable def A2h (i:om):Prop:=∀ov iv,BF i false ov iv=operate [ov,iv] (y8 ov iv)
theorem B5l {prog:j9}{w:kl}{A:mh}{E:jt->jw->Prop}{s:jw}{env:Env}{value slice:om}{pos:Pos}{T id:String}{Q:jt->jw->Prop}
  (hl:typeLookup (.type T) "__getitem__" =pure (some (.builtin id)))(hs:A2h slice)
  (h:jy (kg prog w) A (sf value env) (λo s₁=>jy (kg prog w) A (sf slice env) (λi s₂=>s₂.TypeIs o T/\jy (kg prog w) A (y8 o i) Q E s₂) E s₁) E s):
  jy (kg prog w) A (sf (.Subscript value slice pos) env) Q E s:=by
 refine B9 (rl h (λo s₁ h₁=>rl h₁ (λi s₂ h₂=> ?_) λ_ _ x=>x) λ_ _ x=>x);obtain⟨hT,h₂⟩:=h₂;unfold Au;refine CI ?_;rw[getitemInPython_of_ne hT.not_modules];refine CI (vc hT hl ?_);have fin:jy (kg prog w) A (BF slice false o i) (λr s₃=>jy (kg prog w) A (letTemporaryGo value o r>>=λ_=>pure r) Q E s₃) E s₂:=by
  rw[hs o i];exact wpAny_operating (rl h₂ (λr s₃ h₃=>CI (wpAny_letTemporaryGo (CJ h₃))) λ_ _ x=>x)
 first
  |exact CJ (CI fin)
  |exact CI (CJ (CI fin))
  |exact CI fin
theorem B24 (I:Inv X kb σ H s)(g:DGet H a y o):s.TypeIs (.ref a) "dict":=by
 rcases g with⟨kvs,k,e,_,_⟩| ⟨kvs,k,b,e,_,_,_⟩
 ·obtain⟨_,_,vs,_,dd⟩:=kS I.hok e;exact dd.typeIs
 ·obtain⟨_,_,xs,_,dd⟩:=jU I.hok e;exact dd.typeIs
noncomputable def B2n (td ty:TE):TE:=λσ H Q=>td σ H λx H1=>ty σ H1 λy H2=> ∃a v,x= .ref a/\DGet H2 a y (some v)/\Q v H2
noncomputable def A6v (ty td:TE):TE:=λσ H Q=>ty σ H λy H1=>td σ H1 λx H2=> ∃a o,x= .ref a/\DGet H2 a y o/\Q (.bl (!o.isSome)) H2
noncomputable def B3k (td ty tv:TE):TS:=λD σ H=>tv σ H λv H1=>td σ H1 λx H2=>ty σ H2 λy H3=> ∃a H4,x= .ref a/\DPut H3 a y v H4/\D.nx σ H4
theorem tH (hu:X.A.units+1<nj)(ho:PE X o td)(hi:PE X i ty)(hs:A2h i):PE X (.Subscript o i pos) (B2n td ty):=by intro kb s σ H Q I h;refine B5l PySem.F.slot_dict_getitem.lookup hs (thn (ho kb s σ H _ I h) λu s1 ⟨x,H1,I1,rx,q1⟩=>thn (hi kb s1 σ H1 _ I1 q1) λiv s2 ⟨y,H2,I2,ry,a,v,ex,g,q2⟩=> ?_);subst ex;obtain rfl:u=jx a:=rx;exact⟨B24 I2 g,B4g hu I2 g ry λw' s3 I3 rw'=> ⟨v,H2,I3,rw',q2⟩⟩
theorem A6g (hu:X.A.units+1<nj)(hi:PE X i ty)(ho:PE X o td):PC X .NotIn i o (A6v ty td):=by intro kb s σ H Q I h;refine thn (hi kb s σ H _ I h) λiv s1 ⟨y,H1,I1,ry,q1⟩=>thn (ho kb s1 σ H1 _ I1 q1) λu s2 ⟨x,H2,I2,rx,a,ov,ex,g,q2⟩=> ?_;subst ex;obtain rfl:u=jx a:=rx;exact B0u hu I2 g ry λs3 I3=> ⟨.bl (!ov.isSome),H2,I3,rfl,q2⟩
theorem vQ (hu:X.A.units+1<nj)(ho:PE X o td)(hi:PE X i ty)(hv:PE X value tv)(hs:BR value (some (.Subscript o i pos')) pos.line X.env=pure false):
  PS X (.Assign [.Subscript o i pos'] value pos) (B3k td ty tv):=by
 intro kb s σ H D I h;refine wpAny_Assign_Subscript (thn (hv kb s σ H _ I h) λr s1 ⟨v,H1,I1,rv,q1⟩=>thn (ho kb s1 σ H1 _ I1 q1) λu s2 ⟨x,H2,I2,rx,q2⟩=>thn (hi kb s2 σ H2 _ I2 q2) λiv s3 ⟨y,H3,I3,ry,a,H4,ex,g,q3⟩=> ?_) hs;subst ex;obtain rfl:u=jx a:=rx;exact A4v hu I3 g ry rv λs4 I4=> ⟨σ,H4,I4,q3⟩
theorem A1t (h:kj)(hb:n4<h.objs.size):ObjOk P w H (h.push {cls:=.type "dict",data:=.dict #[]}) h.objs.size (.dK []):=
 ⟨js _,beq_eq_false_iff_ne.mpr (Ne.symm (jo hb)),[],.nil,kj.DictOf.new h⟩
theorem B5g (h:kj)(hb:n4<h.objs.size):ObjOk P w H (h.push {cls:=.type "dict",data:=.dict #[]}) h.objs.size (.dT []):=
 ⟨js _,beq_eq_false_iff_ne.mpr (Ne.symm (jo hb)),[],.nil,_,#[],0,iy _ rfl,⟨rfl,rfl,rfl⟩,rfl,rfl,gg⟩
noncomputable def B0c:TE:=λ_ H Q=> ∀p,H p=none->Q (.ref p) (upd H p (.dK []))
noncomputable def B0w:TE:=λ_ H Q=> ∀p,H p=none->Q (.ref p) (upd H p (.dT []))
theorem A54:PE X (.Dict [] [] pos) B0c:=λkb s σ H Q I h=>
 AJ ⟨.ref s.heap.objs.size,_,I.laid (a:=s.heap.objs.size) (o:=.dK []) (t':=s.toks) (λ_ _ q=>CK _ q) (CT _) (A1t s.heap I.big),rfl,h _ (I.hok.fresh (CT _))⟩
theorem A1s:PE X (.Dict [] [] pos) B0w:=λkb s σ H Q I h=>
 AJ ⟨.ref s.heap.objs.size,_,I.laid (a:=s.heap.objs.size) (o:=.dT []) (t':=s.toks) (λ_ _ q=>CK _ q) (CT _) (B5g s.heap I.big),rfl,h _ (I.hok.fresh (CT _))⟩
noncomputable def qD:List (TE×TE)->St->Hp->(List (V×V)->Hp->Prop)->Prop
 | [],_,H,Q=>Q [] H
 | (tk,tv)::r,σ,H,Q=>tk σ H λx H1=>tv σ H1 λy H2=>qD r σ H2 λps H3=>Q ((x,y)::ps) H3
noncomputable abbrev VV:List (V×V)->List (jt×jt)->Prop:=Paired λp q=>RelV p.1 q.1/\RelV p.2 q.2
noncomputable def PPs (X:Cx)(pos:Pos)(keys:List (Option om))(values:List om)(trs:List (TE×TE)):Prop:=
 ∀(kb:List (ju×Obj))(s:jw)(σ:St)(H:Hp)(Q:List (V×V)->Hp->Prop),Inv X kb σ H s->qD trs σ H Q->
  jy (kg X.prog X.w) X.A (evalPairs (pairTrees keys values X.env pos)) (λvs s'=> ∃ps H',Inv X kb σ H' s'/\VV ps vs/\Q ps H') X.xe s
theorem A6b:PPs X pos [] [] []:=λkb s σ H Q I h=>pairTrees_nil_walk ⟨[],H,I,.nil,h⟩
theorem B3b (hk:PE X k tk)(hv:PE X v tv)(hr:PPs X pos ks vs trs):
  PPs X pos (some k::ks) (v::vs) ((tk,tv)::trs):=λkb s σ H Q I h=>
 pairTrees_cons_walk (thn (hk kb s σ H _ I h) λu s1 ⟨x,H1,I1,rx,q1⟩=>thn (hv kb s1 σ H1 _ I1 q1) λw2 s2 ⟨y,H2,I2,ry,q2⟩=>
  thn (hr kb s2 σ H2 _ I2 q2) λws s3 ⟨ps,H3,I3,rel,q3⟩=> ⟨(x,y)::ps,H3,I3,.cons ⟨rx,ry⟩ rel,q3⟩)
noncomputable def kW (kvs more:List (Key×V)):List (Key×V):=more.foldl (λacc kv=>cC acc kv.1 kv.2) kvs
theorem KV.merge:∀{more:List (Key×V)}{rs:List (Key×jt)}{kvs:List (Key×V)}{vs:List (Key×jt)},KV more rs->KV kvs vs->KV (kW kvs more) (merged vs rs):=by
 intro more rs kvs vs r;unfold KV at r
 induction r generalizing kvs vs with
 |nil=>intro q;exact q
 | @cons p q ps qs h t ih=>
  intro r0;have e:KV (cC kvs p.1 p.2) (stored vs q.1 q.2):=by
   have:=r0.put p.1 h.2;rw[←h.1];exact this
  exact ih e
theorem A1v:∀(more kvs:List (Key×V)),(kW kvs more).length<=kvs.length+more.length
 | [],kvs=>by show kvs.length<=kvs.length+0;omega
 |p::r,kvs=>by
  have h1:=A1v r (cC kvs p.1 p.2);have h2:=nN kvs p.1 p.2;show(kW (cC kvs p.1 p.2) r).length<=_;rw[c9];omega
theorem A13:∀{kvs:List (Key×V)}{ws:List (jt×jt)},VV (kvs.map λkv=>(kV kv.1,kv.2)) ws->∃rs,Carries (cH P w) ws rs/\KV kvs rs
 | [],_,r=>by rw[map_nil]at r;cases r;exact⟨[],p6,.nil⟩
 |p::kvs,_,r=>by
  rw[d6]at r;cases r with
  | @cons a b as bs h t=>
   obtain⟨rs,c,q⟩:=A13 (P:=P) (w:=w) t;obtain⟨b1,b2⟩:=b;exact⟨(p.1,b2)::rs,⟨iY h.1,rfl,c⟩,.cons ⟨rfl,h.2⟩ q⟩
noncomputable def kZ (trs:List (TE×TE)):TE:=λσ H Q=> ∀p,H p=none->qD trs σ (upd H p (.dK [])) λps H2=>H2 p=some (.dK [])/\∃kvs:List (Key×V),ps=kvs.map (λkv=>(kV kv.1,kv.2))/\kvs.length<=15/\Q (.ref p) (upd H2 p (.dK (kW [] kvs)))
theorem B50 (h:PPs X pos keys values trs)(hall:keys.all (·.isSome)=true)(hl:keys.length=values.length)(h0:keys≠[])
  (h15:keys.length<=15):PE X (.Dict keys values pos) (kZ trs):=by
 intro kb s σ H Q I q;have hn:=I.hok.fresh (CT s.heap.objs.size);have I1:=I.laid (a:=s.heap.objs.size) (o:=.dK []) (h':=s.heap.push {cls:=.type "dict",data:=.dict #[]}) (t':=s.toks) (λ_ _ q=>CK _ q) (CT _) (A1t s.heap I.big);refine wpAny_Dict_walk (knd:=cH X.prog X.w) hall hl h0 h15 (thn (h kb _ σ _ _ I1 (q _ hn)) λws s2 ⟨ps,H2,I2,rel,e,kvs,ep,lk,q2⟩=> ?_);subst ep;obtain⟨rs,c,rk⟩:=A13 (P:=X.prog) (w:=X.w) rel;obtain⟨z,hd,vs0,r0,dd⟩:=pQ I2.hok e;cases r0;refine⟨rs,c,dd,λh' dd' hs=> ⟨.ref s.heap.objs.size,_,?_,rfl,q2⟩⟩;have hz:(kW [] kvs).length<=jv:=by
  have h1:=A1v kvs [];rw[dk]at h1;rw[ko];omega
 have he:∃q,h'.get? s.heap.objs.size=some q:=let ⟨q,_,_,hq,_⟩:=dd';⟨q,hq⟩;exact oY I2 (by rw[e];exact p6) hs he (qT hz hd (rk.merge .nil) dd')
end L2
set_option maxHeartbeats 4000000
namespace L2
open PySem PySem.Spec PyProof.Rows
structure cG where
 cl:List (Str×ju)
 C:ju
 s:jw
 H:Hp
 fp:List ju
 pn:List (ju×Obj)
noncomputable def A51 (X:Cx)(N:List Str)(scope:yk)(Z:cG):Cx where
 prog:=X.prog
 w:=X.w
 K:=X.K
 mg:=X.mg
 base:=X.base
 A:=X.A
 N:=N
 s₀:=Z.s
 H₀:=Z.H
 env:=compEnvC scope Z.cl Z.C X.env
 outer:=X.stack
 stack:=X.stack
 ex:=Z.fp
 fn:=λ_=>false
 calm:=X.calm
 pn:=Z.pn
 xe:=λ_ _=>False
noncomputable def zD (ns:List (Str×k7))(N:List Str)(scope:yk)(frees:List (Str×Nat)):Prop:=
 (∀x∈scope.names,x.2≠ .cell/\(x.2= .local->scope.names.lookup x.1=some .local)/\(x.2= .free->ns.lookup x.1=some .cell\/ns.lookup x.1=some .free))/\
 ∀p∈frees,N[p.2]?=some p.1/\scope.names.lookup p.1=some .free/\(ns.lookup p.1=some .cell\/ns.lookup p.1=some .free)
instance (ns:List (Str×k7)) (N:List Str) (scope:yk) (frees:List (Str×Nat)):Decidable (zD ns N scope frees):=by unfold zD;infer_instance
noncomputable def σC (n:Nat)(frees:List (Str×Nat))(σ:St):St:=List.replicate n none++frees.map λp=>(σ[p.2]?).join
theorem A8m (hf:∀x∈scope.names,x.2= .free->∃c,env.cells.lookup x.1=some c):
  ∃cl,closureFor scope env=pure cl/\(∀x c,cl.lookup x=some c->env.cells.lookup x=some c)/\∀x,(x,m4)∈scope.names->∃c,cl.lookup x=some c:=by
 have go:∀(names:List (Str×k7))(cs:List (Str×ju)),(∀x∈names,x.2= .free->∃c,env.cells.lookup x.1=some c)->(∀x c,cs.lookup x=some c->env.cells.lookup x=some c)->
   ∃cl,(forIn names cs (λ(x:Str×k7) (r:List (Str×ju))=>(if (x.2==m4)=true then(do let a←cellOf env x.1;pure (yr ((x.1,a)::r)))else pure (yr r):Sem (ForInStep (List (Str×ju))))))=pure cl/\
    (∀x c,cl.lookup x=some c->env.cells.lookup x=some c)/\(∀x c,cs.lookup x=some c->∃c',cl.lookup x=some c')/\∀x,(x,m4)∈names->∃c,cl.lookup x=some c:=by
  intro names
  induction names with
  |nil=>intro cs _ h;exact⟨cs,rfl,h,λx c e=> ⟨c,e⟩,λx hx=>nomatch hx⟩
  |cons y r ih=>
   intro cs hf h;obtain⟨n,k⟩:=y;have hr:∀x∈r,x.2= .free->∃c,env.cells.lookup x.1=some c:=λx hx=>hf x (CP _ hx);by_cases hk:k= .free
   ·subst hk;obtain⟨c,hc⟩:=hf (n,.free) CQ rfl;have h2:∀x c',((n,c)::cs).lookup x=some c'->env.cells.lookup x=some c':=λx c' e=>by
     rw[dy]at e;cases hx:x==n with
     |true=>
      rw[hx]at e;have:x=n:=eq_of_beq hx;cases e;rw[this];exact hc
     |false=>rw[hx]at e;exact h x c' e
    obtain⟨cl,e1,e2,e3,e4⟩:=ih ((n,c)::cs) hr h2;refine⟨cl,?_,e2,λx c' e=> ?_,λx hx=> ?_⟩
    ·rw[forIn_cons];have:cellOf env n=pure c:=by unfold cellOf;rw[hc]
     simp only[beq_self_eq_true,if_true,this,pure_bind];exact e1
    ·cases hx:x==n with
     |true=>exact e3 x c (by rw[dy,hx])
     |false=>exact e3 x c' (by rw[dy,hx];exact e)
    ·rcases fe.mp hx with z|z
     ·cases z;exact e3 n c (by rw[dy,beq_self_eq_true])
     ·exact e4 x z
   ·obtain⟨cl,e1,e2,e3,e4⟩:=ih cs hr h;refine⟨cl,?_,e2,e3,λx hx=> ?_⟩
    ·rw[forIn_cons];have hb:(k==m4)=false:=by simpa using hk
     simp only[hb,km,if_false,pure_bind];exact e1
    ·rcases fe.mp hx with z|z
     ·cases z;exact absurd rfl hk
     ·exact e4 x z
 obtain⟨cl,e1,e2,_,e4⟩:=go scope.names [] hf (λx c e=>by simp at e);refine⟨cl,?_,e2,e4⟩;unfold closureFor
 first
  | (rw[e1];rfl)
  | (simp only[e1];rfl)
  |simp[e1]
theorem vT {env:Env}:∀{names:List (Str×k7)}{x:Str},names.lookup x=some .free->
  (names.map λ(n,k)=>if (k==m4&&env.scope.kind== .function&&env.kindOf n==some .cell)then(n,og)else(n,k)).lookup x=some .cell\/
  (names.map λ(n,k)=>if (k==m4&&env.scope.kind== .function&&env.kindOf n==some .cell)then(n,og)else(n,k)).lookup x=some .free
 | [],_,h=>by simp at h
 | (n,k)::r,x,h=>by
  have ih:=@vT env r x;show lookup x ((if (k==m4&&env.scope.kind== .function&&env.kindOf n==some .cell)=true then(n,og)else(n,k))::_)=_\/lookup x ((if (k==m4&&env.scope.kind== .function&&env.kindOf n==some .cell)=true then(n,og)else(n,k))::_)=_;cases hx:x==n with
  |true=>
   simp only[dy,hx]at h;cases h;by_cases hc:(m4==m4&&env.scope.kind== .function&&env.kindOf n==some .cell)=true
   ·rw[if_pos hc];left;rw[dy,hx]
   ·rw[if_neg hc];right;rw[dy,hx]
  |false=>
   simp only[dy,hx]at h;by_cases hc:(k==m4&&env.scope.kind== .function&&env.kindOf n==some .cell)=true
   ·rw[if_pos hc];simp only[dy,hx];exact ih h
   ·rw[if_neg hc];simp only[dy,hx];exact ih h
theorem relabel_back {env:Env}:∀{names:List (Str×k7)}{x:Str},
    ((names.map λ(n,k)=>if (k==m4&&env.scope.kind== .function&&env.kindOf n==some .cell)then(n,og)else(n,k)).lookup x=some .cell\/
     (names.map λ(n,k)=>if (k==m4&&env.scope.kind== .function&&env.kindOf n==some .cell)then(n,og)else(n,k)).lookup x=some .free)->
    (x,m4)∈names\/(x,og)∈names
  | [],_,h=>by simp at h
  | (n,k)::r,x,h=>by
    have ih:=@relabel_back env r x;replace h:lookup x ((if (k==m4&&env.scope.kind== .function&&env.kindOf n==some .cell)=true then(n,og)else(n,k))::_)=_\/lookup x ((if (k==m4&&env.scope.kind== .function&&env.kindOf n==some .cell)=true then(n,og)else(n,k))::_)=_:=h;cases hx:x==n with
    |true=>
      have e:x=n:=eq_of_beq hx;subst e;by_cases hc:(k==m4&&env.scope.kind== .function&&env.kindOf x==some .cell)=true
      · have:k= .free:=by
          simp only[pe]at hc;exact eq_of_beq hc.1.1
        subst this;exact .inl CQ
      · rw[if_neg hc]at h
        simp only[dy,hx,pq]at h;rcases h with h|h
        · subst h;exact .inr CQ
        · subst h;exact .inl CQ
    |false=>
      have h':_:=h;by_cases hc:(k==m4&&env.scope.kind== .function&&env.kindOf n==some .cell)=true
      · rw[if_pos hc]at h;simp only[dy,hx]at h
        rcases ih h with z|z
        · exact .inl (CP _ z)
        · exact .inr (CP _ z)
      · rw[if_neg hc]at h;simp only[dy,hx]at h
        rcases ih h with z|z
        · exact .inl (CP _ z)
        · exact .inr (CP _ z)
noncomputable abbrev TC:=St->Hp->(St->Hp->Prop)->Prop
noncomputable def cP (J:It)(g:TG)(tb:TS)(D:dC)(σ:St)(H:Hp):Prop:=∃W:Nat->Nat->St->Hp->Prop,(∃m,W 0 m σ H)/\∀i m σ H,W i m σ H->
 (J.stop i H/\D.nx σ H)\/(J.go i H/\∃N:St->Hp->Prop,(∀σ' H',N σ' H'->∃m',m'<m/\W (i+1) m' σ' H')/\∀x H',J.yld i H x H'->g x σ H' λσ2 H2=>tb {D with nx:=N,ct:=N,bk:=D.nx} σ2 H2)
noncomputable def eC (Q:St->Hp->Prop):dC:={nx:=Q,rt:=λ_ _=>False}
noncomputable def cL (tt:TT)(tb:TC):TS:=λD σ H=>tt σ H λb H1=>if b=true then tb σ H1 D.nx else D.nx σ H1
noncomputable def eN (l:ju)(te:TE):TC:=λσ H Q=>te σ H λv H1=> ∃xs,H1 l=some (.lst xs)/\xs.length<jv/\Q σ (upd H1 l (.lst (xs++[v])))
noncomputable def oP (wi:TI)(g:TG)(tt:TT)(tb:TC):TC:=λσ H Q=>wi σ H λJ H1=>cP J g (cL tt tb) (eC Q) σ H1
noncomputable def wX (wi:TI)(g:cG->TG)(tt:cG->TT)(te:cG->TE)(n:Nat)(frees:List (Str×Nat)):TE:=λσ H Q=>wi σ H λJ H1=> ∀(Z:cG)(l:ju),H1 l=none->
 cP J (g Z) (cL (tt Z) (eN l (te Z))) (eC λ_ H'=>Q (.ref l) H') (σC n frees σ) (upd H1 l (.lst []))
noncomputable def A43 (wi:TI)(g:cG->TG)(tt:cG->TT)(wi2:cG->TI)(g2:cG->TG)(tt2:cG->TT)(te:cG->TE)(n:Nat)(frees:List (Str×Nat)):TE:=λσ H Q=>wi σ H λJ H1=> ∀(Z:cG)(l:ju),H1 l=none->
 cP J (g Z) (cL (tt Z) (oP (wi2 Z) (g2 Z) (tt2 Z) (eN l (te Z)))) (eC λ_ H'=>Q (.ref l) H') (σC n frees σ) (upd H1 l (.lst []))
noncomputable def testsOf (CD:List om)(env:Env):Sem Bool:=forIn CD true λc r=>if r=true then do let ok←isTrue c env (sf c env);pure (yr ok)else pure (yr r)
noncomputable def PTs (Y:Cx)(CD:List om)(t:TT):Prop:=∀(kb:List (ju×Obj))(s:jw)(σ:St)(H:Hp)(Q:Bool->Hp->Prop),Inv Y kb σ H s->t σ H Q->
 jy (kg Y.prog Y.w) Y.A (testsOf CD Y.env) (TP Y kb σ Q) Y.xe s
noncomputable def gK:TT:=λ_ H Q=>Q true H
theorem cF:PTs Y [] gK:=λkb s σ H Q I h=>wpAny_tests_nil ⟨H,I,h⟩
theorem dX (hc:PT Y c t):PTs Y [c] t:=λkb s σ H Q I h=>wpAny_tests_one (hc kb s σ H Q I h)
noncomputable def PB (Y:Cx)(tail:(Unit->Sem Fin)->Sem Fin)(r:TC):Prop:=∀(kb:List (ju×Obj))(s:jw)(σ:St)(H:Hp)(Q:St->Hp->Prop)(Q':Fin->jw->Prop)(k:Unit->Sem Fin),Inv Y kb σ H s->r σ H Q->
 (∀σ' H' s',Inv Y kb σ' H' s'->Q σ' H'->jy (kg Y.prog Y.w) Y.A (k ()) Q' (λ_ _=>False) s')->jy (kg Y.prog Y.w) Y.A (tail k) Q' (λ_ _=>False) s
theorem hV (h:jy M A t Q E s)(hx:E=λ_ _=>False):jy M A t Q E' s:=by subst hx;exact rl h (λ_ _ q=>q) λ_ _ z=>z.elim
noncomputable def pX (CC:om)(acc:jt)(env:Env)(k:Unit->Sem Fin):Sem Fin:=(sf CC env>>=λx=>call (.builtin "list.append") [acc,x]>>=λ_=>pure ())>>=k
theorem uJ (hx:Y.xe=λ_ _=>False)(he:PE Y CC te):PB Y (pX CC (.ref l) Y.env) (eN l te):=by intro kb s σ H Q Q' k I h hk;refine CI (CI (thn (hV (he kb s σ H _ I h) hx) λv s1 ⟨x,H1,I1,r1,q1⟩=> ?_));obtain⟨xs,e,hz,q⟩:=q1;refine CI (thn (hV (jX kb s1 σ H1 (.ref l) [x] (.ref l) [v] (λ_ H2=>Q σ H2) I1 rfl (.cons r1 .nil) ⟨l,xs,x,rfl,rfl,e,hz,q⟩) hx) λu s2 ⟨y,H2,I2,r2,q2⟩=> ?_);exact CJ (hk σ H2 s2 I2 q2)
noncomputable def kB (e:om)(d:Nat)(it acc:jt)(env:Env)(tg iter:om)(CD:List om)(tail:(Unit->Sem Fin)->Sem Fin):Sem Fin:=
 BQ iter.pos>>=λ_=>ub it>>=λr=>match r with
  |none=>pure (.done .next)
  |some v=>yq tg it v>>=λ_=>B8 tg env v>>=λ_=>testsOf CD env>>=λok=>
   if ok=true then tail (λ_=>again (.compLoop e d it acc env))else again (.compLoop e d it acc env)
theorem A2a (CC tg iter:om)(CD:List om)(scope:yk)(pos:Pos)(it acc:jt)(env:Env):
  BH (.ListComp CC [⟨tg,iter,CD,0⟩] scope pos) 0 it acc env=kB (.ListComp CC [⟨tg,iter,CD,0⟩] scope pos) 0 it acc env tg iter CD (pX CC acc env):=by rfl
theorem B14 (CC tg iter:om)(CD:List om)(g:B0)(scope:yk)(pos:Pos)(it acc:jt)(env:Env):
  BH (.ListComp CC [g,⟨tg,iter,CD,0⟩] scope pos) 1 it acc env=kB (.ListComp CC [g,⟨tg,iter,CD,0⟩] scope pos) 1 it acc env tg iter CD (pX CC acc env):=by rfl
noncomputable def qO (e:om)(iter:om)(acc:jt)(env:Env)(k:Unit->Sem Fin):Sem Fin:=
 sf iter env>>=λx=>BQ iter.pos>>=λ_=>ou iter env x>>=λx=>Ak [x] (A7 x)>>=λi=>runOwn (.compStart e 1 i acc env) env>>=λ_=>k ()
theorem B4p (CC tg iter tg2 iter2:om)(CD ifs2:List om)(scope:yk)(pos:Pos)(it acc:jt)(env:Env):
  BH (.ListComp CC [⟨tg,iter,CD,0⟩,⟨tg2,iter2,ifs2,0⟩] scope pos) 0 it acc env=kB (.ListComp CC [⟨tg,iter,CD,0⟩,⟨tg2,iter2,ifs2,0⟩] scope pos) 0 it acc env tg iter CD
   (qO (.ListComp CC [⟨tg,iter,CD,0⟩,⟨tg2,iter2,ifs2,0⟩] scope pos) iter2 acc env):=by rfl
theorem jG {α β:Type}{F:α->β->Prop}{l:List α}{m:List β}{i:Nat}{a:α}(h:Paired F l m)(e:l[i]?=some a):∃b,m[i]?=some b/\F a b:=by
 induction h generalizing i with
 |nil=>simp at e
 |cons r t ih=>cases i with|zero=>cases e;exact⟨_,rfl,r⟩|succ i=>exact ih (by simpa using e)
theorem A8x {α β:Type}{F:α->β->Prop}{l:List α}{m:List β}{i:Nat}{b:β}(h:Paired F l m)(e:m[i]?=some b):∃a,l[i]?=some a/\F a b:=by
 induction h generalizing i with
 |nil=>simp at e
 |cons r t ih=>cases i with|zero=>cases e;exact⟨_,rfl,r⟩|succ i=>exact ih (by simpa using e)
theorem oJ (h:l.length=2):∃a b,l=[a,b]:=by
 cases l with
 |nil=>cases h
 |cons a l=>obtain⟨b,rfl⟩:=List.length_eq_one_iff.mp (Ci h);exact⟨a,b,rfl⟩
theorem xI (h:l.length=3):∃a b c,l=[a,b,c]:=by
 cases l with
 |nil=>cases h
 |cons a l=>obtain⟨b,c,rfl⟩:=oJ (Ci h);exact⟨a,b,c,rfl⟩
theorem A3x (h:l.length=4):∃a b c d,l=[a,b,c,d]:=by
 cases l with
 |nil=>cases h
 |cons a l=>obtain⟨b,c,d,rfl⟩:=xI (Ci h);exact⟨a,b,c,d,rfl⟩
theorem lQ
  (hx:Y.xe=λ_ _=>False)(hc:Y.calm=true)(heq:BH ce d (.ref it) (.ref l) Y.env=kB ce d (.ref it) (.ref l) Y.env tg iter CD tail)(hg:PG Y tg g)(ht:PTs Y CD tt)(hb:PB Y tail tb)
  (I:Inv Y kb σ H s)(T:fX Y.prog Y.w Y.K tg J fp it tn)(st:tn 0 s.heap)(f2:∀b∈fp,fO Y kb H b)(h:cP J g (cL tt tb) (eC Q) σ H)
  (hs:∀Q E s,jy (kg Y.prog Y.w) Y.A ((BH ce d (.ref it) (.ref l) Y.env).onRaise λx=>do noteFrame x Y.env;theTreesLotGoes x) Q E s->jy (kg Y.prog Y.w) (Y.A.under (.compLoop ce d (.ref it) (.ref l) Y.env)) ((kg Y.prog Y.w).den (.compLoop ce d (.ref it) (.ref l) Y.env)) Q E s:=by exact λ_ _ _ h=>h):
  tq (kg Y.prog Y.w) Y.A (.compLoop ce d (.ref it) (.ref l) Y.env) (λr s'=>r= .ok .next/\∃σ' H',Inv Y kb σ' H' s'/\Q σ' H') s:=by
 obtain⟨W,⟨m0,w0⟩,turn⟩:=h;have stat:∀{H':Hp},(∀b∈fp,H' b=none)->∀b∈fp,fO Y kb H' b:=λhn b hb=> ⟨hn b hb,(f2 b hb).2⟩;refine codeAny_loop rfl (λn s'=> ∃i σ' H',Inv Y kb σ' H' s'/\tn i s'.heap/\(∀b∈fp,H' b=none)/\W i n σ' H') (λn s3 hI=> ?_) m0 ⟨0,σ,H,I,st,λb hb=>(f2 b hb).1,w0⟩;obtain⟨i,σ3,H3,I3,st3,fr3,w3⟩:=hI;refine hs _ _ _ ?_;refine wpAny_noted ?_;rw[heq];unfold kB;refine CI (ua (CI ?_));rcases turn i n σ3 H3 w3 with⟨stop,qn⟩| ⟨go,N,hN,step⟩
 ·refine thn (T.done Y rfl rfl rfl hc i kb s3 σ3 H3 _ I3 (stat fr3) st3 stop) λr s4 ⟨hr,I4⟩=> ?_;subst hr;exact CJ ⟨rfl,σ3,H3,I4,qn⟩
 ·refine thn (T.item Y rfl rfl rfl hc i kb s3 σ3 H3 _ I3 (stat fr3) st3 go) λr s4 ⟨u,hr,h4⟩=> ?_;subst hr;refine CI (thn h4 λ_ s5 ⟨x,H5,I5,r5,y5,st5,fr5⟩=> ?_);have I5':=I5.pinned (stat fr5) (T.obj _ _ st5);refine CI (thn (hV (hg _ s5 σ3 H5 x u _ I5' r5 (step x H5 y5)) hx) λ_ s6 ⟨σ6,H6,I6,q6⟩=> ?_);refine CI (thn (hV (ht _ s6 σ6 H6 _ I6 q6) hx) λok s7 ⟨H7,I7,q7⟩=> ?_);have again:∀{σ7:St}{H7:Hp}{s7:jw},Inv Y (kb++lL fp s5.heap) σ7 H7 s7->N σ7 H7->∃m,m<n/\∃i σ' H',Inv Y kb σ' H' s7/\tn i s7.heap/\(∀b∈fp,H' b=none)/\W i m σ' H':=fun{σ7 H7 s7} I7 n7=>by
   obtain⟨m',hm,w7⟩:=hN σ7 H7 n7;refine⟨m',hm,i+1,σ7,H7,I7.unpinned,T.keep _ _ _ st5 λb hb o e=>(I7.pin (b,o) (fc _ (fc _ (oD hb e)))).1,λb hb=> ?_,w7⟩;obtain⟨o,e,d⟩:=T.obj _ _ st5 b hb;exact(I7.pin (b,o) (fc _ (fc _ (oD hb e)))).2.1
  cases ok with
  |false=>
   rw[if_neg ki]at q7⊢;exact CJ ⟨rfl,again I7 q7⟩
  |true=>
   rw[if_pos rfl]at q7⊢;exact hV (hb _ s7 σ6 H7 _ _ _ I7 q7 λσ8 H8 s8 I8 q8=>CJ ⟨rfl,again I8 q8⟩) rfl
theorem A3y
  (h0:tq (kg prog w) A (.compLoop (.ListComp CC [g,⟨target,iter,CD,0⟩] scope pos) 1 it acc env) R s)
  (h:jy (kg prog w) A (A7 it) (λit' s'=>tq (kg prog w) A (.compLoop (.ListComp CC [g,⟨target,iter,CD,0⟩] scope pos) 1 it' acc env) R s')
   (notedBy (kg prog w) A env λx s'=>R (.error x) s') s):
  tq (kg prog w) A (.compStart (.ListComp CC [g,⟨target,iter,CD,0⟩] scope pos) 1 it acc env) R s:=by
 refine Bl ?_
 show jy _ _ ((compStart (.ListComp CC [g,⟨target,iter,CD,0⟩] scope pos) 1 it acc env).onRaise (λx=>do noteFrame x env;BQ theWindowsPlace)) _ _ s;refine wpAny_notedAt ?_;unfold compStart;show jy _ _ (ask>>=_) _ _ s;refine CI (uj (wpAny_ite ?_))
 split
 ·first
   |exact CI (CJ (CJ (Ct rfl h0)))
   |exact CJ (Ct rfl h0)
 ·first
   |exact CI (pj (CI (ua (CI (rl h (λit' s' h'=>CJ (Ct rfl h')) λ_ _ x=>x)))))
   | (refine CI (pj ?_);show jy _ _ (BQ iter.pos>>=_) _ _ s;exact CI (ua (CI (rl h (λit' s' h'=>CJ (Ct rfl h')) λ_ _ x=>x))))
theorem A5t (hx:Y.xe=λ_ _=>False)(hc:Y.calm=true)(hi:PI Y tg iter wi)(hg:PG Y tg g)(ht:PTs Y CD tt)(he:PE Y CC te)
  (hs:∀x,ou iter Y.env x=pure x:=by intro _;rfl):
  PB Y (qO (.ListComp CC [g1,⟨tg,iter,CD,0⟩] scope pos) iter (.ref l) Y.env) (oP wi g tt (eN l te)):=by
 intro kb s σ H Q Q' k I h hk;unfold qO;refine CI (thn (hV (hi kb s σ H _ I h) hx) λv s1 h1=> ?_);refine CI (ua (CI (ym (hs v) (CI (l8 (thn (hV h1 hx) λitv s2 h2=> ?_))))));obtain⟨it,fp,tn,J,H2,e,I2,T,st2,f2,q2⟩:=h2;subst e;have L:tq (kg Y.prog Y.w) Y.A (.compLoop (.ListComp CC [g1,⟨tg,iter,CD,0⟩] scope pos) 1 (.ref it) (.ref l) Y.env) (λr s'=>r= .ok .next/\∃σ' H',Inv Y kb σ' H' s'/\Q σ' H') s2:=
  lQ hx hc (B14 ..) hg ht (uJ hx he) I2 T st2 f2 q2
 refine CI (wpAny_runOwn (qg (A3y L (T.self _ _ _ _ _ st2 L)) λr s3 h3=> ?_));obtain⟨rfl,σ3,H3,I3,q3⟩:=h3;exact hk σ3 H3 s3 I3 q3
end L2
namespace PySem
open Sem (wp)
open AutoSeq1 (wpAny_loadPart')
theorem A47 (hit:s.heap.IsTupleIter it l i)
  (hl:s.heap.IsTuple l items)(hx:items[i]?=some x)
  (hQ:∀h',h'.IsTupleIter it l (i+1)->my it s.heap h'->Q x {s with heap:=h'}):
  jy (kg prog w) A (pf (.ref it)) Q E s:=by
 obtain⟨o,ho,hc,hd⟩:=id hit;obtain⟨ol,hol,_,nl,hdl⟩:=hl;unfold pf;refine CI (nc (name:=qi "__next__") hit.typeIs rq
  (ly rq hit.typeIs y9 ?_ (yt _)))
 show jy _ _ (field (.ref it) 0>>=_) _ _ s;refine CI (oi ho hd (x:=.ref l) rfl ?_);show jy _ _ (if (jx l==ke)=true then _ else _) _ _ s;rw[if_neg (show¬((jx l==ke)=true)from ki)];show jy _ _ (field (.ref it) 1>>=_) _ _ s;refine CI (oi ho hd (x:=.int i 0) rfl ?_);show jy _ _ (BW (.ref l)>>=_) _ _ s;refine CI (n9 hol hdl ?_);simp only[lq,hx];refine CI (zu ho hd (by simp) (CJ ⟨x,rfl,CJ (hQ _ ?_ (uh ..))⟩));exact⟨_,i5 _ ho (Obj.isFreed_of_fields (Obj.data_mapFields hd _)),(Obj.cls_mapFields ..).trans hc,by
  rw[Obj.data_mapFields hd];simp[vh]⟩
theorem A9o (hh:A.handled=none)
  (hit:s.heap.IsTupleIter it l i)(hl:s.heap.IsTuple l items)(hx:items[i]?=none)
  (hE:∀h' e,BI it s.heap h'->(∃o,h'.get? e=some o/\o.cls= .type "StopIteration")->E (.ref e) {s with heap:=h'}):
  jy (kg prog w) A (pf (.ref it)) Q E s:=by
 obtain⟨o,ho,hc,hd⟩:=id hit;obtain⟨ol,hol,_,nl,hdl⟩:=hl;unfold pf;refine CI (nc (name:=qi "__next__") hit.typeIs rq
  (ly rq hit.typeIs y9 ?_ (yt _)))
 show jy _ _ (field (.ref it) 0>>=_) _ _ s;refine CI (oi ho hd (x:=.ref l) rfl ?_);show jy _ _ (if (jx l==ke)=true then _ else _) _ _ s;rw[if_neg (show¬((jx l==ke)=true)from ki)];show jy _ _ (field (.ref it) 1>>=_) _ _ s;refine CI (oi ho hd (x:=.int i 0) rfl ?_);show jy _ _ (BW (.ref l)>>=_) _ _ s;refine CI (n9 hol hdl ?_);simp only[lq,hx];refine CI (pj (CI (zu ho hd (by simp) ?_)));show jy _ _ (newExc (.type "StopIteration") []>>=_) _ _ _;refine CI ?_;simp only[newExc,newTuple];refine CI (k8 ?_ (by size_fits));refine CI (m:=vq _ _) (ym (a:=ke) (by first|rfl| (simp only[vq];rfl)) ?_);refine k8 ?_ (by size_fits);simp only[raiseNew];refine CI (B1 ?_)
 first|rw[show A.in1.handled=none from hh]|rw[hh]
 refine CI (CJ (wpAny_throw ?_));exact hE _ _ (((uh ..).extBut.push _).push _) ⟨_,iy _ rfl,rfl⟩
theorem Draws.tuple (hh:A.handled=none)(it l:ju)(hne:l≠it)(items:Array jt):
  Draws prog w A it [it,l] items.size (λi v=>items[i]?=some v) (λi h=>h.IsTupleIter it l i/\h.IsTuple l items)where
 live:=λ_ _ st=>let ⟨o,ho,_⟩:=st.1;⟨o,ho⟩
 frame:=λ_ _ _ st hk=> ⟨st.1.at λo e=>hk it (by simp) o e,let ⟨o,ho,r⟩:=st.2;⟨o,hk l (by simp) o ho,r⟩⟩
 item:=λi s Q E hi st hQ=>by
  refine A47 st.1 st.2 (x:=items[i]) (by simp[hi]) λh' hit' B3=> ?_;exact hQ _ h' s.toks (by simp[hi]) ⟨hit',let ⟨o,ho,r⟩:=st.2;⟨o,(B3.2 l hne).trans ho,r⟩⟩ B3
 done:=λs Q E st hE=>A9o hh st.1 st.2 (by simp) hE
theorem A6h (l:ju)(items:Array jt)(n:Nat)(dct:Option ju)(sl:Array (Option jt)):
  Meets (j6.«enumerate.__new__» ⟨[.type "enumerate",.ref l],[]⟩) (λ_ R s=>s.heap.get? l=some {cls:=.type "tuple",dict:=dct,data:=.seq items n,slots:=sl}/\
   R (.ok (.ret (.ref (s.heap.push {cls:=.type "tuple_iterator",data:=.fields #[.ref l,.int 0 0]}).objs.size)))
    {s with heap:=(s.heap.push {cls:=.type "tuple_iterator",data:=.fields #[.ref l,.int 0 0]}).push {cls:=.type "enumerate",data:=.fields #[.none,.bool false,.ref s.heap.objs.size,vh 0,.none,.none]}}):=
 .of_wp λprog w A R s h=>by
  obtain⟨hp,g,d,tk,os⟩:=s;obtain⟨hl,h⟩:=h;have hsub:=sub_enumerate;have hL:Bc (jw.heap ⟨hp,g,d,tk,os⟩) l items:=⟨_,hl,rfl,n,rfl⟩
  wp_walk using n8 hl
  refine wpAny_stack_any λst=>CJ ?_
  split
  ·rename_i c _ _ _ _ _;cases (c==oj "enumerate")
   ·wp_walk using n8 hl,qe hL
    exact⟨_,rfl,h⟩
   ·wp_walk using n8 hl,qe hL
    exact⟨_,rfl,h⟩
  ·wp_walk using n8 hl,qe hL
   exact⟨_,rfl,h⟩
theorem B5h (hL:s.heap.IsTuple l items)
  (h:∀h',IsEnum h' (s.heap.objs.size+1) s.heap.objs.size 0 .none->h'.IsTupleIter s.heap.objs.size l 0->h'.objs.size=s.heap.objs.size+2->
   (∀b o,s.heap.get? b=some o->h'.get? b=some o)->Q (.ref (s.heap.objs.size+1)) {s with heap:=h'}):
  jy (kg prog w) A (call (.type "enumerate") [.ref l]) Q E s:=by
 obtain⟨⟨c,dct,dt,sl⟩,hl,hc,n,hd⟩:=hL;replace hc:c= .type "tuple":=hc;replace hd:dt= .seq items n:=hd;subst hc hd;refine callType_new F.called_enumerate (by decide) (F.typeCall_enumerate_1 _) (F.newCall_enumerate_1 _) (λobj=>F.args_object_init_2 obj _) F.entry_enumerate_new
  (A6h l items n dct sl) ⟨hl,?_⟩
 have hz:(s.heap.push {cls:=.type "tuple_iterator",data:=.fields #[.ref l,.int 0 0]}).objs.size=s.heap.objs.size+1:=i6 ..;show _/\_;rw[hz];have he:IsEnum ((s.heap.push {cls:=.type "tuple_iterator",data:=.fields #[.ref l,.int 0 0]}).push
   {cls:=.type "enumerate",data:=.fields #[.none,.bool false,.ref s.heap.objs.size,vh 0,.none,.none]}) (s.heap.objs.size+1) s.heap.objs.size 0 .none:=by
  have:=iy (s.heap.push {cls:=.type "tuple_iterator",data:=.fields #[.ref l,.int 0 0]})
   (o:={cls:=.type "enumerate",data:=.fields #[.none,.bool false,.ref s.heap.objs.size,vh 0,.none,.none]}) rfl
  rw[hz]at this;exact this
 refine⟨⟨_,he,rfl⟩,h _ he ⟨_,CK _ (iy _ rfl),rfl,rfl⟩ (by rw[i6,hz]) λb o x=>CK _ (CK _ x)⟩
open Builtin
open AutoSeq1 (wpAny_loadPart')
namespace F
theorem lk_list_keys:typeLookup (.type "list") "keys" =pure none:=by rw[Bm,ya];kernel_rfl
theorem entry_dict_update_loop:Cj table "dict.update.loop" =some j6.«dict.update.loop»:=entryFor_of_tree (by kernel_rfl)
theorem plain_dict_update_loop:plainId "dict.update.loop" =true:=by decide +kernel
end F
theorem B1f (hx:s.heap.get? a=some {cls:=.type "list",dict:=none,data:=.seq xs k,slots:=sl})(hA:A.handled=none)
  (h:∀h' tk,(∀b o,s.heap.get? b=some o->h'.get? b=some o)->Q none {s with heap:=h',toks:=tk}):jy (kg prog w) A (getAttr? (.ref a) "keys") Q E s:=by
 obtain⟨hp,g,d,tk,os⟩:=s;have hT:∀tk',(⟨hp,g,d,tk',os⟩:jw).TypeIs (.ref a) "list":=λ_=> ⟨_,hx,rfl⟩;have f1:=sub_AttributeError;have f3:=wx.lookup;have f4:=wx.bind (.ref a);have f5:=am_list_getattr_none;unfold getAttr? getAttrBy? getAttrBy
 repeat (any_goals (first|assumption|exact hT _| ((with_reducible show jy _ _ (call (jt.builtin "list.__getattribute__") _ _) _ _ _);refine call_meets wx (hT _) am_entry_list_getattribute (F.args_list_getattribute_2 _ _) (meets_getattribute_miss_list a xs k sl "keys" _ F.lk_list_keys (by decide +kernel) (by decide +kernel)) ⟨hx,hA,λh' tk' e hx'=> ?_⟩)|wp_step))
 obtain⟨t',u',he⟩:=hx'.there;show jy _ _ (getattributeRaised _ _ _ _ _ _ _) _ _ _;unfold getattributeRaised
 repeat (any_goals (first|assumption|wp_step))
 exact h _ _ hx'.keeps
end PySem
namespace L2
open PySem PySem.Spec PyProof.Rows
theorem jH:cV X (.builtin "isinstance") (λxs H Q=> ∃x T t b,xs=[x,.ty T]/\TyOf X.K H x t/\W.kitOne X.K t (.type T)=some b/\Q (.bl b) H):=by intro kb s σ H xs us Q I r h;obtain⟨x,T,t,b,rfl,ty,e,q⟩:=h;obtain⟨u,w',rfl,rx,rT⟩:=jT r;cases (show w'=oj T from rT);exact A8w I rx ty e λtk=> ⟨.bl b,H,I.tok _,rfl,q⟩
theorem uD:∀{bs:List Bool}{us:List jt},Vals (bs.map V.bl) us->LSm.BoolsAre us bs
 | [],_,.nil=> .nil
 |b::bs,_,.cons r t=>by
  cases (show _=rj b from r);exact .cons b (uD t)
theorem iF (hc:X.calm=true):cV X (.builtin "all") (λxs H Q=> ∃(p:ju)(bs:List Bool),xs=[.ref p]/\CW X.K H p (bs.map V.bl)/\Q (.bl (bs.all id)) H):=by
 intro kb s σ H xs us Q I r h;obtain⟨p,bs,rfl,hq,q⟩:=h;obtain⟨u,rfl,rx⟩:=dR r;cases rx;obtain⟨lu,rv,pl,hz⟩:=I.list hq;have hb:=uD rv;have CA:p<s.heap.objs.size:=by obtain⟨_,e,_⟩:=pl.isList;exact CO e
 refine call_all_walk (tj pl.isList ?_);refine⟨s.heap.objs.size,[s.heap.objs.size,p],[s.heap.objs.size],lu.toArray.size,_,_,λi=>(bs[i]?).getD true,rfl,Ca (A:=X.A.in1) (by simp[I.ok.hd hc]) _ p (jo CA) lu.toArray,⟨⟨_,iy _ rfl,rfl,rfl⟩,pl.isList.push _⟩,λi v s' Q' E' hP hQ=> ?_,λh' tk hk=> ?_⟩
 ·obtain⟨b,e,rfl⟩:=hb.get i v (by simpa using hP);dsimp only at hQ;rw[e]at hQ;exact oo hQ
 ·have e:((kz lu.toArray.size).all λi=>(bs[i]?).getD true)=bs.all id:=by rw[ic,hb.length,LSm.range_all]
  rw[e];exact⟨.bl _,H,I.kept (h':=h') (t':=tk) (B2 hk),rfl,q⟩
theorem tD (hc:X.calm=true):cV X (.builtin "any") (λxs H Q=> ∃(p:ju)(bs:List Bool),xs=[.ref p]/\CW X.K H p (bs.map V.bl)/\Q (.bl (bs.any id)) H):=by
 intro kb s σ H xs us Q I r h;obtain⟨p,bs,rfl,hq,q⟩:=h;obtain⟨u,rfl,rx⟩:=dR r;cases rx;obtain⟨lu,rv,pl,hz⟩:=I.list hq;have hb:=uD rv;have CA:p<s.heap.objs.size:=by obtain⟨_,e,_⟩:=pl.isList;exact CO e
 refine call_any_walk (tj pl.isList ?_);refine⟨s.heap.objs.size,[s.heap.objs.size,p],[s.heap.objs.size],lu.toArray.size,_,_,λi=>(bs[i]?).getD false,rfl,Ca (A:=X.A.in1) (by simp[I.ok.hd hc]) _ p (jo CA) lu.toArray,⟨⟨_,iy _ rfl,rfl,rfl⟩,pl.isList.push _⟩,λi v s' Q' E' hP hQ=> ?_,λh' tk hk=> ?_⟩
 ·obtain⟨b,e,rfl⟩:=hb.get i v (by simpa using hP);dsimp only at hQ;rw[e]at hQ;exact oo hQ
 ·have e:((kz lu.toArray.size).any λi=>(bs[i]?).getD false)=bs.any id:=by rw[ic,hb.length,LSm.range_any]
  rw[e];exact⟨.bl _,H,I.kept (h':=h') (t':=tk) (B2 hk),rfl,q⟩
theorem Inv.turnedL {fp:List ju}{h':kj}{t':Nat}(I:Inv X kb σ H s)(k:∀b o,b∉fp->s.heap.get? b=some o->h'.get? b=some o)(hf:∀b∈fp,fO X kb H b):Inv X kb σ H {s with heap:=h',toks:=t'}:=by
 have nfp:∀b u,H b=some u->b∉fp:=λb u e z=>by rw[(hf b z).1]at e;cases e
 refine I.step (g':=s.gens) (d':=s.drawn) (ch:=fp) (λb hb=> ⟨(hf b hb).2.2.2.1,(hf b hb).2.1,(hf b hb).2.2.2.2.1,(hf b hb).2.2.2.2.2⟩) (λb o _ _ hc e _=>k b o hc e) (λb o _ _ hc e _=> ⟨o.slots,k b o hc e⟩) (λ_ _ _ _ n=>n) (λb o hc e=> ⟨o,k b o hc e⟩)
  (λ_ _ e=>e) (λ_ _ _ e=>e) (λb ps e=> ⟨#[],by rw[e];simp⟩) (λm hm=> ?_) (λb u e=> ?_) I.bare
 ·obtain⟨o,es,ep,ho,r⟩:=hm;exact⟨o,es,ep,k _ o (λz=>(hf _ z).2.1 rfl) ho,r⟩
 ·refine(I.hok b u e).stay (λc v hc q=>k c v ?_ q) (λ_ q=>q) λ_ _ q=>q;rcases hc with z|z
  ·rw[z];exact nfp b u e
  ·exact nfp c _ z
theorem Inv.turnLaid {fp:List ju}{h':kj}{t':Nat}{p:ju}{o:HO}(I:Inv X kb σ H s)(k:∀b u,b∉fp->s.heap.get? b=some u->h'.get? b=some u)(hf:∀b∈fp,fO X kb H b)(hp:s.heap.objs.size<=p)
  (new:ObjOk X.prog X.w (upd H p o) h' p o):Inv X kb σ (upd H p o) {s with heap:=h',toks:=t'}:=by
 have nfp:∀b u,H b=some u->b∉fp:=λb u e z=>by rw[(hf b z).1]at e;cases e
 have hn:=I.hok.fresh hp;have old:∀{b:ju}{u:Obj},s.heap.get? b=some u->b≠p:=λe=>jo (jf (CO e) hp);refine I.step (g':=s.gens) (d':=s.drawn) (ch:=fp) (λb hb=> ⟨(hf b hb).2.2.2.1,(hf b hb).2.1,(hf b hb).2.2.2.2.1,(hf b hb).2.2.2.2.2⟩) (λb o _ _ hc e _=>k b o hc e) (λb o _ _ hc e _=> ⟨o.slots,k b o hc e⟩) (λb o _ e n=>by rw[aN (old e)];exact n) (λb o hc e=> ⟨o,k b o hc e⟩)
  (λb xs e=>by rw[aN (bG e hn)];exact e) (λb u xs e=>by rw[aN (bG e hn)];exact e) (λb ps e=> ⟨#[],by rw[aN (bG e hn),e];simp⟩) (λm hm=> ?_) (λb u e=> ?_) I.bare
 ·obtain⟨o,es,ep,ho,r⟩:=hm;exact⟨o,es,ep,k _ o (λz=>(hf _ z).2.1 rfl) ho,r⟩
 ·by_cases hb:b=p
  ·subst hb;rw[aG]at e;cases e;exact new
  ·rw[aN hb]at e;refine(I.hok b u e).stay (λc v hc q=>k c v ?_ q) (λc q=>by rw[aN (bG q hn)];exact q) λc xs q=>by rw[aN (bG q hn)];exact q
   rcases hc with z|z
   ·rw[z];exact nfp b u e
   ·exact nfp c _ z
noncomputable def Ite (S:Hp->List V->Prop):It:=
 ⟨λi H=> ∃xs x,S H xs/\xs[i]?=some x,λi H x H'=> ∃p y,x= .ref p/\H p=none/\H'=upd H p (.tup [.int i,y])/\∀xs,S H xs->xs[i]?=some y,λi H=> ∃xs,S H xs/\xs.length=i⟩
theorem B2s {P:j9}{w:kl}{K:W.Frag}{es:List om}{x1}{pos:Pos}(e it a:ju)(hei:e≠it):
  fX P w K (.Tuple es x1 pos) (Ite λH xs=>CY K H a xs) [e,it] e (λi h=>(∃old,IsEnum h e it i old)/\h.IsTupleIter it a i/\a≠it/\a≠e)where
 mem:=by simp
 obj:=λi h st b hb=>by
  obtain⟨⟨old,he⟩,⟨o,e1,c,d⟩,_⟩:=st;rcases fe.mp hb with z|z
  ·subst z;exact⟨_,he,λv z=>by cases z⟩
  ·have z':=fy.mp z;subst z';exact⟨o,e1,λv z=>by rw[d]at z;cases z⟩
 keep:=λi h h' st k=> ⟨let ⟨old,he⟩:=st.1;⟨old,k e (by simp) _ he⟩,st.2.1.at λo q=>k it (by simp) o q,st.2.2⟩
 item:=by
  intro X hP hw hK hc i kb s σ H E I hf st hg;subst hP hw hK;obtain⟨⟨old,he⟩,hit,hai,hae⟩:=st;obtain⟨xs,x,hq,hx⟩:=hg;obtain⟨lu,rv,p,hz⟩:=I.tuple hq;obtain⟨u,hu,ru⟩:=rv.get hx;have CA:i<lu.toArray.size:=by
   rw[ic];exact(CL.mp hu).1
  refine wpAny_pyNext_enum_itemD (Draws.tuple (A:=X.A.in1) (by simp[I.ok.hd hc]) it a hai lu.toArray) he ⟨hit,p⟩ CA hei (by simp[hei,Ne.symm hae]) λv h' tk hv ho hst' hT hsz hk=> ?_;have hv':v=u:=by
   have e1:lu[i]?=some v:=by simpa using hv
   rw[hu]at e1;exact(j7 e1).symm
  subst hv';refine⟨_,rfl,wpAny_letOwnedTupleGo_enum (s:={s with heap:=h',toks:=tk+1}) ho λh2 he2 hs2=> ?_⟩;have helt:e<s.heap.objs.size:=CO he;have hilt:it<s.heap.objs.size:=by obtain⟨_,q,_⟩:=hit;exact CO q
  have hTe:s.heap.objs.size≠e:=jn helt;have hn:H s.heap.objs.size=none:=I.hok.fresh (CT _);have kp:∀b o,b∉[e,it]->s.heap.get? b=some o->h2.get? b=some o:=λb o hb q=>by
   have hbe:b≠e:=λz=>hb (by simp[z]);have hbi:b≠it:=λz=>hb (by simp[z]);exact(hs2.2 b hbe).trans (hk b o hbe hbi q)
  have hT2:h2.get? s.heap.objs.size=some {cls:=.type "tuple",data:=.seq #[.int i tk,v]}:=(hs2.2 _ hTe).trans hT;have I2:Inv X kb σ (upd H s.heap.objs.size (.tup [.int i,x])) {s with heap:=h2,toks:=tk+1}:=I.turnLaid (fp:=[e,it]) kp hf (CT _) ⟨by show 2<=jv;rw[ko];decide,[.int i tk,v],.cons ⟨_,rfl⟩ (.cons ru .nil),⟨_,hT2,rfl,_,rfl⟩⟩;refine⟨.ref s.heap.objs.size,_,I2,rfl,⟨s.heap.objs.size,x,rfl,hn,rfl,λys hy=>by rw[I.tuple_inj hy hq];exact hx⟩,⟨⟨_,by simpa using he2⟩,hst'.1.at λo q=>(hs2.2 it hei.symm).trans q,hai,hae⟩,λb hb=> ?_⟩;have hbz:b≠s.heap.objs.size:=by
   rcases fe.mp hb with z|z
   ·rw[z];exact jo helt
   ·rw[fy.mp z];exact jo hilt
  rw[aN hbz];exact(hf b hb).1
 done:=by
  intro X hP hw hK hc i kb s σ H E I hf st hg;subst hP hw hK;obtain⟨⟨old,he⟩,hit,hai,hae⟩:=st;obtain⟨xs,hq,hx⟩:=hg;obtain⟨lu,rv,p,hz⟩:=I.tuple hq;have hl:=rv.length;have hi:lu.toArray.size=i:=by rw[ic,←hl,hx]
  refine wpAny_pyNext_enum_endD (Draws.tuple (A:=X.A.in1) (by simp[I.ok.hd hc]) it a hai lu.toArray) he (by rw[hi];exact⟨hit,p⟩) λh' B3=> ⟨rfl,?_⟩;exact I.turned (it:=it) (t':=s.toks) (λb o hb q=>B3 b o hb q) (hf it (by simp)).1 (hf it (by simp)).2.1 (hf it (by simp)).2.2.2.1 (hf it (by simp)).2.2.2.2.1 (hf it (by simp)).2.2.2.2.2
 self:=λ_ _ _ _ _ st h=>let ⟨old,he⟩:=st.1;wpAny_pyIter_enum he h
noncomputable def zS (K:W.Frag)(ta:TA):TI:=λσ H R=>ta σ H λvs H1=> ∃a xs,vs=[.ref a]/\CY K H1 a xs/\R (Ite λH xs=>CY K H a xs) H1
theorem kP {a:om}{ta:TA}{p pos:Pos}{es:List om}{x1}{tpos:Pos}(hc:X.calm=true)(hg:Gl X "enumerate")(hm:X.mg "enumerate" =none)(ha:PA X [a] ta)(hs:ni [a] X.env=[(false,sf a X.env)]:=by rfl):
  PI X (.Tuple es x1 tpos) (.Call (.Name "enumerate" p) [a] [] pos) (zS X.K ta):=by
 intro kb s σ H R I h;refine Call_ (iE I hg hm boot_enumerate (ot (thn (ha pos kb s σ H _ I h) λus s1 ⟨vs,H1,I1,r1,q1⟩=> ?_) hs rfl));obtain⟨b,xs,e,hq,q⟩:=q1;subst e;obtain⟨u,rfl,rx⟩:=dR r1;cases rx;obtain⟨lu,rv,pt,hz⟩:=I1.tuple hq;have hblt:b<s1.heap.objs.size:=by obtain⟨o,ho,_⟩:=id pt;exact CO ho
 refine B5h pt λh' he hit hsz hk=> ?_;refine wpAny_pyIter_enum (s:={s1 with heap:=h'}) he ?_;have I2:Inv X kb σ H1 {s1 with heap:=h'}:=I1.kept (t':=s1.toks) hk;refine⟨s1.heap.objs.size+1,[s1.heap.objs.size+1,s1.heap.objs.size],_,_,H1,rfl,I2,B2s _ _ b (AK _),⟨⟨_,he⟩,hit,jo hblt,jo (ji hblt)⟩,λc hc'=> ?_,q⟩;have hge:s1.heap.objs.size<=c:=by
  rcases fe.mp hc' with z|z
  ·rw[z];exact jc _
  ·rw[fy.mp z];exact CT _
 exact I1.fpOk hge (I1.hok.fresh hge)
theorem oG (Pv:Nat->St->Hp->Prop)(h0:Pv 0 σ H)(hl:∀i σ H,i<=xs.length->Pv i σ H->S H xs)
  (hs:∀i x p σ H,xs[i]?=some x->Pv i σ H->H p=none->g (.ref p) σ (upd H p (.tup [.int i,x])) λσ2 H2=>tb {D with nx:=Pv (i+1),ct:=Pv (i+1),bk:=D.nx} σ2 H2)(hd:∀σ H,Pv xs.length σ H->D.nx σ H):
  cP (Ite S) g tb D σ H:=by
 refine⟨λi m σ H=>m=xs.length - i/\i<=xs.length/\Pv i σ H,⟨xs.length,by simp,js _,h0⟩,?_⟩;rintro i m σ H ⟨rfl,hi,p⟩;have q:=hl i σ H hi p;by_cases CA:i<xs.length
 ·refine .inr ⟨⟨xs,xs[i],q,by simp[CA]⟩,Pv (i+1),λσ' H' p'=> ⟨xs.length -(i+1),by omega,rfl,CA,p'⟩,λx H' y=> ?_⟩;obtain⟨pp,yy,e1,e2,e3,e4⟩:=y;subst e1 e3;exact hs i yy pp σ H (e4 xs q) p e2
 ·have e:i=xs.length:=by omega
  subst e;exact .inl ⟨⟨xs,q,rfl⟩,hd σ H p⟩
noncomputable def NewTup (H:Hp)(ys:List V)(Q:VK):Prop:=∀p H',Same H H'->H' p=some (.tup ys)->Q (.ref p) H'
theorem aK (h:H p=none):Same H (upd H p o):=λb u e=>by rw[aN (bG e h)];exact e
theorem NewTup.new (h:NewTup H ys Q)(hp:H p=none):Q (.ref p) (upd H p (.tup ys)):=h p _ (aK hp) aG
theorem NewTup.old (h:NewTup H ys Q)(hp:H p=some (.tup ys)):Q (.ref p) H:=h p H (Same.refl H) hp
theorem Inv.newTup (I:Inv X kb σ H s)(r:Vals ys lu)(hz:ys.length<=jv)(h:NewTup H ys Q):EP X kb σ Q (.ref s.heap.objs.size) {s with heap:=s.heap.push {cls:=.type "tuple",data:=.seq lu.toArray}}:=
 ⟨.ref s.heap.objs.size,_,I.laid (t':=s.toks) (o:=.tup ys) (λb ob q=>CK _ q) (CT _) ⟨hz,_,r,BE.new _ _⟩,rfl,h.new (I.hok.fresh (CT _))⟩
noncomputable def B1z:R2:=λx y H Q=> ∃a b xs ys,x= .ref a/\y= .ref b/\H a=some (.tup xs)/\H b=some (.tup ys)/\xs.length+ys.length<=jv/\NewTup H (xs++ys) Q
theorem nL:OpR X (wo .Add) B1z:=by
 intro kb s σ H x y v u Q I rx ry h;obtain⟨a,b,xs,ys,rfl,rfl,ha,hb,hz,q⟩:=h;cases rx;cases ry;obtain⟨lu,r1,p1,_⟩:=I.tuple (CY.of ha);obtain⟨its2,r2,p2,_⟩:=I.tuple (CY.of hb);by_cases hx:xs=[]
 ·subst hx;cases r1;obtain⟨⟨c1,d1,t1,l1⟩,ho,hc,n,hd⟩:=id p1;obtain⟨⟨c2,d2,t2,l2⟩,ho2,hc2,n2,hd2⟩:=id p2;simp only at hc hd hc2 hd2;subst hc hd hc2 hd2;exact Cf ⟨_,ho,rfl⟩ ⟨_,ho2,rfl⟩ AG BY xu xk (wq _ _) (tuple_addW0 a b _ _ n n2 d1 d2 l1 l2 (by simp)) ⟨ho,ho2,.ref b,H,I,rfl,q.old hb⟩
 ·refine HT.cat_tup p1 p2 (λz=>hx (r1.nil_iff.mp z)) (λz=> ⟨.ref a,H,I,rfl,?_⟩) (λz=>I.newTup (r1.append r2) (by rw[c8];exact hz) q) (by rw[←r1.length,←r2.length];exact hz);have:ys=[]:=r2.nil_iff.mp z;subst this;rw[ak]at q;exact q.old ha
theorem B03 {t sl:ju}{items:Array jt}{vl vu:jt}{lo hi:Option Int}{Q:jt->jw->Prop}{prog:j9}{w:kl}{A:mh}{E:jt->jw->Prop}(ht:BE s.heap t items)(hs:s.heap.IsSliceOf sl vl vu .none)(pl:Ba vl lo)(pu:Ba vu hi)
  (hw:HT.sIx items.size 0 lo=0/\HT.sIx items.size items.size hi=items.size)(h:Q (.ref t) s):jy (kg prog w) A (y8 (.ref t) (.ref sl)) Q E s:=by
 obtain⟨os,hos,hcs,hds⟩:=id hs;have hTs:s.TypeIs (.ref sl) "slice":=⟨os,hos,hcs⟩;unfold y8
 try with_reducible refine l8 ?_
 first|refine CI (CJ ?_)|skip
 refine CI (wpAny_sequenceKey ht.typeIs (by decide) (CI (nc (name:=qi "__getitem__") ht.typeIs ox (ly ox ht.typeIs entry_tuple_getitem ?_ (args_tuple_getitem _ _)))));show jy _ _ (vp (.ref t)>>=_) _ _ s;refine CI (tupleItemsOf_ ht (CI (we hTs ?_)));rw[if_pos (by decide)];refine CI (HT.sliceApplied_gen hs pl pu ?_);have hyes:(((HT.sIx items.size 0 lo:Nat):Int)==0&&(1:Int)==1&&(HT.sIx items.size items.size hi - HT.sIx items.size 0 lo)==items.size)=true:=by rw[hw.1,hw.2];simp
 show jy _ _ (if (((HT.sIx items.size 0 lo:Nat):Int)==0&&(1:Int)==1&&(HT.sIx items.size items.size hi - HT.sIx items.size 0 lo)==items.size)=true then _ else _) _ _ s;rw[if_pos hyes];obtain⟨⟨c1,d1,t1,l1⟩,ho,hc,n,hd⟩:=id ht;simp only at hc hd;subst hc hd;obtain⟨hp,g,d,tk,osx⟩:=s
 wp_walk using AutoSeq1.wpAny_loadPart' ho
 all_goals first|exact⟨_,rfl,h⟩|exact⟨_,rfl,CJ h⟩
noncomputable def B0l:V->Option Int->Option Int->Hp->VK->Prop:=λx lo hi H Q=> ∃a xs,x= .ref a/\H a=some (.tup xs)/\NewTup H (cI xs lo hi) Q
theorem zB:SlR X B0l:=by
 intro kb s σ H x v vl vu lo hi sl Q I rx hs pl pu h;obtain⟨a,xs,rfl,hx,q⟩:=h;cases rx;obtain⟨lu,r,ht,hz⟩:=I.tuple (CY.of hx);have ue:lu.toArray.size=xs.length:=by rw[ic];exact r.length.symm
 refine⟨"tuple",_,ox.lookup,ht.typeIs,?_⟩;by_cases hw:HT.sIx xs.length 0 lo=0/\HT.sIx xs.length xs.length hi=xs.length
 ·refine B03 ht hs pl pu (by rw[ue];exact hw) ⟨.ref a,H,I,rfl,?_⟩;have:cI xs lo hi=xs:=by unfold cI;rw[hw.1,hw.2];simp
  rw[this]at q;exact q.old hx
 ·refine HT.getItem_tuple_cut ht hs pl pu (by rw[ue];exact hw) ?_ (by rw[ue];exact hz);rw[ue];exact I.newTup ((r.drop (HT.sIx xs.length 0 lo)).take (HT.sIx xs.length xs.length hi - HT.sIx xs.length 0 lo)) (jd (uO xs lo hi) hz) q
noncomputable def Kn (H:Hp):Nat->V->Prop
 |0,_=>True
 |n+1,v=>match v with
  | .non=>True
  | .bl _=>True
  | .int _=>True
  | .str _=>True
  | .ref a=>(∃xs,H a=some (.lst xs))\/(∃kvs,H a=some (.dK kvs))\/ ∃xs,H a=some (.tup xs)/\xs.length<=1000/\∀x∈xs,Kn H n x
  |_=>False
noncomputable def KnA (H:Hp)(v:V):Prop:=∀n,Kn H n v
structure Ext (H H':Hp):Prop where
 tup:∀a xs,H a=some (.tup xs)->H' a=some (.tup xs)
 lst:∀a xs,H a=some (.lst xs)->∃ys,H' a=some (.lst ys)
 dct:∀a kvs,H a=some (.dK kvs)->H' a=some (.dK kvs)
theorem Ext.trans (a:Ext H H1)(b:Ext H1 H2):Ext H H2:=⟨λ_ _ h=>b.tup _ _ (a.tup _ _ h),λ_ _ h=>let ⟨_,e⟩:=a.lst _ _ h;b.lst _ _ e,λ_ _ h=>b.dct _ _ (a.dct _ _ h)⟩
theorem Same.ext (s:Same H H'):Ext H H':=⟨λ_ _ h=>s _ _ h,λ_ xs h=> ⟨xs,s _ _ h⟩,λ_ _ h=>s _ _ h⟩
theorem Kn.le:∀{n m:Nat}{v:V},n<=m->Kn H m v->Kn H n v
 |0,_,_,_,_=>p6
 |n+1,0,_,h,_=>absurd h (by omega)
 |n+1,m+1,v,h,k=>by
  cases v with
  |ref a=>
   rcases k with⟨xs,k⟩| ⟨kvs,k⟩| ⟨xs,k,hl,hx⟩
   ·exact .inl ⟨xs,k⟩
   ·exact .inr (.inl ⟨kvs,k⟩)
   ·exact .inr (.inr ⟨xs,k,hl,λx hm=>Kn.le (by omega) (hx x hm)⟩)
  |_=>exact k
theorem KnA.int (i:Int):KnA H (.int i):=λn=>by cases n<;>exact p6
theorem KnA.tup (h:H a=some (.tup xs))(hl:xs.length<=1000)(hx:∀x∈xs,KnA H x):KnA H (.ref a):=λn=>by
 cases n with
 |zero=>exact p6
 |succ n=>exact .inr (.inr ⟨xs,h,hl,λx hm=>hx x hm n⟩)
noncomputable def isInt:V->Bool| .int _=>true|_=>false
noncomputable def sI:V->Bool| .bl _=>true|_=>false
noncomputable def fF (H:Hp):V->Option (List V)
 | .ref a=>match H a with|some (.tup xs)=>some xs|_=>none
 |_=>none
theorem lT (h:H a=some (.tup xs)):fF H (.ref a)=some xs:=by simp[fF,h]
theorem A6a (h:fF H v=some xs):∃a,v= .ref a/\H a=some (.tup xs):=by
 cases v with
 |ref a=>
  unfold fF at h;cases e:H a with
  |none=>simp[e]at h
  |some o=>cases o<;>simp[e]at h;subst h;exact⟨a,rfl,e⟩
 |_=>simp[fF]at h
section
variable {K:W.Frag}
theorem vW {H:Hp}{v:V}(k:Kn H 1 v):∃t,TyOf K H v t/\W.kitOne K t (.type "int")=some (isInt v||sI v)/\W.kitOne K t (.type "bool")=some (sI v)/\W.kitOne K t (.type "tuple")=some (fF H v).isSome:=by
 cases v with
 |non=>exact⟨_,.non,by kernel_rfl,by kernel_rfl,by kernel_rfl⟩
 |bl b=>exact⟨_,.bl b,by kernel_rfl,by kernel_rfl,by kernel_rfl⟩
 |int i=>exact⟨_,.int i,by kernel_rfl,by kernel_rfl,by kernel_rfl⟩
 |str x=>exact⟨_,.str x,by kernel_rfl,by kernel_rfl,by kernel_rfl⟩
 |ref a=>
  rcases k with⟨xs,k⟩| ⟨kvs,k⟩| ⟨xs,k,hl,hx⟩
  ·refine⟨_,.lst k,by kernel_rfl,by kernel_rfl,?_⟩;have:(fF H (.ref a)).isSome=false:=by simp[fF,k]
   rw[this];kernel_rfl
  ·refine⟨_,.dK k,by kernel_rfl,by kernel_rfl,?_⟩;have:(fF H (.ref a)).isSome=false:=by simp[fF,k]
   rw[this];kernel_rfl
  ·refine⟨_,.tup k,by kernel_rfl,by kernel_rfl,?_⟩;have:(fF H (.ref a)).isSome=true:=by simp[fF,k]
   rw[this];kernel_rfl
 |_=>exact(show False from k).elim
end
noncomputable def eW (lo hi:Int):V->Bool| .int i=>decide (lo<=i)&&decide (i<=hi)|_=>false
noncomputable def PenAt (H:Hp)(p:ju):Prop:=∃x f:Int,H p=some (.lst [.int x,.int f])
structure C0 (p:ju)(H H':Hp):Prop where
 pen:PenAt H' p
 keep:∀b o,b≠p->H b=some o->H' b=some o
theorem C0.refl (h:PenAt H p):C0 p H H:=⟨h,λ_ _ _ e=>e⟩
theorem C0.trans (a:C0 p H H1)(b:C0 p H1 H2):C0 p H H2:=⟨b.pen,λc o h e=>b.keep c o h (a.keep c o h e)⟩
theorem C0.same (a:C0 p H H1)(s:Same H1 H2):C0 p H H2:=⟨let ⟨x,f,e⟩:=a.pen;⟨x,f,s _ _ e⟩,λb o h e=>s _ _ (a.keep b o h e)⟩
theorem PenAt.ne (h:PenAt H p)(e:H b=some o)(n:∀xs,o≠ .lst xs):b≠p:=λz=>by
 obtain⟨x,f,e2⟩:=h;rw[z,e2]at e;cases e;exact n _ rfl
theorem C0.ext (h:PenAt H p)(s:C0 p H H'):Ext H H' where
 tup:=λa xs e=>s.keep a _ (h.ne e (by intro z;simp)) e
 lst:=λa xs e=>by
  by_cases ha:a=p
  ·obtain⟨x,f,e2⟩:=s.pen;exact⟨_,by rw[ha];exact e2⟩
  ·exact⟨xs,s.keep a _ ha e⟩
 dct:=λa kvs e=>s.keep a _ (h.ne e (by intro z;simp)) e
theorem mN {K:W.Frag}{a l:ju}{xs:List V}{te:TE}{H0:Hp}{rest:St}{Q:St->Hp->Prop}(f:V->V)(ha:H0 a=some (.tup xs))(hl:H0 l=none)(hz:xs.length<=1000)
  (turn:∀x H' Q',x∈xs->Same H0 H'->(∀H2,Same H' H2->Q' (f x) H2)->te (some x::rest) H' Q')(hQ:∀σ H',Same H0 H'->H' l=some (.lst (xs.map f))->Q σ H'):
  cP (Itt K a) (cN 0) (cL gK (eN l te)) (eC Q) (none::rest) (upd H0 l (.lst [])):=by
 have s0:Same H0 (upd H0 l (.lst [])):=aK hl;refine gC (K:=K) (a:=a) (xs:=xs) (λi σ H'=>(∃o,σ=o::rest)/\Same H0 H'/\H' l=some (.lst ((xs.take i).map f))) ⟨⟨_,rfl⟩,s0,by rw[aG];rfl⟩ (λi σ H' _ h=>CY.of (h.2.1 _ _ ha)) ?_ ?_
 ·rintro i x σ H' hx ⟨⟨o,rfl⟩,hs,Ao⟩;show eN l te (some x::rest) H' _;refine turn x H' _ (fq hx) hs λH2 h2=> ?_;refine⟨_,h2 _ _ Ao,?_,⟨_,rfl⟩,λb u e=> ?_,?_⟩
  ·rw[di,du];exact cO (by omega)
  ·rw[aN (bG e hl)];exact h2 _ _ (hs _ _ e)
  ·rw[aG,iu,hx,dz];rfl
 ·rintro σ H' ⟨_,hs,Ao⟩;rw[iq (CT _)]at Ao;exact hQ σ H' hs Ao
theorem gX (h:tb σ H D.nx):cL gK tb D σ H:=by show(if true=true then tb σ H D.nx else D.nx σ H);exact fY h
theorem iZ (h:tb (σ.set i (some v)) H D.nx):cN i v σ H (λσ2 H2=>cL gK tb D σ2 H2):=gX h
theorem fB {b:Bool}{A B:Prop}(h1:b=true->A)(h2:b=false->B):if b=true then A else B:=by
 cases b with
 |true=>exact fY (h1 rfl)
 |false=>exact bY (h2 rfl)
theorem dY {c:Prop} [Decidable c]{A B:Prop}(h1:c->A)(h2:¬c->B):if decide c=true then A else B:=by
 by_cases h:c
 ·rw[CM h];exact fY (h1 h)
 ·rw[CN h];exact bY (h2 h)
end L2
namespace L2
open PySem PyProof.Rows
section
variable {P:j9}{w:kl}{K:W.Frag}{mg:Str->Option jt}{base:kj}{x:Str}{st:mw}{ps:List Str}{sp:Sp}
noncomputable def D1 (K:W.Frag)(mg:Str->Option jt)(x:Str)(st:mw)(ps:List Str):Prop:=∃f fd,Fun K x x st f fd/\mg x=some (.ref f)/\Binds K fd ps []
noncomputable def A1 (P:j9)(w:kl)(K:W.Frag)(mg:Str->Option jt)(base:kj)(k:Nat)(x:Str)(sp:Sp):Prop:=∃f fd ps,mg x=some (.ref f)/\W.keepIn K (.ref f)=true/\Binds K fd ps []/\FnOk P w K mg base CX0 k f fd ps sp
theorem D1.k {k:Nat}(F:D1 K mg x st ps)(N:List Str)
  (hbody:N.Nodup->∀(f:ju)(cdv:jt)(A:mh)(outer:List Env)(s:jw)(H:Hp)(vs:List V)(Q:VK)(E:XK),Room k (A.deeper (zq x (bB st) s.heap.objs.size f cdv))->sp vs H Q E->
   ∃t,CV (fK CX0 P w K mg base N x (bB st) f cdv A outer s H E).nox (dA st) t/\t {nx:=λ_ H'=>Q .non H',rt:=Q} (start N vs) H)
  (S:gD N ps (bB st):=by ac_rfl)
  (len:∀vs H Q E,sp vs H Q E->vs.length=ps.length:=by intro _ _ _ _ h;repeat (first|exact congrArg pk h.1|obtain⟨_,h⟩:=h)):A1 P w K mg base (k+1) x sp:=
 let ⟨f,fd,F,m,b⟩:=F
 ⟨f,fd,ps,m,F.kp,b,F.ok S len (hbody S.nd f)⟩
theorem A1.c (a:A1 X.prog X.w X.K X.mg X.base k x sp)(hr:Room m X.A)(ha:PA X (e::es) t)(h:k<=m:=by decide)(hg:Gl X x:=by rfl)(hdb:(x==("__debug__":Str))=false:=by decide)(he:ni (e::es) X.env=(false,sf e X.env)::ni es X.env:=by rfl)(hpl:(As pos (ni es X.env)).any (·.1)=false:=by rfl):
  PE X (.Call (.Name x p) (e::es) [] pos) (rP sp [] E0 t):=let ⟨_,_,_,m,k,b,g⟩:=a;vR g (hr.mono h) hg m k b .nil xY ha hdb he hpl
noncomputable def Fk (K:W.Frag)(x:Str)(st:mw):Prop:=∃f fd,W.nsIn K kf x=some (some (.ref f))/\Fun K x x st f fd
theorem A5c {f:ju}{oc:jt}{od an:Option ju}{osl:Array (Option jt)}{kV doc pm cdv ct:jt}(a:W.nsIn K kf x=some (some (.ref f)))(l:K.lookup f=some ⟨oc,od,.func (W.fnOf x x (iT st) (dA st) (bB st) .none kV doc pm an cdv ct),osl⟩)(c:W.codeIn K cdv x=true)(k:W.keepIn K (.ref f)=true):Fk K x st:=⟨_,_,a,B20 l c k⟩
theorem B4f {α:Type}{p:List α->Prop}(h:∀a,p [a])(us:List α)(e:us.length=1):p us:=match us,e with| [_],_=>h ..
theorem B36 {α:Type}{p:List α->Prop}(h:∀a b,p [a,b])(us:List α)(e:us.length=2):p us:=match us,e with| [_,_],_=>h ..
theorem A3m {α:Type}{p:List α->Prop}(h:∀a b c,p [a,b,c])(us:List α)(e:us.length=3):p us:=match us,e with| [_,_,_],_=>h ..
theorem B54 {α:Type}{p:List α->Prop}(h:∀a b c d,p [a,b,c,d])(us:List α)(e:us.length=4):p us:=match us,e with| [_,_,_,_],_=>h ..
theorem B53 {α:Type}{p:List α->Prop}(h:∀a b c d f,p [a,b,c,d,f])(us:List α)(e:us.length=5):p us:=match us,e with| [_,_,_,_,_],_=>h ..
theorem Fk.d {h:kj}(q:Fk K x st)(X:K.In h)(G:h.Ns kf mg)(hb:∀(kV doc pm:jt)(an:Option ju)(cdv ct:jt)(us:List jt),us.length=ps.length->bindArgs (W.fnOf x x (iT st) (dA st) (bB st) .none kV doc pm an cdv ct) ⟨us,[]⟩=pure (ps.zip us):=by first|exact λ_ _ _ _ _ _=>B4f λ_=>rfl|exact λ_ _ _ _ _ _=>B36 λ_ _=>rfl|exact λ_ _ _ _ _ _=>A3m λ_ _ _=>rfl):D1 K mg x st ps:=let ⟨f,fd,a,F⟩:=q;⟨f,fd,F,W.mg_of X G a,F.binds hb⟩
theorem Fk.law {h:kj}{y:Str}{fa:ju}(q:Fk K x st)(X:K.In h)(G:h.Ns kf mg)(hfa:mg x=some (.ref fa))(hb:∀(kV doc pm:jt)(an:Option ju)(cdv ct:jt)(u:jt),bindArgs (W.fnOf x x (iT st) (dA st) (bB st) .none kV doc pm an cdv ct) ⟨[u],[]⟩=pure [(y,u)]):∃fd,Fun K x x st fa fd/\∀(s:jw)(v:jt),BS s fd ⟨[v],[]⟩ [(y,v)]:=by obtain⟨f,fd,a,F⟩:=q;have e2:=hfa.symm.trans (W.mg_of X G a);cases e2;obtain⟨oc,od,kV,doc,pm,an,cdv,ct,osl,rfl,lk,hcd⟩:=F.ex;exact⟨_,F,λs v=> .of_eq (hb _ _ _ _ _ _ _)⟩
end
open PySem.Spec
noncomputable def rL (l:ju)(tk tv:TE):TC:=λσ H Q=>tk σ H λy H1=>tv σ H1 λv H2=> ∃kvs k,y=kV k/\H2 l=some (.dK kvs)/\kvs.length<jv/\Q σ (upd H2 l (.dK (cC kvs k v)))
noncomputable def zN (kx vx:om)(acc:jt)(env:Env)(k:Unit->Sem Fin):Sem Fin:=(sf kx env>>=λkv=>Ak [kv] (sf vx env)>>=λvv=>match acc with
    | .ref d=>do
     BQ {kx.pos with endLine:=vx.pos.endLine,endCol:=vx.pos.endCol}
     Ak [kv,vv] (dictSet d kv vv)
    |_=>unsupported "internal:dictcomp")>>=k
theorem B4c (kx vx tg iter:om)(CD:List om)(scope:yk)(pos:Pos)(it acc:jt)(env:Env):
  BH (.DictComp kx vx [⟨tg,iter,CD,0⟩] scope pos) 0 it acc env=kB (.DictComp kx vx [⟨tg,iter,CD,0⟩] scope pos) 0 it acc env tg iter CD (zN kx vx acc env):=by rfl
theorem B2j (hx:Y.xe=λ_ _=>False)(hu:Y.A.units<nj)(he:PE Y kx tk)(hv:PE Y vx tv):PB Y (zN kx vx (.ref l) Y.env) (rL l tk tv):=by
 intro kb s σ H Q Q' k I h hk;refine CI (CI (thn (hV (he kb s σ H _ I h) hx) λkv s1 ⟨x,H1,I1,r1,q1⟩=> ?_));refine CI (l8 (thn (hV (hv kb s1 σ H1 _ I1 q1) hx) λvv s2 ⟨y,H2,I2,r2,q2⟩=> ?_));obtain⟨kvs,ks,rfl,e,hl,q⟩:=q2;obtain⟨z,hd,vs,rel,dd⟩:=pQ I2.hok e;have hz:vs.length<=jv:=by rw[←rel.length];exact z
 have Ao:(cC kvs ks y).length<=jv:=by have:=nN kvs ks y;omega
 refine CI (ua (l8 ?_));refine wpAny_dictSet_pairs (hsz:=hz) (iY r1) dd λh' dd' hs=>hk _ _ _ ?_ q;have he:∃q,h'.get? l=some q:=let ⟨q,_,_,hq,_⟩:=dd';⟨q,hq⟩;exact oY I2 (by rw[e];exact p6) hs he (qT Ao hd (rel.put ks r2) dd')
noncomputable def A6j (wi:TI)(g:cG->TG)(tt:cG->TT)(tk tv:cG->TE)(n:Nat)(frees:List (Str×Nat)):TE:=λσ H Q=>wi σ H λJ H1=> ∀(Z:cG)(l:ju),H1 l=none->cP J (g Z) (cL (tt Z) (rL l (tk Z) (tv Z))) (eC λ_ H'=>Q (.ref l) H') (σC n frees σ) (upd H1 l (.dK []))
noncomputable def iH (ns:List (Str×k7))(N:List Str)(scope:yk)(frees:List (Str×Nat)):Prop:=
 (∀x∈scope.names,(x.2= .cell->scope.names.lookup x.1=some .cell)/\(x.2= .local->scope.names.lookup x.1=some .local)/\(x.2= .free->ns.lookup x.1=some .cell\/ns.lookup x.1=some .free))/\
 ∀p∈frees,N[p.2]?=some p.1/\scope.names.lookup p.1=some .free/\(ns.lookup p.1=some .cell\/ns.lookup p.1=some .free)
instance (ns:List (Str×k7)) (N:List Str) (scope:yk) (frees:List (Str×Nat)):Decidable (iH ns N scope frees):=by unfold iH;infer_instance
noncomputable def cJ (X:Cx)(N:List Str)(scope:yk)(Z:cG):Cx:={A51 X N scope Z with fn:=λx=>scope.names.lookup x==some .cell}
theorem pS:∀(names:List (Str×k7))(n:Nat)(a b:List (Str×ju)),p9 n names (a++b)=p9 n names a++b
 | [],_,_,_=>rfl
 | (x,k)::r,n,a,b=>by
  unfold p9
  split
  ·exact pS r (n+1) ((x,n)::a) b
  ·exact pS r n a b
theorem cells_names:∀(names:List (Str×k7))(n:Nat)(acc:List (Str×ju)){x:Str}{c:ju},(x,c)∈p9 n names acc->(x,og)∈names\/(x,c)∈acc
 | [],_,_,_,_,h=> .inr h
 | (y,k)::r,n,acc,x,c,h=>by
  unfold p9 at h
  split at h
  ·rename_i hk;have hk':k= .cell:=eq_of_beq hk;subst hk';rcases cells_names r (n+1) _ h with z|z
   ·exact .inl (CP _ z)
   ·rcases fe.mp z with z|z
    ·cases z;exact .inl CQ
    ·exact .inr z
  ·rcases cells_names r n _ h with z|z
   ·exact .inl (CP _ z)
   ·exact .inr z
structure A1l (names:List (Str×k7))(h:kj)(lo:Nat)(cl cl':List (Str×ju)):Prop where
 of:∀x c,cl'.lookup x=some c->cl.lookup x=some c\/(lo<=c/\h.IsCell c none)
 inj:∀x y c,lo<=c->(∀z d,cl.lookup z=some d->d<lo)->cl'.lookup x=some c->cl'.lookup y=some c->x=y
 old:∀x c,cl.lookup x=some c->(x,og)∉names->cl'.lookup x=some c
 own:∀x,names.lookup x=some .cell->∃c,cl'.lookup x=some c
 new:∀x c,names.lookup x=some .cell->cl'.lookup x=some c->lo<=c
theorem A88 (names:List (Str×k7))(h:kj)(cl:List (Str×ju)):A1l names (AL h names) h.objs.size cl (p9 h.objs.size names cl):=by
 have e:p9 h.objs.size names cl=p9 h.objs.size names []++cl:=pS names _ [] cl;have ok:=cellsFrom_ok names h h.objs.size [] ⟨λ_ _ hm=>(nomatch hm),vk⟩ (CT _);have nm:∀{x c},(x,c)∈p9 h.objs.size names []->(x,og)∈names:=λhm=>(cells_names names _ [] hm).elim id λz=>nomatch z;have sp:∀x c,(p9 h.objs.size names cl).lookup x=some c->(x,c)∈p9 h.objs.size names []\/cl.lookup x=some c:=λx c hx=>by
  rw[e,dv]at hx;cases h1:(p9 h.objs.size names []).lookup x with
  |none=>rw[h1]at hx;exact .inr hx
  |some d=>rw[h1]at hx;cases hx;exact .inl (oh h1)
 refine⟨λx c hx=> ?_,λx y c hlo hcl hx hy=> ?_,λx c hx hn=> ?_,λx hx=> ?_,λx c hx hc=> ?_⟩
 ·rcases sp x c hx with z|z
  ·exact .inr ⟨(ok.empty x c z).2,(ok.empty x c z).1⟩
  ·exact .inl z
 ·rcases sp x c hx with z|z
  ·rcases sp y c hy with z'|z'
   ·exact name_of_addr ok.apart z z'
   ·exact absurd (hcl _ _ z') (not_lt.mpr hlo)
  ·exact absurd (hcl _ _ z) (not_lt.mpr hlo)
 ·rw[e,dv];cases h1:(p9 h.objs.size names []).lookup x with
  |none=>exact hx
  |some d=>exact absurd (nm (oh h1)) hn
 ·exact qh.mp (W.cellsFrom_some names _ cl (.inl hx))
 ·obtain⟨d,hd⟩:=qh.mp (W.cellsFrom_some names h.objs.size [] (.inl hx));rw[e,dv,hd]at hc;cases hc;exact(ok.empty x _ (oh hd)).2
theorem A9k
  (hQ:Q {scope,locals:=s.heap.objs.size,globals,cells:=p9 (s.heap.objs.size+1) scope.names closure,qual,func:=none,code:=outer.code,frame:=outer.frame,builtins:=outer.builtins} {s with heap:=AL (s.heap.push {cls:=.type "dict",data:=.dict #[]}) scope.names}):
  jy M A (newFunctionEnv scope globals closure [] qual none .none (some outer)) Q E s:=by
 simp only[newFunctionEnv,Option.isSome_some,if_true];refine CI (wpAny_alloc ?_);refine CI (wpAny_layCells _ (λname kind cells=>by cases hkc:kind==og<;>simp[hkc]) _ _ _ _ ?_);rw[show({s with heap:=s.heap.push {cls:=.type "dict",data:=.dict #[]}}:jw).heap.objs.size=s.heap.objs.size+1 from i6 ..];exact CI (CJ (CJ hQ))
theorem A37 (I2:Inv X kb σ H2 s2)(hns:X.env.scope.names=ns)(hN:X.N=N)(hk:scope.kind= .function)(ok:iH ns N scope frees)(f2:∀b∈fp,fO X kb H2 b)(hlive:∀b∈fp,∃o,s2.heap.get? b=some o)
  (hc1:∀x c,cl.lookup x=some c->X.env.cells.lookup x=some c)(hc2:∀x,(x,m4)∈scope.names->∃c,cl.lookup x=some c)
  (O:A1l scope.names h4 (C+1) cl cl')(hC:C=s2.heap.objs.size+1)(hnsC:∃m,h4.Ns C m)(hacc:ObjOk X.prog X.w (upd H2 s2.heap.objs.size u) h4 s2.heap.objs.size u)
  (hkeep:∀b o,s2.heap.get? b=some o->h4.get? b=some o):
  Inv (cJ X (loc++frees.map (·.1)) scope ⟨cl',C,s2,H2,fp,X.pn++kb⟩) [] (σC loc.length frees σ) (upd H2 s2.heap.objs.size u) {s2 with heap:=h4,toks:=tk}:=by
 have below:∀{b:ju}{o:Obj},s2.heap.get? b=some o->b≠C:=fun{b o} e z=>by
  have:=CO e;rw[z,hC]at this;exact je _ (jg this)
 have hl:H2 s2.heap.objs.size=none:=I2.hok.fresh (CT _);have hCn:H2 C=none:=I2.hok.fresh (by rw[hC];exact jc _);have cne:∀x c,X.env.cells.lookup x=some c->∃o v,s2.heap.get? c=some o/\o.data= .cell v:=λx c e=>by
  obtain⟨v,o,ho,hd⟩:=I2.cell x c e;exact⟨o,v,ho,hd⟩
 obtain⟨mC,hmC⟩:=hnsC;have lt:∀x c,X.env.cells.lookup x=some c->c<s2.heap.objs.size:=λx c e=>by
  obtain⟨o,v,ho,_⟩:=cne x c e;exact CO ho
 have oc:∀x c,cl'.lookup x=some c->X.env.cells.lookup x=some c\/(s2.heap.objs.size+1<c/\h4.IsCell c none):=λx c e=>by
  rcases O.of x c e with z| ⟨z,y⟩
  ·exact .inl (hc1 x c z)
  ·exact .inr ⟨by rw[hC]at z;exact z,y⟩
 have hCl:C≠s2.heap.objs.size:=by rw[hC];exact AK _
 refine⟨⟨I2.ok.mod,hk,I2.ok.glob,I2.ok.blt,?_,λx y c h1 h2=> ?_,λx hx=> ?_,λx c h hx=>jb (jf (by show s2.heap.objs.size<C+1;rw[hC];exact ji (jj _)) (O.new x c (eq_of_beq h) hx)),I2.ok.hd,I2.ok.frames,.inl rfl,λb hb=> ⟨?_,λx c e z=> ?_⟩,I2.bs,jd I2.ok.bsz I2.sz,λb o e hb=> ?_,λb hb hfs=> ?_,I2.stack,I2.stkFree⟩,
  rfl,I2.bare,?_,⟨mC,hmC,λi x v h1 h2 h3=> ?_⟩,λx c e=> ?_,?_,λx c e=> ?_,λp hp=> ?_,?_,?_⟩
 ·show s2.heap.objs.size<=C;rw[hC];exact jc _
 ·
  rcases oc x c h1 with z|z
  ·rcases oc y c h2 with z'|z'
   ·exact I2.ok.inj x y c z z'
   ·exact absurd (jk (ji (lt x c z)) z'.1) (je _)
  ·exact O.inj x y c (by rw[hC];exact z.1) (λz d e=>jk (lt z d (hc1 z d e)) (by rw[hC];exact ji (jj _))) h1 h2
 ·
  have hx':(relabel scope X.env).names.lookup x=some .cell\/(relabel scope X.env).names.lookup x=some .free:=hx;rcases relabel_back hx' with z|z
  ·by_cases hm:(x,og)∈scope.names
   ·exact O.own x ((ok.1 _ hm).1 rfl)
   ·obtain⟨c,hc⟩:=hc2 x z;exact⟨c,O.old x c hc hm⟩
  ·exact O.own x ((ok.1 _ z).1 rfl)
 ·obtain⟨o,ho⟩:=hlive b hb;exact below ho
 ·rcases oc x c e with y|y
  ·exact(f2 b hb).2.2.2.2.1 x c y z
  ·obtain⟨o,ho⟩:=hlive b hb;have:=CO ho;have y1:=y.1;rw[z]at y1;exact Nat.lt_asymm this (jg y1)
 ·rcases(f2 b hb).2.2.2.1 with z|z
  ·exact I2.ok.noex b o e z
  ·exact absurd (jf (CO (I2.ok.bs b o e).1) z) (je _)
 ·rcases fe.mp (I2.stkSub b hfs)with z|z
  ·exact(f2 b hb).2.1 z
  ·exact(f2 b hb).2.2.1 z
 ·exact Un.laid hkeep (CT _) hl
 ·
  have hi:¬i<loc.length:=λCA=>by
   unfold σC at h2;rw[cp (by simpa using CA),AF]at h2;simp[CA]at h2
  have h2':(frees[i - loc.length]?).map (λp=>(σ[p.2]?).join)=some (some v):=by
   unfold σC at h2;rw[cq (by simpa using hi),Bv,cy]at h2;exact h2
  have h1':(frees[i - loc.length]?).map (·.1)=some x:=by
   have h1:(loc++frees.map (·.1))[i]?=some x:=h1;rw[cq (by omega),cy]at h1;exact h1
  cases ep:frees[i - loc.length]? with
  |none=>rw[ep]at h1';simp at h1'
  |some p=>
   rw[ep]at h1' h2';simp only[Option.map_some,pq]at h1' h2';obtain⟨q1,q2,q3⟩:=ok.2 p (fq ep);have hσ:σ[p.2]?=some (some v):=by
    cases e:σ[p.2]? with
    |none=>rw[e]at h2';simp at h2'
    |some o=>rw[e]at h2';simp at h2';rw[h2']
   have vis:Vis X.env.scope p.1:=by
    show _\/_;rw[hns];rcases q3 with z|z
    ·exact .inr (.inl z)
    ·exact .inr (.inr z)
   obtain⟨m,hn,hlk⟩:=I2.loc;obtain⟨u,ru,lk⟩:=hlk p.2 p.1 v (by rw[hN];exact q1) hσ vis;refine⟨u,ru,.inr ?_⟩;rw[←h1'];rcases lk with⟨z,_⟩| ⟨_,c,ec,hcell⟩
   ·have z':X.env.scope.names.lookup p.1=some .local:=z;rw[hns]at z';rcases q3 with y|y<;>rw[z']at y<;>cases y
   ·obtain⟨c',hc'⟩:=hc2 p.1 (oh q2);have:c'=c:=by have:=hc1 _ _ hc';rw[ec]at this;exact(j7 this).symm
    subst this;refine⟨vT q2,c',O.old _ _ hc' (λhm=>by have:=(ok.1 _ hm).1 rfl;rw[q2]at this;cases this),?_⟩;obtain⟨o,ho,hd⟩:=hcell;exact⟨o,hkeep _ _ ho,hd⟩
 ·rcases oc x c e with y|y
  ·obtain⟨o,v,ho,hd⟩:=cne x c y;exact⟨v,o,hkeep _ _ ho,hd⟩
  ·exact⟨none,y.2⟩
 ·show upd H2 _ _ C=none;rw[aN hCl];exact hCn
 ·rcases oc x c e with y|y
  ·have:c≠s2.heap.objs.size:=jo (lt x c y);rw[aN this];exact I2.freeC x c y
  ·have h1:=y.1;rw[aN (λe=>by rw[e]at h1;exact je _ (jg h1))];exact I2.hok.fresh (jb (jg h1))
 ·have hp':p∈X.pn++kb:=by
   rcases d8.mp hp with z|z
   ·exact z
   ·exact absurd z (by simp)
  obtain⟨e,n,ne,nf,d⟩:=I2.pin p hp';refine⟨hkeep _ _ e,?_,below e,λz=> ?_,d⟩
  ·rw[aN (jo (CO e))];exact n
  ·rcases fe.mp (I2.stkSub p.1 z)with y|y
   ·exact ne y
   ·exact nf y
 ·exact I2.hok.laid hkeep (CT _) hacc
 ·show(σC loc.length frees σ).length=(loc++frees.map (·.1)).length;unfold σC;simp
theorem A21 {σ':St}(I2:Inv X kb σ H2 s2)(f2:∀b∈fp,fO X kb H2 b)(hC:C=s2.heap.objs.size+1)
  (J:Inv (cJ X N scope ⟨cl,C,s2,H2,fp,pl⟩) [] σ' H' s')(hs:my C s'.heap h'):Inv X kb σ H' {s' with heap:=h'}:=by
 have I3:Inv X kb σ H' s':=I2.call' (ch:=fp) J.os J.base J.hok J.bare λb hb=> ⟨(f2 b hb).2.2.2.1,(f2 b hb).2.1,(f2 b hb).2.2.2.2.1,(f2 b hb).2.2.2.2.2⟩;refine I3.turned (it:=C) (t':=s'.toks) (λb o hb e=>(hs.2 b hb).trans e) J.free ?_ (.inr ?_) (λx c e z=> ?_) λp hp z=> ?_
 ·intro z;have:=I2.lt;rw[←z,hC]at this;exact je _ (jg this)
 ·rw[hC];exact jd I2.sz (jc _)
 ·obtain⟨v,q⟩:=I2.cell x c e;have:=q.lt;rw[z,hC]at this;exact je _ (jg this)
 ·have:=CO (I2.pin p hp).1;rw[z,hC]at this;exact je _ (jg this)
theorem nC {e:om}{gs:List B0}{g0:B0}{wi:TI}{tg iter:om}{R:cG->ju->It->St->Hp->(Hp->Prop)->Prop}{use:Option (jt->Sem Unit)}{Q:jt->jw->Prop}{newPos:Pos}{nac:Sem jt}{oa:Obj}{u:HO}
  (hna:∀(E:jt->jw->Prop)(s:jw)(Q:jt->jw->Prop),Q (.ref s.heap.objs.size) {s with heap:=s.heap.push oa}->jy (kg X.prog X.w) X.A nac Q E s)(hoa:oa.isFreed=false)(hou:∀(H:Hp)(h:kj)(a:ju),n4<a->h.get? a=some oa->ObjOk X.prog X.w H h a u)
  (hcl:clausesOf e=g0::gs)(hg0:g0.iter=iter)(hi:PI X tg iter wi)(hns:X.env.scope.names=ns)(hN:X.N=N)(hk:scope.kind= .function)(ok:iH ns N scope frees)
  (hs:∀x,ou iter X.env x=pure x){kb:List (ju×Obj)}{s:jw}{σ:St}{H:Hp}{QH:ju->Hp->Prop}(I:Inv X kb σ H s)
  (h:wi σ H λJ H1=> ∀(Z:cG)(l:ju),H1 l=none->R Z l J (σC loc.length frees σ) (upd H1 l u) (QH l))
  (block:∀(Z:cG)(l it:ju)(fp:List ju)(tn:Nat->kj->Prop)(J:It)(H4:Hp)(s4:jw)(σ4:St),Z.fp=fp->Inv (cJ X (loc++frees.map (·.1)) scope Z) [] σ4 H4 s4->fX X.prog X.w X.K tg J fp it tn->tn 0 s4.heap->
   (∀b∈fp,fO (cJ X (loc++frees.map (·.1)) scope Z) [] H4 b)->R Z l J σ4 H4 (QH l)->
   tq (kg X.prog X.w) X.A (.compStart e 0 (.ref it) (.ref l) (compEnvC scope Z.cl Z.C X.env)) (λr s'=>r= .ok .next/\∃σ' H',Inv (cJ X (loc++frees.map (·.1)) scope Z) [] σ' H' s'/\QH l H') s4)
  (fin:∀(l C:ju)(H':Hp)(s':jw),(∃m,s'.heap.Ns C m)->Inv X kb σ H' s'->H' C=none->X.s₀.heap.objs.size<=C->C≠X.env.locals->(∀x c,X.env.cells.lookup x=some c->c≠C)->(∀h',my C s'.heap h'->Inv X kb σ H' {s' with heap:=h'})->(∀p∈X.pn++kb,p.1≠C)->QH l H'->
   compPost (kg X.prog X.w) X.A X.xe use Q (.ref l) C (.ok .next) s'):
  jy (kg X.prog X.w) X.A (comprehension e scope X.env newPos nac false (sf iter X.env) use) Q X.xe s:=by
 obtain⟨cl,hclos,hc1,hc2⟩:=A8m (env:=X.env) (scope:=scope) λx hx hf=>by
  refine I.ok.has x.1 ?_;have:=(ok.1 x hx).2.2 hf;rw[←hns]at this;exact this
 have B3:∀x,ou g0.iter X.env x=pure x:=by rw[hg0];exact hs
 refine wpAny_comprehension_free hcl B3 hclos hk (λx hx hl=>(ok.1 x hx).2.1 hl) (thn (hi kb s σ H _ I h) λv s1 h1=>thn h1 λitv s2 h2=> ?_);obtain⟨it,fp,tn,J,H2,e2,I2,T,st2,f2,q2⟩:=h2;subst e2;refine hna _ _ _ (A9k ?_);have hsz:(s2.heap.push oa).objs.size=s2.heap.objs.size+1:=i6 ..;have keep:∀b o,s2.heap.get? b=some o->(AL ((s2.heap.push oa).push {cls:=.type "dict",data:=.dict #[]}) scope.names).get? b=some o:=λb o e=>Bn _ _ _ _ (CK _ (CK _ e));have hacc:(AL ((s2.heap.push oa).push {cls:=.type "dict",data:=.dict #[]}) scope.names).get? s2.heap.objs.size=some oa:=Bn _ _ _ _ (CK _ (iy _ hoa));have hns₁:∃m,(AL ((s2.heap.push oa).push {cls:=.type "dict",data:=.dict #[]}) scope.names).Ns (s2.heap.push oa).objs.size m:=⟨_,(kj.Ns.new (s2.heap.push oa) (.type "dict")).keeps (Bn _ _)⟩;have O:=A88 scope.names ((s2.heap.push oa).push {cls:=.type "dict",data:=.dict #[]}) cl;rw[i6]at O;dsimp only
 generalize hcl':p9 ((s2.heap.push oa).objs.size+1) scope.names cl=cl' at O⊢;generalize hh₁:AL ((s2.heap.push oa).push {cls:=.type "dict",data:=.dict #[]}) scope.names=h₁ at keep hacc hns₁ O⊢;generalize hCeq:(s2.heap.push oa).objs.size=C at hns₁ hsz O⊢;have live:∀b∈fp,∃o,s2.heap.get? b=some o:=λb hb=>let ⟨o,ho,_⟩:=T.obj _ _ st2 b hb;⟨o,ho⟩;have J0:=A37 (scope:=scope) (loc:=loc) (frees:=frees) (tk:=s2.toks) I2 hns hN hk ok f2 live hc1 hc2 O hsz hns₁ (hou _ _ _ I2.big hacc) keep;have hln:H2 s2.heap.objs.size=none:=I2.hok.fresh (CT _);have B:=block ⟨cl',C,s2,H2,fp,X.pn++kb⟩ s2.heap.objs.size it fp tn J _ _ _ rfl J0 T (T.keep _ _ _ st2 λb _ o e=>keep b o e) (λb hb=>by
  obtain⟨o,ho⟩:=live b hb;obtain⟨z0,z1,z2,z3,z4,z5⟩:=f2 b hb;refine⟨?_,?_,λz=> ?_,.inl hb,λx c e=> ?_,λp hp=>z5 p ?_⟩
  ·rw[aN (jo (CO ho))];exact z0
  ·show b≠C;rw[hsz];exact jo (ji (CO ho))
  ·rcases fe.mp (I2.stkSub b z)with y|y
   ·exact z1 y
   ·exact z2 y
  ·rcases O.of x c e with y| ⟨y,_⟩
   ·exact z4 x c (hc1 x c y)
   ·have:=CO ho;intro z;have z':c=b:=z;rw[z',hsz]at y;exact Nat.lt_asymm this (jg y)
  ·rcases d8.mp hp with y|y
   ·exact y
   ·exact absurd y (by simp)) (q2 _ _ hln)
 refine qg B λr s' hr=> ?_;obtain⟨rfl,σ',H',J',q'⟩:=hr;obtain⟨m',hm',_⟩:=J'.loc;have hCl:C≠X.env.locals:=λz=>by
  have:=I2.lt;rw[←z,hsz]at this;exact je _ (jg this)
 have hCc:∀x c,X.env.cells.lookup x=some c->c≠C:=λx c e z=>by
  obtain⟨v,q⟩:=I2.cell x c e;have:=q.lt;rw[z,hsz]at this;exact je _ (jg this)
 have hCp:∀p∈X.pn++kb,p.1≠C:=λp hp z=>by
  have:=CO (I2.pin p hp).1;rw[z,hsz]at this;exact je _ (jg this)
 exact fin s2.heap.objs.size C H' s' ⟨m',hm'⟩ (by have:=A21 I2 f2 hsz J' (my.refl C s'.heap);exact this) J'.free (by rw[hsz];exact jd I2.sz (jc _)) hCl hCc (λh' hs=>A21 I2 f2 hsz J' hs) hCp q'
theorem bQ {CC tg iter:om}{CD:List om}{wi:TI}{g:cG->TG}{tt:cG->TT}{te:cG->TE}(ns:List (Str×k7))(N:List Str)(loc:List Str)(frees:List (Str×Nat))(hc:X.calm=true)(hi:PI X tg iter wi)
  (hns:X.env.scope.names=ns)(hN:X.N=N)(hk:scope.kind= .function)(ok:iH ns N scope frees)
  (hg:∀Z,PG (cJ X (loc++frees.map (·.1)) scope Z) tg (g Z))(ht:∀Z,PTs (cJ X (loc++frees.map (·.1)) scope Z) CD (tt Z))(he:∀Z,PE (cJ X (loc++frees.map (·.1)) scope Z) CC (te Z))
  (hs:∀x,ou iter X.env x=pure x:=by intro _;rfl):PE X (.ListComp CC [⟨tg,iter,CD,0⟩] scope pos) (wX wi g tt te loc.length frees):=by
 intro kb s σ H Q I h;rw[eval_ListComp];refine nC (nac:=newList []) (oa:={cls:=.type "list",dict:=none,data:=.seq ([]:List jt).toArray}) (u:=.lst []) (λE s Q h=>k8 h) rfl (λH h a _ e=> ⟨by simp,[],_,.nil,e⟩) (e:=.ListComp CC [⟨tg,iter,CD,0⟩] scope pos) (g0:=⟨tg,iter,CD,0⟩) (gs:=[]) (tg:=tg) (iter:=iter) (loc:=loc) (R:=λZ l J σ H QH=>cP J (g Z) (cL (tt Z) (eN l (te Z))) (eC λ_ H'=>QH H') σ H) (use:=none) (QH:=λl H'=>Q (.ref l) H') rfl rfl hi hns hN hk ok hs I h ?_ ?_
 ·intro Z l it fp tn J H4 s4 σ4 hfp I4 T st4 f4 q4;have L:=lQ (Y:=cJ X (loc++frees.map (·.1)) scope Z) rfl hc (A2a CC tg iter CD scope pos (.ref it) (.ref l) _) (hg Z) (ht Z) (uJ rfl (he Z)) I4 T st4 f4 q4;refine qg (xv L (T.self _ _ _ _ _ st4 L)) λr s' hr=> ?_;exact hr
 ·intro l C H' s' hm J' hn h1 h2 h3 h4 _ q';obtain⟨m,hm⟩:=hm;exact⟨m,hm,λh' B3=> ⟨.ref l,H',h4 h' B3,rfl,q'⟩⟩
theorem B3d {kx vx tg iter:om}{CD:List om}{wi:TI}{g:cG->TG}{tt:cG->TT}{tk tv:cG->TE}(ns:List (Str×k7))(N:List Str)(loc:List Str)(frees:List (Str×Nat))(hc:X.calm=true)(hi:PI X tg iter wi)
  (hns:X.env.scope.names=ns)(hN:X.N=N)(hk:scope.kind= .function)(ok:iH ns N scope frees)
  (hg:∀Z,PG (cJ X (loc++frees.map (·.1)) scope Z) tg (g Z))(ht:∀Z,PTs (cJ X (loc++frees.map (·.1)) scope Z) CD (tt Z))(hu:X.A.units<nj)(he:∀Z,PE (cJ X (loc++frees.map (·.1)) scope Z) kx (tk Z))(hv:∀Z,PE (cJ X (loc++frees.map (·.1)) scope Z) vx (tv Z))
  (hs:∀x,ou iter X.env x=pure x:=by intro _;rfl):PE X (.DictComp kx vx [⟨tg,iter,CD,0⟩] scope pos) (A6j wi g tt tk tv loc.length frees):=by
 intro kb s σ H Q I h;rw[arm_eval_DictComp];refine nC (nac:=newDict) (oa:={cls:=.type "dict",data:=.dict #[]}) (u:=.dK []) (λE s Q h=>k8 h) rfl (λH h a hb e=> ⟨js _,beq_eq_false_iff_ne.mpr (Ne.symm (jo hb)),[],.nil,_,#[],0,e,⟨rfl,rfl,rfl⟩,rfl,(λe he=>by simp at he),.nil,gg⟩) (e:=.DictComp kx vx [⟨tg,iter,CD,0⟩] scope pos) (g0:=⟨tg,iter,CD,0⟩) (gs:=[]) (tg:=tg) (iter:=iter) (loc:=loc) (R:=λZ l J σ H QH=>cP J (g Z) (cL (tt Z) (rL l (tk Z) (tv Z))) (eC λ_ H'=>QH H') σ H) (use:=none) (QH:=λl H'=>Q (.ref l) H') rfl rfl hi hns hN hk ok hs I h ?_ ?_
 ·intro Z l it fp tn J H4 s4 σ4 hfp I4 T st4 f4 q4;have L:=lQ (Y:=cJ X (loc++frees.map (·.1)) scope Z) rfl hc (B4c kx vx tg iter CD scope pos (.ref it) (.ref l) _) (hg Z) (ht Z) (B2j rfl hu (he Z) (hv Z)) I4 T st4 f4 q4;refine qg (codeAny_compStart_dict L (T.self _ _ _ _ _ st4 L)) λr s' hr=> ?_;exact hr
 ·intro l C H' s' hm J' hn h1 h2 h3 h4 _ q';obtain⟨m,hm⟩:=hm;exact⟨m,hm,λh' B3=> ⟨.ref l,H',h4 h' B3,rfl,q'⟩⟩
theorem A0f (ns:List (Str×k7))(N:List Str)(loc:List Str)(frees:List (Str×Nat))(hc:X.calm=true)(hi:PI X tg iter wi)
  (hns:X.env.scope.names=ns)(hN:X.N=N)(hk:scope.kind= .function)(ok:iH ns N scope frees)
  (hg:∀Z,PG (cJ X (loc++frees.map (·.1)) scope Z) tg (g Z))(ht:∀Z,PTs (cJ X (loc++frees.map (·.1)) scope Z) CD (tt Z))
  (hi2:∀Z,PI (cJ X (loc++frees.map (·.1)) scope Z) tg2 iter2 (wi2 Z))(hg2:∀Z,PG (cJ X (loc++frees.map (·.1)) scope Z) tg2 (g2 Z))(ht2:∀Z,PTs (cJ X (loc++frees.map (·.1)) scope Z) ifs2 (tt2 Z))
  (he:∀Z,PE (cJ X (loc++frees.map (·.1)) scope Z) CC (te Z))
  (hs:∀x,ou iter X.env x=pure x:=by intro _;rfl)(hs2:∀(Z:cG) x,ou iter2 (cJ X (loc++frees.map (·.1)) scope Z).env x=pure x:=by intro _ _;rfl):
  PE X (.ListComp CC [⟨tg,iter,CD,0⟩,⟨tg2,iter2,ifs2,0⟩] scope pos) (A43 wi g tt wi2 g2 tt2 te loc.length frees):=by
 intro kb s σ H Q I h;rw[eval_ListComp];refine nC (nac:=newList []) (oa:={cls:=.type "list",dict:=none,data:=.seq ([]:List jt).toArray}) (u:=.lst []) (λE s Q h=>k8 h) rfl (λH h a _ e=> ⟨by simp,[],_,.nil,e⟩) (e:=.ListComp CC [⟨tg,iter,CD,0⟩,⟨tg2,iter2,ifs2,0⟩] scope pos) (g0:=⟨tg,iter,CD,0⟩) (gs:=[⟨tg2,iter2,ifs2,0⟩]) (tg:=tg) (iter:=iter) (loc:=loc) (R:=λZ l J σ H QH=>cP J (g Z) (cL (tt Z) (oP (wi2 Z) (g2 Z) (tt2 Z) (eN l (te Z)))) (eC λ_ H'=>QH H') σ H) (use:=none) (QH:=λl H'=>Q (.ref l) H') rfl rfl hi hns hN hk ok hs I h ?_ ?_
 ·intro Z l it fp tn J H4 s4 σ4 hfp I4 T st4 f4 q4;have L:=lQ (Y:=cJ X (loc++frees.map (·.1)) scope Z) rfl hc (B4p CC tg iter tg2 iter2 CD ifs2 scope pos (.ref it) (.ref l) _) (hg Z) (ht Z) (A5t rfl hc (hi2 Z) (hg2 Z) (ht2 Z) (he Z) (hs2 Z)) I4 T st4 f4 q4;refine qg (xv L (T.self _ _ _ _ _ st4 L)) λr s' hr=> ?_;exact hr
 ·intro l C H' s' hm J' hn h1 h2 h3 h4 _ q';obtain⟨m,hm⟩:=hm;exact⟨m,hm,λh' B3=> ⟨.ref l,H',h4 h' B3,rfl,q'⟩⟩
theorem A7b (ns:List (Str×k7))(N:List Str)(loc:List Str)(frees:List (Str×Nat))(hc:X.calm=true)(hND:X.N.Nodup)(hix:X.N[i]?=some x)(hxl:X.env.scope.names.lookup x=some .local)(hi:PI X tg iter wi)
  (hns:X.env.scope.names=ns)(hN:X.N=N)(hk:scope.kind= .function)(ok:iH ns N scope frees)
  (hg:∀Z,PG (cJ X (loc++frees.map (·.1)) scope Z) tg (g Z))(ht:∀Z,PTs (cJ X (loc++frees.map (·.1)) scope Z) CD (tt Z))(he:∀Z,PE (cJ X (loc++frees.map (·.1)) scope Z) CC (te Z))
  (hsw:BR (.ListComp CC [⟨tg,iter,CD,0⟩] scope pos) (some (.Name x pos')) apos.line X.env=pure true:=by rfl)
  (hs:∀x,ou iter X.env x=pure x:=by intro _;rfl):PS X (.Assign [.Name x pos'] (.ListComp CC [⟨tg,iter,CD,0⟩] scope pos) apos) (gY (wX wi g tt te loc.length frees) (cN i)):=by
 intro kb s σ H D I h;rw[exec_Assign_Name_used _ _ _ _ hsw];refine CI (ua (CI ?_))
 show jy _ X.A (do let _←comprehension (.ListComp CC [⟨tg,iter,CD,0⟩] scope pos) scope X.env _ (newList []) false (sf iter X.env) (some (B8 (.Name x pos') X.env))) _ _ s;refine CI ?_;have key:=nC (X:=X) (nac:=newList []) (oa:={cls:=.type "list",dict:=none,data:=.seq ([]:List jt).toArray}) (u:=.lst []) (λE s Q h=>k8 h) rfl (λH h a _ e=> ⟨by simp,[],_,.nil,e⟩) (e:=.ListComp CC [⟨tg,iter,CD,0⟩] scope pos) (g0:=⟨tg,iter,CD,0⟩) (gs:=[]) (tg:=tg) (iter:=iter) (newPos:=firstIterPos [⟨tg,iter,CD,0⟩] pos) (loc:=loc) (R:=λZ l J σ H QH=>cP J (g Z) (cL (tt Z) (eN l (te Z))) (eC λ_ H'=>QH H') σ H) (use:=some (B8 (.Name x pos') X.env)) (QH:=λl H'=>D.nx (σ.set i (some (.ref l))) H') (Q:=λ_ s'=>SP X kb D .next s') rfl rfl hi hns hN hk ok hs I h ?_ ?_
 ·exact thn key λ_ s' hq=>CJ (CJ hq)
 ·intro Z l it fp tn J H4 s4 σ4 hfp I4 T st4 f4 q4;have L:=lQ (Y:=cJ X (loc++frees.map (·.1)) scope Z) rfl hc (A2a CC tg iter CD scope pos (.ref it) (.ref l) _) (hg Z) (ht Z) (uJ rfl (he Z)) I4 T st4 f4 q4;refine qg (xv L (T.self _ _ _ _ _ st4 L)) λr s' hr=> ?_;exact hr
 ·intro l C H' s' hm J' hn h1 h2 h3 h4 h5 q';obtain⟨m,hm⟩:=hm;show jy _ X.A (B8 (.Name x pos') X.env (.ref l)) _ _ _;refine wpAny_assign_Name (xC J' hND hix (.inl hxl) (v:=.ref l) rfl (λs'' I'' hsb=> ?_) (.inr hxl));obtain⟨a,hsb,ha⟩:=hsb;have haC:C≠a:=by
   rcases ha with z|z
   ·rw[z];exact h2
   ·exact λy=>h3 x a z y.symm
  refine⟨m,hm.sameBut hsb haC,λh' B3=> ⟨_,H',?_,q'⟩⟩;exact I''.turned (it:=C) (t':=s''.toks) (λb o hb e=>(B3.2 b hb).trans e) hn h2 (.inr h1) h3 h5
theorem FnOk.never {P:j9}{w:kl}{K:W.Frag}{mg:Str->Option jt}{base:kj}{CX:CXT}{k:Nat}{f:ju}{fd:tm}{ps:List Str}:FnOk P w K mg base CX k f fd ps (λ_ _ _ _=>False):=
 ⟨λ_ _ _ _ h=>h.elim,λ_ _ _ _ _ _ _ _ _ _ _ _ _ h=>h.elim⟩
theorem dH (he:PE X (.Constant c j pos) te)(hr:PA X es t):PA X (.Constant c j pos::es) (bX te t):=bA he hr rfl
theorem aD (he:PE X (.Name x pos) te)(hr:PA X es t):PA X (.Name x pos::es) (bX te t):=bA he hr rfl
theorem dQ (he:PE X (.BinOp a o b pos) te)(hr:PA X es t):PA X (.BinOp a o b pos::es) (bX te t):=bA he hr rfl
theorem A9c (he:PE X (.UnaryOp o b pos) te)(hr:PA X es t):PA X (.UnaryOp o b pos::es) (bX te t):=bA he hr rfl
theorem bM (he:PE X (.Call f a k pos) te)(hr:PA X es t):PA X (.Call f a k pos::es) (bX te t):=bA he hr rfl
theorem gI (he:PE X (.Tuple a k pos) te)(hr:PA X es t):PA X (.Tuple a k pos::es) (bX te t):=bA he hr rfl
theorem lU (he:PE X (.List a pos) te)(hr:PA X es t):PA X (.List a pos::es) (bX te t):=bA he hr rfl
theorem fE (he:PE X (.Subscript a b pos) te)(hr:PA X es t):PA X (.Subscript a b pos::es) (bX te t):=bA he hr rfl
theorem A2o (he:PE X (.Compare a b c pos) te)(hr:PA X es t):PA X (.Compare a b c pos::es) (bX te t):=bA he hr rfl
theorem pV (he:PE X (.Dict a b pos) te)(hr:PA X es t):PA X (.Dict a b pos::es) (bX te t):=bA he hr rfl
theorem cY (he:PE X (.ListComp a b c pos) te)(hr:PA X es t):PA X (.ListComp a b c pos::es) (bX te t):=bA he hr rfl
@[irreducible] def PAq (X:Cx)(es:List om)(t:TA):Prop:=PA X es t
theorem kR (h:PAq X es t):PA X es t:=by unfold PAq at h;exact h
theorem cT:PAq X [] iJ:=by unfold PAq;exact aB
theorem bL (hr:PAq X es t):PAq X (.Constant (.int i) j pos::es) (bX (tC (.int i)) t):=by unfold PAq at*;exact dH aU hr
theorem kQ (he:PE X (.BinOp a o b pos) te)(hr:PAq X es t):PAq X (.BinOp a o b pos::es) (bX te t):=by unfold PAq at*;exact dQ he hr
theorem tW (he:PE X (.UnaryOp o b pos) te)(hr:PAq X es t):PAq X (.UnaryOp o b pos::es) (bX te t):=by unfold PAq at*;exact A9c he hr
theorem vO (he:PE X (.Call f a k pos) te)(hr:PAq X es t):PAq X (.Call f a k pos::es) (bX te t):=by unfold PAq at*;exact bM he hr
@[irreducible] def pA (X:Cx)(st:List mw)(t:TS):Prop:=CV X st t
@[irreducible] def PEq (X:Cx)(e:om)(t:TE):Prop:=PE X e t
@[irreducible] def PSq (X:Cx)(st:mw)(t:TS):Prop:=PS X st t
theorem A78 {st:mw}{rest:List mw}{t u:TS}(h1:PSq X st t)(h2:CV X rest u):CV X (st::rest) (nA t u):=by unfold PSq at h1;exact aT h1 h2
theorem tupq (h:PAq X es t):PEq X (.Tuple es k p1) (jW t):=by unfold PEq;exact bT (kR h)
theorem lstq (h:PAq X es t):PEq X (.List es p1) (rG t):=by unfold PEq;exact cZ (kR h)
theorem lZ (he:PEq X (.Tuple a k pos) te)(hr:PAq X es t):PAq X (.Tuple a k pos::es) (bX te t):=by unfold PEq at he;unfold PAq at*;exact gI he hr
theorem fT (he:PEq X (.List a pos) te)(hr:PAq X es t):PAq X (.List a pos::es) (bX te t):=by unfold PEq at he;unfold PAq at*;exact lU he hr
theorem B0q (h:PEq X e te):pA X [.Return (some e) p3] (nU te):=by unfold PEq at h;unfold pA;exact aR (aY h)
theorem B31 {st:mw}{rest:List mw}{t u:TS}(h1:PS X st t)(h2:pA X rest u):CV X (st::rest) (nA t u):=by unfold pA at h2;exact aT h1 h2
theorem Ext.updL (h:H l=some (.lst xs)):Ext H (upd H l (.lst ys))where
 tup:=λa zs e=>by rw[aN (uL e h (by simp))];exact e
 lst:=λa zs e=>by
  by_cases ha:a=l
  ·exact⟨ys,by rw[ha,aG]⟩
  ·exact⟨zs,by rw[aN ha];exact e⟩
 dct:=λa zs e=>by rw[aN (uL e h (by simp))];exact e
theorem C0.updL (s:C0 p H H1)(hl:H l=none)(hp:PenAt H p):C0 p H (upd H1 l (.lst ys)):=by obtain⟨x,f,e⟩:=hp;have hne:p≠l:=bG e hl;obtain⟨x',f',e'⟩:=s.pen;exact⟨⟨x',f',by rw[aN hne];exact e'⟩,λb o hb h=>by rw[aN (bG h hl)];exact s.keep b o hb h⟩
end L2
namespace Grd
noncomputable abbrev bE:=List (List Int)
noncomputable def pos (n:Int):Bool:=decide (0<=n)
noncomputable def road (n:Int):Bool:=decide (n= -1)
noncomputable def dO (f:Int->Bool)(r:Int)(xs:List Int):List (Int×Int):=xs.zipIdx.filterMap λq=>if f q.1 then some (r,(q.2:Int))else none
noncomputable def aQ (f:Int->Bool)(g:bE):List (Int×Int):=(g.zipIdx.map λp=>dO f p.2 p.1).flatten
noncomputable def atG (g:bE)(c:Int×Int):Int:=(g.getD c.1.toNat []).getD c.2.toNat 0
noncomputable def iN (xs:List Int):Int:=(xs.map λn=>if n>0 then n else 0).sum
noncomputable def bP (g:bE):Int:=(g.map iN).sum
noncomputable def eG (xs:List Int):Nat:=(xs.filter pos).length
noncomputable def cS (g:bE):Nat:=(g.map eG).sum
structure dM (g:bE)(w:Nat):Prop where
 h1:1<=g.length
 h4:g.length<=4
 w1:1<=w
 w5:w<=5
 len:∀xs∈g,xs.length=w
 num:∀xs∈g,∀n∈xs,-2<=n/\n<=99
 c1:1<=cS g
 c10:cS g<=10
theorem zE (xs:List α)(i:Nat)(x:α)(h:xs[i]?=some x):(xs.take (i+1)).zipIdx=(xs.take i).zipIdx++[(x,i)]:=by have CA:i<xs.length:=(CL.mp h).1;rw[iu,h,List.zipIdx_append];simp;omega
theorem rowF_succ (f:Int->Bool)(r:Int)(xs:List Int)(i:Nat)(x:Int)(h:xs[i]?=some x):dO f r (xs.take (i+1))=dO f r (xs.take i)++if f x then [(r,(i:Int))]else []:=by
 unfold dO;rw[zE xs i x h,Bw]
 congr 1
 cases hf:f x<;>simp[hf]
theorem gridF_succ (f:Int->Bool)(g:bE)(i:Nat)(xs:List Int)(h:g[i]?=some xs):aQ f (g.take (i+1))=aQ f (g.take i)++dO f i xs:=by unfold aQ;rw[zE g i xs h,dz,b9];simp
theorem B3q (xs:List Int)(x:Int):eG (xs++[x])=eG xs+if pos x then 1 else 0:=by unfold eG;rw[bg,c8];cases hp:pos x<;>simp[hp]
theorem A6p (g:bE)(xs:List Int):cS (g++[xs])=cS g+eG xs:=by unfold cS;rw[dz,ig];simp
theorem mem_rowF:c∈dO f r xs↔c.1=r/\∃j x,c.2=(j:Nat)/\xs[j]?=some x/\f x=true:=by
 unfold dO;rw[fh];constructor
 ·rintro⟨⟨x,j⟩,hm,e⟩;have hx:=fz.mp hm;cases hf:f x with
  |true=>
   simp only[hf,if_true,pq]at e;subst e;exact⟨rfl,j,x,rfl,hx,hf⟩
  |false=>simp[hf]at e
 ·rintro⟨e1,j,x,e2,hx,hf⟩;refine⟨(x,j),fz.mpr hx,?_⟩;simp only[hf,if_true,pq];exact AH e1.symm e2.symm
theorem mem_gridF:c∈aQ f g↔ ∃(i j:Nat)(xs:List Int)(x:Int),c=((i:Int),(j:Int))/\g[i]?=some xs/\xs[j]?=some x/\f x=true:=by
 unfold aQ;rw[fi];constructor
 ·rintro⟨l,hl,hc⟩;obtain⟨⟨xs,i⟩,hm,rfl⟩:=fm.mp hl;obtain⟨e1,j,x,e2,hx,hf⟩:=mem_rowF.mp hc;exact⟨i,j,xs,x,AH e1 e2,fz.mp hm,hx,hf⟩
 ·rintro⟨i,j,xs,x,rfl,hg,hx,hf⟩;exact⟨dO f i xs,fm.mpr ⟨(xs,i),fz.mpr hg,rfl⟩,mem_rowF.mpr ⟨rfl,j,x,rfl,hx,hf⟩⟩
theorem jN {g:bE}{i j:Nat}{xs:List Int}{x:Int}(h1:g[i]?=some xs)(h2:xs[j]?=some x):atG g ((i:Int),(j:Int))=x:=by unfold atG;simp[cm,h1,h2]
theorem yH {r:Int}:∀(pre xs:List Int)(v:Int×Int->Int),(∀j x,xs[j]?=some x->v (r,((pre.length+j:Nat):Int))=x)->(((xs.zipIdx pre.length).filterMap λq=>if pos q.1 then some (r,(q.2:Int))else none).map v)=xs.filter pos
 |_,[],_,_=>by simp
 |pre,x::xs,v,h=>by
  have ih:=yH (r:=r) (pre++[x]) xs v λj y hy=>by
   have:=h (j+1) y (by simpa using hy);rw[c8];have e:pre.length+[x].length+j=pre.length+(j+1):=by simp;omega
   rw[e];exact this
  have h0:=h 0 x rfl;rw[c8]at ih;rw[List.zipIdx_cons];have ih':(((xs.zipIdx (pre.length+1)).filterMap λq=>if pos q.1 then some (r,(q.2:Int))else none).map v)=xs.filter pos:=ih;cases hp:pos x with
  |true=>
   rw[List.filterMap_cons_some (b:=(r,(pre.length:Int))) (by simp[hp]),d6,ih',bo hp]
   congr 1
  |false=>
   rw[List.filterMap_cons_none (by simp[hp]),ih',bj (by simp[hp])]
theorem tU (g:bE):(aQ pos g).map (atG g)=(g.map λxs=>xs.filter pos).flatten:=by
 unfold aQ;rw[List.map_flatten,d7];have e:g.zipIdx.map (vd (atG g)∘λp=>dO pos p.2 p.1)=g.zipIdx.map λp=>p.1.filter pos:=by
  refine d5 λp hp=> ?_;obtain⟨xs,i⟩:=p;have hx:=fz.mp hp;show(dO pos i xs).map (atG g)=xs.filter pos;exact yH (r:=(i:Int)) [] xs (atG g) λj x hj=>by
   simp only[dk,jr];exact jN hx hj
 rw[e]
 congr 1
 have:(λp:List Int×Nat=>p.1.filter pos)=(λxs=>xs.filter pos)∘BJ:=rfl;rw[this,←d7,List.zipIdx_map_fst]
theorem B3u (xs:List Int):(xs.filter pos).sum=iN xs:=by
 unfold iN
 induction xs with
 |nil=>rfl
 |cons x xs ih=>
  rw[d6,il,←ih];by_cases h:0<=x
  ·rw[bo (by simp[pos,h]),il]
   congr 1
   split<;>omega
  ·rw[bj (by simp[pos,h])];rw[if_neg (by omega)];omega
theorem zV:∀g:bE,(g.map λxs=>xs.filter pos).flatten.sum=bP g
 | []=>rfl
 |xs::g=>by
  rw[d6,cb,ig,B3u,zV g];unfold bP;rw[d6,il]
theorem A1x (g:bE):((aQ pos g).map (atG g)).sum=bP g:=by rw[tU,zV]
theorem eD (g:bE):(aQ pos g).length=cS g:=by have:=congrArg pk (tU g);rw[di]at this;rw[this,List.length_flatten,d7];rfl
end Grd
namespace L2
open PySem Grd
noncomputable def fR (s:mw):List mw:=match s with| .For _ _ b _ _=>b|_=> []
noncomputable def RowsG (H:Hp)(bs:List ju)(g:bE):Prop:=Paired (λb xs=>H b=some (.tup ((xs:List Int).map V.int))) bs g
noncomputable def GridAt (H:Hp)(a:ju)(g:bE):Prop:=∃bs:List ju,H a=some (.tup (bs.map V.ref))/\RowsG H bs g
theorem RowsG.ext (h:RowsG H bs g)(e:Ext H H'):RowsG H' bs g:=Paired.mapP h λ_ _ z=>e.tup _ _ z
theorem GridAt.ext (h:GridAt H a g)(e:Ext H H'):GridAt H' a g:=let ⟨bs,h1,h2⟩:=h;⟨bs,e.tup _ _ h1,h2.ext e⟩
theorem RowsG.get:∀{bs:List ju}{g:bE}{i:Nat}{xs:List Int},RowsG H bs g->g[i]?=some xs->∃b,bs[i]?=some b/\H b=some (.tup (xs.map V.int)):=by intro _ _ _ _ h e;unfold RowsG at h;have z:=A8x h e;exact z
theorem RowsG.row:∀{bs:List ju}{g:bE}{i:Nat}{b:ju},RowsG H bs g->bs[i]?=some b->∃xs,g[i]?=some xs/\H b=some (.tup (xs.map V.int)):=λh e=>jG h e
end L2
namespace L2
open PySem PySem.Spec PyProof.Rows
noncomputable def PlAt (H:Hp)(ps:List ju)(cs:List (Int×Int)):Prop:=Paired (λp c=>H p=some (.tup [.int c.1,.int c.2])) ps cs
theorem PlAt.same (h:PlAt H ps cs)(s:Same H H'):PlAt H' ps cs:=Paired.mapP h λ_ _ e=>s _ _ e
theorem PlAt.snoc (h:PlAt H ps cs)(e:H p=some (.tup [.int c.1,.int c.2])):PlAt H (ps++[p]) (cs++[c]):=Paired.snoc h e
end L2
namespace PySem
open Sem (wp)
structure nW (z TI TO i1 i2:ju)(f1 f2:List ju):Prop where
 z1:z∉f1
 z2:z∉f2
 o1:TO∉f1
 o2:TO∉f2
 c1:i1∉f2
 c2:i2∉f1
 Iz:TI≠z
 Oz:TO≠z
 iz:i1≠z
 jz:i2≠z
 IO:TI≠TO
 I1:TI≠i1
 I2:TI≠i2
 O1:TO≠i1
 O2:TO≠i2
 ij:i1≠i2
theorem A9l (n a b:Nat)(h1:a<n)(h2:b<n):nW (n+4) (n+2) (n+3) n (n+1) [n,a] [n+1,b]:=by
  constructor<;>intro h<;>first
    | (have h':@Eq Nat _ _:=h;omega)
    | (rcases fe.mp h with y|y
       · have y':@Eq Nat _ _:=y;omega
       · have y':@Eq Nat _ _:=fy.mp y;omega)
theorem A57 {z TI TO i1 i2:ju}{f1 f2:List ju}{n1 n2 k:Nat}{P1 P2:Nat->jt->Prop}{S1 S2:Nat->kj->Prop}{a b:jt}{Q:jt->jw->Prop}(D1:Draws prog w A i1 f1 n1 P1 S1)(D2:Draws prog w A i2 f2 n2 P2 S2)(D:nW z TI TO i1 i2 f1 f2)
  (hz:AM s.heap z TI TO .none)(hTI:uk s.heap TI (.ref i1) (.ref i2))(hTO:uk s.heap TO a b)(t1:S1 k s.heap)(t2:S2 k s.heap)(hk1:k<=n1)(hk2:k<n1->k<=n2)
  (hQ:k<n1->k<n2->∀x y h' tk,P1 k x->P2 k y->AM h' z TI TO (vh s.heap.objs.size)->uk h' TO x y->S1 (k+1) h'->S2 (k+1) h'->uk h' s.heap.objs.size x y->
   (∀c o,c≠z->c≠TO->c≠i1->c≠i2->s.heap.get? c=some o->h'.get? c=some o)->Q (.ref s.heap.objs.size) {s with heap:=h',toks:=tk})
  (hE:¬(k<n1/\k<n2)->∀h' e tk,(∀c o,c≠z->c≠TO->c≠i1->c≠i2->s.heap.get? c=some o->h'.get? c=some o)->(∃o,h'.get? e=some o/\o.cls= .type "StopIteration")->E (.ref e) {s with heap:=h',toks:=tk}):
  jy (kg prog w) A (j6.«zip.__next__» ⟨[.ref z],[]⟩) (λfin s'=> ∃v,fin= .done (.ret v)/\Q v s') E s:=by
 show jy _ _ (field (.ref z) 2>>=_) _ _ _;refine CI (oi hz rfl (x:=.bool false) rfl ?_);show jy _ _ (field (.ref z) 3>>=_) _ _ _;refine CI (oi hz rfl (x:=.ref TI) rfl (CI (n9 hTI rfl ?_)));show jy _ _ (wy (.ref z)>>=_) _ _ _;refine CI ?_;unfold wy;refine CI (oi hz rfl (x:=.none) rfl (CJ ?_));simp only[if_true];refine CI (pj (CI (oi hz rfl (x:=.ref TO) rfl (CI (m5 hz (by simp) λh₁ hz₁ hs₁=> ?_)))));replace hz₁:AM h₁ z TI TO .ellipsis:=hz₁;refine CI ?_;simp only[List.zipIdx_cons,List.zipIdx_nil,forIn_cons,List.forIn_nil];refine CI (CI (wpAny_onRaise ?_));show jy _ _ (pf (.ref i1)>>=_) _ _ _;have u1:S1 k h₁:=D1.frame k _ _ t1 λc hc o e=>hs₁.extBut _ _ (λq=>D.z1 (q▸hc)) e;rcases Nat.lt_or_eq_of_le hk1 with hk1|rfl
 rotate_left
 ·refine CI (D1.done _ _ _ u1 λh₂ e hs₂ he=> ?_);obtain⟨oe,hoe,hce⟩:=he;have hz₂:AM h₂ z TI TO .ellipsis:=hs₂ _ _ D.iz.symm hz₁;have hez:e≠z:=λx=>by subst x;rw[hz₂]at hoe;cases hoe;simp at hce
  refine m5 hz₂ (by simp) λh₃ _ hs₃=>hE (λq=>je _ q.1) h₃ e _ (λc o c1 _ c3 _ x=>hs₃.extBut _ _ c1 (hs₂ _ _ c3 (hs₁.extBut _ _ c1 x))) ⟨oe,hs₃.extBut _ _ hez hoe,hce⟩
 have hk2:=hk2 hk1;refine CI (D1.item k _ _ _ hk1 u1 λx h₂ tk₂ hx v1 hs₂=>CJ ?_);have hTO₂:uk h₂ TO a b:=hs₂.extBut _ _ D.O1 (hs₁.extBut _ _ D.Oz hTO);refine CI (n9 hTO₂ rfl (CI (wpAny_updateSeq_pair hTO₂ λh₃ hTO₃ hs₃=> ?_)));replace hTO₃:uk h₃ TO x b:=hTO₃;refine CI (vw (CJ ?_));refine CI (CI (wpAny_onRaise ?_));show jy _ _ (pf (.ref i2)>>=_) _ _ _;have u2:S2 k h₃:=D2.frame k _ _ t2 λc hc o e=>hs₃.extBut _ _ (λq=>D.o2 (q▸hc)) (hs₂.extBut _ _ (λq=>D.c1 (q▸hc)) (hs₁.extBut _ _ (λq=>D.z2 (q▸hc)) e));rcases Nat.lt_or_eq_of_le hk2 with hk2|rfl
 rotate_left
 ·refine CI (D2.done _ _ _ u2 λh₄ e hs₄ he=> ?_);obtain⟨oe,hoe,hce⟩:=he;have hz₄:AM h₄ z TI TO .ellipsis:=hs₄ _ _ D.jz.symm (hs₃.extBut _ _ D.Oz.symm (hs₂.extBut _ _ D.iz.symm hz₁));have hez:e≠z:=λx=>by subst x;rw[hz₄]at hoe;cases hoe;simp at hce
  refine m5 hz₄ (by simp) λh₅ _ hs₅=>hE (λq=>je _ q.2) h₅ e _ (λc o c1 c2 c3 c4 x=>hs₅.extBut _ _ c1 (hs₄ _ _ c4 (hs₃.extBut _ _ c2 (hs₂.extBut _ _ c3 (hs₁.extBut _ _ c1 x))))) ⟨oe,hs₅.extBut _ _ hez hoe,hce⟩
 refine CI (D2.item k _ _ _ hk2 u2 λy h₄ tk₄ hy v2 hs₄=>CJ ?_);have hTO₄:uk h₄ TO x b:=hs₄.extBut _ _ D.O2 hTO₃;refine CI (n9 hTO₄ rfl (CI (wpAny_updateSeq_pair hTO₄ λh₅ hTO₅ hs₅=> ?_)));replace hTO₅:uk h₅ TO x y:=hTO₅;refine CI (vw (CJ (CJ ?_)));refine CI (n9 hTO₅ rfl (CI (BK ?_)));have hsz:h₅.objs.size=s.heap.objs.size:=by rw[hs₅.1,hs₄.1,hs₃.1,hs₂.1,hs₁.1]
 have hz₅:AM h₅ z TI TO .ellipsis:=hs₅.extBut _ _ D.Oz.symm (hs₄.extBut _ _ D.jz.symm (hs₃.extBut _ _ D.Oz.symm (hs₂.extBut _ _ D.iz.symm hz₁)));have hk₅:∀c o,c≠z->c≠TO->c≠i1->c≠i2->s.heap.get? c=some o->h₅.get? c=some o:=λc o e1 e2 e3 e4 e=>hs₅.extBut _ _ e2 (hs₄.extBut _ _ e4 (hs₃.extBut _ _ e2 (hs₂.extBut _ _ e3 (hs₁.extBut _ _ e1 e))));have w1:S1 (k+1) h₅:=D1.frame _ _ _ v1 λc hc o e=>hs₅.extBut _ _ (λq=>D.o1 (q▸hc)) (hs₄.extBut _ _ (λq=>D.c2 (q▸hc)) (hs₃.extBut _ _ (λq=>D.o1 (q▸hc)) e));have w2:S2 (k+1) h₅:=D2.frame _ _ _ v2 λc hc o e=>hs₅.extBut _ _ (λq=>D.o2 (q▸hc)) e;have hzlt:z<h₅.objs.size:=CO hz₅;show jy _ _ (wk (.ref z) (.ref h₅.objs.size)>>=_) _ _ _;refine CI ?_;unfold wk;have hz₆:AM (h₅.push {cls:=.type "tuple",data:=.seq #[x,y]}) z TI TO .ellipsis:=CK _ hz₅;refine CI (m5 hz₆ (by simp) λh₇ hz₇ hs₇=> ?_);replace hz₇:AM h₇ z TI TO (vh h₅.objs.size):=hz₇;refine m5 hz₇ (by simp) λh₈ hz₈ hs₈=> ?_;replace hz₈:AM h₈ z TI TO (vh h₅.objs.size):=hz₈;have up:∀c o,c≠z->h₅.get? c=some o->h₈.get? c=some o:=λc o e1 e=>hs₈.extBut _ _ e1 (hs₇.extBut _ _ e1 (CK _ e));have hT₈:uk h₈ h₅.objs.size x y:=hs₈.extBut _ _ (jn hzlt) (hs₇.extBut _ _ (jn hzlt) (iy _ rfl));rw[hsz]at hz₈ hT₈;refine CJ ⟨_,rfl,?_⟩;show Q (.ref h₅.objs.size) _;rw[hsz];exact hQ hk1 hk2 x y h₈ _ hx hy hz₈ (up _ _ D.Oz hTO₅) (D1.frame _ _ _ w1 λc hc o e=>up c o (λq=>D.z1 (q▸hc)) e) (D2.frame _ _ _ w2 λc hc o e=>up c o (λq=>D.z2 (q▸hc)) e) hT₈ λc o e1 e2 e3 e4 e=>up c o e1 (hk₅ c o e1 e2 e3 e4 e)
theorem zP {z TI TO i1 i2:ju}{f1 f2:List ju}{n1 n2 k:Nat}{P1 P2:Nat->jt->Prop}{S1 S2:Nat->kj->Prop}{a b:jt}{Q:Option jt->jw->Prop}(D1:Draws prog w A.in1 i1 f1 n1 P1 S1)(D2:Draws prog w A.in1 i2 f2 n2 P2 S2)(D:nW z TI TO i1 i2 f1 f2)
  (hz:AM s.heap z TI TO .none)(hTI:uk s.heap TI (.ref i1) (.ref i2))(hTO:uk s.heap TO a b)(t1:S1 k s.heap)(t2:S2 k s.heap)(hk1:k<=n1)(hk2:k<n1->k<=n2)
  (hQ:k<n1->k<n2->∀x y h' tk,P1 k x->P2 k y->AM h' z TI TO (vh s.heap.objs.size)->uk h' TO x y->S1 (k+1) h'->S2 (k+1) h'->uk h' s.heap.objs.size x y->
   (∀c o,c≠z->c≠TO->c≠i1->c≠i2->s.heap.get? c=some o->h'.get? c=some o)->Q (some (.ref s.heap.objs.size)) {s with heap:=h',toks:=tk})
  (hN:¬(k<n1/\k<n2)->∀h' tk,(∀c o,c≠z->c≠TO->c≠i1->c≠i2->s.heap.get? c=some o->h'.get? c=some o)->Q none {s with heap:=h',toks:=tk}):
  jy (kg prog w) A (ub (.ref z)) Q E s:=by
 have hT:s.TypeIs (.ref z) "zip":=⟨_,hz,rfl⟩;unfold ub;exact CI (wz (nc (name:=qi "__next__") hT F.slot_zip_next (ly F.slot_zip_next hT F.entry_zip_next
   (A57 D1 D2 D hz hTI hTO t1 t2 hk1 hk2 (λb1 b2 x y h' tk q1 q2 a1 a2 a3 a4 a5 a6=>CJ (hQ b1 b2 x y h' tk q1 q2 a1 a2 a3 a4 a5 a6)) λn h' e tk hk ⟨o,ho,hc⟩=>CI (rg (T:="StopIteration") (b:=true) ⟨o,ho,hc⟩ BL (CJ (hN n _ _ hk)))) (F.args_zip_next_1 _))))
noncomputable abbrev zT1 (h:kj)(l1:ju):kj:=h.push {cls:=.type "tuple_iterator",data:=.fields #[.ref l1,.int 0 0]}
noncomputable abbrev zT2 (h:kj)(l1 l2:ju):kj:=(zT1 h l1).push {cls:=.type "tuple_iterator",data:=.fields #[.ref l2,.int 0 0]}
noncomputable abbrev zT3 (h:kj)(l1 l2:ju):kj:=(zT2 h l1 l2).push {cls:=.type "tuple",data:=.seq #[.ref h.objs.size,.ref (zT1 h l1).objs.size]}
noncomputable abbrev zT4 (h:kj)(l1 l2:ju):kj:=(zT3 h l1 l2).push {cls:=.type "tuple",data:=.seq #[.none,.none]}
noncomputable abbrev zT5 (h:kj)(l1 l2:ju):kj:=(zT4 h l1 l2).push {cls:=.type "zip",data:=.fields #[.none,.bool false,.bool false,.ref (zT2 h l1 l2).objs.size,.ref (zT3 h l1 l2).objs.size]}
theorem A7u (l1 l2:ju)(xs ys:Array jt):
  Meets (j6.«zip.__new__» ⟨[.type "zip",.ref l1,.ref l2],[]⟩) (λ_ R s=>s.heap.IsTuple l1 xs/\s.heap.IsTuple l2 ys/\R (.ok (.ret (.ref (zT4 s.heap l1 l2).objs.size))) {s with heap:=zT5 s.heap l1 l2}):=
 .of_wp λprog w A R s h=>by
  obtain⟨hp,g,d,tk,os⟩:=s;obtain⟨p1,p2,h⟩:=h;have isz:=sub_zip;have q1:Bc (jw.heap ⟨hp,g,d,tk,os⟩) l1 xs:=p1;have q2:Bc (jw.heap ⟨hp.push {cls:=.type "tuple_iterator",data:=.fields #[.ref l1,.int 0 0]},g,d,tk,os⟩) l2 ys:=let ⟨o,ho,r⟩:=p2;⟨o,CK _ ho,r⟩
  wp_walk using qe q1,qe q2
  exact⟨_,rfl,h⟩
theorem A31 (p1:s.heap.IsTuple l1 xs)(p2:s.heap.IsTuple l2 ys)
  (h:∀h',AM h' (s.heap.objs.size+4) (s.heap.objs.size+2) (s.heap.objs.size+3) .none->uk h' (s.heap.objs.size+2) (.ref s.heap.objs.size) (.ref (s.heap.objs.size+1))->
   uk h' (s.heap.objs.size+3) .none .none->h'.IsTupleIter s.heap.objs.size l1 0->h'.IsTupleIter (s.heap.objs.size+1) l2 0->h'.objs.size=s.heap.objs.size+5->
   (∀c o,s.heap.get? c=some o->h'.get? c=some o)->Q (.ref (s.heap.objs.size+4)) {s with heap:=h'}):
  jy (kg prog w) A (call (.type "zip") [.ref l1,.ref l2]) Q E s:=by
 refine callType_new F.called_zip (by decide) (F.typeCall_zip_2 _ _) (F.newCall_zip_2 _ _) (λobj=>F.args_object_init_3 obj _ _) F.entry_zip_new (A7u l1 l2 xs ys) ⟨p1,p2,?_⟩;have y1:(zT1 s.heap l1).objs.size=s.heap.objs.size+1:=i6 ..;have y2:(zT2 s.heap l1 l2).objs.size=s.heap.objs.size+2:=by rw[i6,y1]
 have y3:(zT3 s.heap l1 l2).objs.size=s.heap.objs.size+3:=by rw[i6,y2]
 have y4:(zT4 s.heap l1 l2).objs.size=s.heap.objs.size+4:=by rw[i6,y3]
 have y5:(zT5 s.heap l1 l2).objs.size=s.heap.objs.size+5:=by rw[i6,y4]
 have r5:(zT5 s.heap l1 l2).get? (zT4 s.heap l1 l2).objs.size=some _:=iy _ rfl;have r4:(zT5 s.heap l1 l2).get? (zT3 s.heap l1 l2).objs.size=some _:=CK _ (iy _ rfl);have r3:(zT5 s.heap l1 l2).get? (zT2 s.heap l1 l2).objs.size=some _:=CK _ (CK _ (iy _ rfl));have r2:(zT5 s.heap l1 l2).get? (zT1 s.heap l1).objs.size=some _:=CK _ (CK _ (CK _ (iy _ rfl)));have r1:(zT5 s.heap l1 l2).get? s.heap.objs.size=some _:=CK _ (CK _ (CK _ (CK _ (iy _ rfl))));show _/\_;rw[y2,y3,y4]at r5;rw[y1,y2]at r3;rw[y3]at r4;rw[y1]at r2;rw[y4];exact⟨⟨_,r5,rfl⟩,h _ r5 r3 r4 ⟨_,r1,rfl,rfl⟩ ⟨_,r2,rfl,rfl⟩ y5 λc o x=>CK _ (CK _ (CK _ (CK _ (CK _ x))))⟩
end PySem
namespace L2
open PySem PySem.Spec PyProof.Rows
structure SeqK where
 Sq:W.Frag->Hp->ju->List V->Prop
 isq:kj->ju->Array jt->Prop
 iit:kj->ju->ju->Nat->Prop
structure SeqK.Ok (k:SeqK):Prop where
 get:∀{X:Cx}{kb:List (ju×Obj)}{σ:St}{H:Hp}{s:jw}{a:ju}{xs:List V},Inv X kb σ H s->k.Sq X.K H a xs->∃lu:List jt,Vals xs lu/\k.isq s.heap a lu.toArray
 inj:∀{X:Cx}{kb:List (ju×Obj)}{σ:St}{H:Hp}{s:jw}{a:ju}{xs ys:List V},Inv X kb σ H s->k.Sq X.K H a xs->k.Sq X.K H a ys->xs=ys
 lt:∀{h:kj}{a:ju}{lu:Array jt},k.isq h a lu->a<h.objs.size
 dr:∀{prog:j9}{w:kl}{A:mh},A.handled=none->∀(it l:ju),l≠it->∀items:Array jt,Draws prog w A it [it,l] items.size (λi v=>items[i]?=some v) (λi h=>k.iit h it l i/\k.isq h l items)
 obj:∀{h:kj}{it l:ju}{i:Nat},k.iit h it l i->∃o,h.get? it=some o/\∀v,o.data≠ .cell v
 «at»:∀{h h':kj}{it l:ju}{i:Nat},k.iit h it l i->(∀o,h.get? it=some o->h'.get? it=some o)->k.iit h' it l i
 zip:∀{prog:j9}{w:kl}{A:mh}{E:jt->jw->Prop}{s:jw}{l1 l2:ju}{xs ys:Array jt}{Q:jt->jw->Prop},k.isq s.heap l1 xs->k.isq s.heap l2 ys->
  (∀h',AM h' (s.heap.objs.size+4) (s.heap.objs.size+2) (s.heap.objs.size+3) .none->uk h' (s.heap.objs.size+2) (.ref s.heap.objs.size) (.ref (s.heap.objs.size+1))->uk h' (s.heap.objs.size+3) .none .none->
   k.iit h' s.heap.objs.size l1 0->k.iit h' (s.heap.objs.size+1) l2 0->(∀c o,s.heap.get? c=some o->h'.get? c=some o)->Q (.ref (s.heap.objs.size+4)) {s with heap:=h'})->jy (kg prog w) A (call (.type "zip") [.ref l1,.ref l2]) Q E s
noncomputable def kL:SeqK:=⟨CW,kj.IsList,kj.IsListIter⟩
noncomputable def kT:SeqK:=⟨CY,Bc,kj.IsTupleIter⟩
theorem A1m:kL.Ok where
 get:=λI h=>let ⟨lu,r,p,_⟩:=I.list h;⟨lu,r,p.isList⟩
 inj:=λI h1 h2=>I.list_inj h1 h2
 lt:=λp=>let ⟨o,ho,_⟩:=p;CO ho
 dr:=λhh it l hne items=>Draws.list hh it l hne items
 obj:=λ⟨o,e,c,d⟩=> ⟨o,e,λv z=>by rw[d]at z;cases z⟩
 «at»:=λx k=>kj.IsListIter.at x k
 zip:=λp1 p2 h=>call_zip_2 p1 p2 λh' a1 a2 a3 a4 a5 _ a7=>h h' a1 a2 a3 a4 a5 a7
theorem B2u:kT.Ok where
 get:=λI h=>let ⟨lu,r,p,_⟩:=I.tuple h;⟨lu,r,p⟩
 inj:=λI h1 h2=>I.tuple_inj h1 h2
 lt:=λp=>let ⟨o,ho,_⟩:=p;CO ho
 dr:=λhh it l hne items=>Draws.tuple hh it l hne items
 obj:=λ⟨o,e,c,d⟩=> ⟨o,e,λv z=>by rw[d]at z;cases z⟩
 «at»:=λx k=>kj.IsTupleIter.at x k
 zip:=λp1 p2 h=>A31 p1 p2 λh' a1 a2 a3 a4 a5 _ a7=>h h' a1 a2 a3 a4 a5 a7
noncomputable def Itz (S1 S2:Hp->List V->Prop):It:=
 ⟨λi H=> ∃xs ys x y,S1 H xs/\S2 H ys/\xs[i]?=some x/\ys[i]?=some y,λi H v H'=> ∃p x y,v= .ref p/\H p=none/\H'=upd H p (.tup [x,y])/\(∀xs,S1 H xs->xs[i]?=some x)/\∀ys,S2 H ys->ys[i]?=some y,λi H=> ∃xs ys,S1 H xs/\S2 H ys/\(xs.length=i\/(ys.length=i/\i<xs.length))⟩
theorem B3e {P:j9}{w:kl}{K:W.Frag}{es:List om}{x1}{pos:Pos}{k k2:SeqK}(ok:k.Ok)(ok2:k2.Ok)(z TI TO i1 i2 a b:ju)(D:nW z TI TO i1 i2 [i1,a] [i2,b])(ha:a≠i1)(hb:b≠i2):
  fX P w K (.Tuple es x1 pos) (Itz (λH xs=>k.Sq K H a xs) λH ys=>k2.Sq K H b ys) [z,TI,TO,i1,i2] z (λi h=>AM h z TI TO .none/\uk h TI (.ref i1) (.ref i2)/\(∃u v,uk h TO u v)/\k.iit h i1 a i/\k2.iit h i2 b i)where
 mem:=by simp
 obj:=λi h st c hc=>by
  obtain⟨hz,hTI,⟨u,v,hTO⟩,h1,h2⟩:=st;simp only[fe,gh,or_false]at hc;rcases hc with rfl|rfl|rfl|rfl|rfl
  ·exact⟨_,hz,λv z=>by cases z⟩
  ·exact⟨_,hTI,λv z=>by cases z⟩
  ·exact⟨_,hTO,λv z=>by cases z⟩
  ·exact ok.obj h1
  ·exact ok2.obj h2
 keep:=λi h h' st kp=>by
  obtain⟨hz,hTI,⟨u,v,hTO⟩,h1,h2⟩:=st;exact⟨kp z (by simp) _ hz,kp TI (by simp) _ hTI,⟨u,v,kp TO (by simp) _ hTO⟩,ok.at h1 λo q=>kp i1 (by simp) o q,ok2.at h2 λo q=>kp i2 (by simp) o q⟩
 item:=by
  intro X hP hw hK hc i kb s σ H E I hf st hg;subst hP hw hK;obtain⟨hz,hTI,⟨u,v,hTO⟩,h1,h2⟩:=st;obtain⟨xs,ys,x,y,q1,q2,e1,e2⟩:=hg;obtain⟨lu,rv,p1⟩:=ok.get I q1;obtain⟨jts,rw',p2⟩:=ok2.get I q2;obtain⟨ux,hux,rx⟩:=rv.get e1;obtain⟨uy,huy,ry⟩:=rw'.get e2;have l1:i<lu.toArray.size:=by rw[ic];exact(CL.mp hux).1
  have l2:i<jts.toArray.size:=by rw[ic];exact(CL.mp huy).1
  have hh:X.A.in1.handled=none:=by simp[I.ok.hd hc]
  refine zP (ok.dr hh i1 a ha lu.toArray) (ok2.dr hh i2 b hb jts.toArray) D hz hTI hTO ⟨h1,p1⟩ ⟨h2,p2⟩ (jb l1) (λ_=>jb l2) (λ_ _ vx vy h' tk hvx hvy g1 g2 g3 g4 g5 g6=> ?_) λn=>absurd ⟨l1,l2⟩ n;have ex:vx=ux:=by
   have e:lu[i]?=some vx:=by simpa using hvx
   rw[hux]at e;exact(j7 e).symm
  have ey:vy=uy:=by
   have e:jts[i]?=some vy:=by simpa using hvy
   rw[huy]at e;exact(j7 e).symm
  subst ex ey;refine⟨_,rfl,wpAny_letOwnedTupleGo_zip (s:={s with heap:=h',toks:=tk}) g1 λh2' hz2 hs2=> ?_⟩;have hn:H s.heap.objs.size=none:=I.hok.fresh (CT _);have lz:∀{c o},s.heap.get? c=some o->s.heap.objs.size≠c:=λe=>jn (CO e);have li1:s.heap.objs.size≠i1:=let ⟨o,e,_⟩:=ok.obj h1;lz e;have li2:s.heap.objs.size≠i2:=let ⟨o,e,_⟩:=ok2.obj h2;lz e;have kp:∀c o,c∉[z,TI,TO,i1,i2]->s.heap.get? c=some o->h2'.get? c=some o:=λc o hc' q=>by
   have c1:c≠z:=λe=>hc' (by simp[e]);exact(hs2.2 c c1).trans (g6 c o c1 (λe=>hc' (by simp[e])) (λe=>hc' (by simp[e])) (λe=>hc' (by simp[e])) q)
  have hT2:uk h2' s.heap.objs.size vx vy:=(hs2.2 _ (lz hz)).trans g5;have I2:Inv X kb σ (upd H s.heap.objs.size (.tup [x,y])) {s with heap:=h2',toks:=tk}:=I.turnLaid (fp:=[z,TI,TO,i1,i2]) kp hf (CT _) ⟨by show 2<=jv;rw[ko];decide,[vx,vy],.cons rx (.cons ry .nil),⟨_,hT2,rfl,_,rfl⟩⟩;have hTI2:uk h2' TI (.ref i1) (.ref i2):=(hs2.2 _ D.Iz).trans (g6 _ _ D.Iz D.IO D.I1 D.I2 hTI);refine⟨.ref s.heap.objs.size,_,I2,rfl,⟨s.heap.objs.size,x,y,rfl,hn,rfl,λzs hz'=>by rw[ok.inj I hz' q1];exact e1,λzs hz'=>by rw[ok2.inj I hz' q2];exact e2⟩,⟨hz2,hTI2,⟨_,_,(hs2.2 _ D.Oz).trans g2⟩,ok.at g3.1 λo q=>(hs2.2 _ D.iz).trans q,ok2.at g4.1 λo q=>(hs2.2 _ D.jz).trans q⟩,λc hc'=> ?_⟩;have hcz:c≠s.heap.objs.size:=by
   simp only[fe,gh,or_false]at hc';rcases hc' with rfl|rfl|rfl|rfl|rfl
   ·exact(lz hz).symm
   ·exact(lz hTI).symm
   ·exact(lz hTO).symm
   ·exact li1.symm
   ·exact li2.symm
  rw[aN hcz];exact(hf c hc').1
 done:=by
  intro X hP hw hK hc i kb s σ H E I hf st hg;subst hP hw hK;obtain⟨hz,hTI,⟨u,v,hTO⟩,h1,h2⟩:=st;obtain⟨xs,ys,q1,q2,hxy⟩:=hg;obtain⟨lu,rv,p1⟩:=ok.get I q1;have hl:=rv.length;have hh:X.A.in1.handled=none:=by simp[I.ok.hd hc]
  obtain⟨jts,rw',p2⟩:=ok2.get I q2;have Cz:=rw'.length;have hs1:lu.toArray.size=xs.length:=by rw[ic,hl]
  have hs2:jts.toArray.size=ys.length:=by rw[ic,Cz]
  exact zP (ok.dr hh i1 a ha lu.toArray) (ok2.dr hh i2 b hb jts.toArray) D hz hTI hTO ⟨h1,p1⟩ ⟨h2,p2⟩ (by omega) (λ_=>by omega) (λ_ _=>absurd hxy (by omega)) λ_ h' tk hk=> ⟨rfl,I.turnedL (fp:=[z,TI,TO,i1,i2]) (t':=tk) (λc o hc' q=>hk c o (λe=>hc' (by simp[e])) (λe=>hc' (by simp[e])) (λe=>hc' (by simp[e])) (λe=>hc' (by simp[e])) q) hf⟩
 self:=λ_ _ _ _ _ st h=>wpAny_pyIter_zip st.1 h
noncomputable def A8u (k:SeqK)(K:W.Frag)(ta:TA):TI:=λσ H R=>ta σ H λvs H1=> ∃a b xs ys,vs=[.ref a,.ref b]/\k.Sq K H1 a xs/\k.Sq K H1 b ys/\R (Itz (λH xs=>k.Sq K H a xs) λH ys=>k.Sq K H b ys) H1
theorem rZ {a b:om}{ta:TA}{p pos:Pos}{es:List om}{x1}{tpos:Pos}{k:SeqK}(ok:k.Ok)(hg:Gl X "zip")(hm:X.mg "zip" =none)(ha:PA X [a,b] ta)(hs:ni [a,b] X.env=[(false,sf a X.env),(false,sf b X.env)]:=by rfl)(hs2:ni [b] X.env=[(false,sf b X.env)]:=by rfl):
  PI X (.Tuple es x1 tpos) (.Call (.Name "zip" p) [a,b] [] pos) (A8u k X.K ta):=by
 intro kb s σ H R I h;refine Call_ (iE I hg hm boot_zip (ot (thn (ha pos kb s σ H _ I h) λus s1 ⟨vs,H1,I1,r1,q1⟩=> ?_) (by rw[hs,hs2]) (by rw[hs2];rfl)));obtain⟨a',b',xs,ys,e,q1,q2,q⟩:=q1;subst e;obtain⟨u,v,rfl,rx,ry⟩:=jT r1;cases rx;cases ry;obtain⟨lu,rv,p1⟩:=ok.get I1 q1;obtain⟨jts,rw',p2⟩:=ok.get I1 q2;have l1:=ok.lt p1;have l2:=ok.lt p2;refine ok.zip p1 p2 λh' a1 a2 a3 a4 a5 a7=> ?_;refine wpAny_pyIter_zip (s:={s1 with heap:=h'}) a1 ?_;have I2:Inv X kb σ H1 {s1 with heap:=h'}:=I1.kept (t':=s1.toks) a7;have far:=A9l s1.heap.objs.size a' b' l1 l2;refine⟨s1.heap.objs.size+4,[s1.heap.objs.size+4,s1.heap.objs.size+2,s1.heap.objs.size+3,s1.heap.objs.size,s1.heap.objs.size+1],_,_,H1,rfl,I2,B3e ok ok _ _ _ _ _ a' b' far (jo l1) (jo (ji l2)),⟨a1,a2,⟨_,_,a3⟩,a4,a5⟩,λc hc'=> ?_,q⟩;have hge:s1.heap.objs.size<=c:=by
  simp only[fe,gh,or_false]at hc';rcases hc' with rfl|rfl|rfl|rfl|rfl
  ·exact AN _ 4
  ·exact AN _ 2
  ·exact AN _ 3
  ·exact CT _
  ·exact jc _
 exact I1.fpOk hge (I1.hok.fresh hge)
theorem yU (ue:ys.length<=xs.length)(Pv:Nat->St->Hp->Prop)(h0:Pv 0 σ H)(hl:∀i σ H,Pv i σ H->S1 H xs/\S2 H ys)
  (hs:∀i x y p σ H,xs[i]?=some x->ys[i]?=some y->Pv i σ H->H p=none->g (.ref p) σ (upd H p (.tup [x,y])) λσ2 H2=>tb {D with nx:=Pv (i+1),ct:=Pv (i+1),bk:=D.nx} σ2 H2)(hd:∀σ H,Pv ys.length σ H->D.nx σ H):
  cP (Itz S1 S2) g tb D σ H:=by
 refine⟨λi m σ H=>m=ys.length - i/\i<=ys.length/\Pv i σ H,⟨ys.length,by simp,js _,h0⟩,?_⟩;rintro i m σ H ⟨rfl,hi,p⟩;obtain⟨q1,q2⟩:=hl i σ H p;by_cases hlt2:i<ys.length
 ·have CA:i<xs.length:=by omega
  refine .inr ⟨⟨xs,ys,xs[i],ys[i],q1,q2,by simp[CA],by simp[hlt2]⟩,Pv (i+1),λσ' H' p'=> ⟨ys.length -(i+1),by omega,rfl,hlt2,p'⟩,λx H' y=> ?_⟩;obtain⟨pp,a,b,e1,e2,e3,e4,e5⟩:=y;subst e1 e3;exact hs i a b pp σ H (e4 xs q1) (e5 ys q2) p e2
 ·have e:i=ys.length:=by omega
  subst e;exact .inl ⟨⟨xs,ys,q1,q2,by omega⟩,hd σ H p⟩
section
variable {X:Cx}
theorem vC (ns:List Int):∀j:Nat,preSum (λi=>(ns[i]?).getD 0) j=(ns.take j).sum
 |0=>by simp[preSum]
 |j+1=>by
  have ih:=vC ns j;rw[iu,ig];show preSum (λi=>(ns[i]?).getD 0) j+(ns[j]?).getD 0=_;rw[ih];cases ns[j]?<;>simp
theorem A2x (hB:0<=B):∀{ns:List Int},(∀n∈ns,-B<=n/\n<=B)->-(B*ns.length)<=ns.sum/\ns.sum<=B*ns.length
 | [],_=>by simp
 |n::ns,h=>by
  have ih:=A2x hB (ns:=ns) λm hm=>h m (CP _ hm);have h0:=h n CQ;rw[il,c9];have e:B*((ns.length+1:Nat):Int)=B*(ns.length:Int)+B:=by
   rw[Int.natCast_add,Int.mul_add];simp
  rw[e];constructor<;>omega
theorem rB (hc:X.calm=true):cV X (.builtin "sum") (λxs H Q=> ∃(p:ju)(ns:List Int),xs=[.ref p]/\CW X.K H p (ns.map V.int)/\ns.length<=1000/\(∀n∈ns,-10000<=n/\n<=10000)/\Q (.int ns.sum) H):=by
 intro kb s σ H xs us Q I r h;obtain⟨p,ns,rfl,hq,hl,hn,q⟩:=h;obtain⟨u,rfl,rx⟩:=dR r;cases rx;obtain⟨lu,rv,pl,hz⟩:=I.list hq;have ue:=rv.length;rw[di]at ue;have CA:p<s.heap.objs.size:=by obtain⟨_,e,_⟩:=pl.isList;exact CO e
 have long:∀z:Int,-10000000<=z->z<=10000000->InLong z:=λz h1 h2=>by unfold InLong;omega
 refine call_sum_walk (tj pl.isList ?_);refine⟨s.heap.objs.size,[s.heap.objs.size,p],[s.heap.objs.size],lu.toArray.size,_,_,λi=>(ns[i]?).getD 0,rfl,Ca (A:=X.A.in1) (by simp[I.ok.hd hc]) _ p (jo CA) lu.toArray,⟨⟨_,iy _ rfl,rfl,rfl⟩,pl.isList.push _⟩,λb hb=> ?_,λi v hP=> ?_,λj hj=> ?_,λh' tk t' hk=> ?_⟩
 ·show b<(s.heap.push _).objs.size;rw[i6];rcases fe.mp hb with z|z
  ·rw[z];exact jj _
  ·rw[fy.mp z];exact ji CA
 ·have hP':lu[i]?=some v:=by simpa using hP
  have hi:i<ns.length:=by rw[ue];exact(CL.mp hP').1
  obtain⟨u,hu,ru⟩:=rv.get (i:=i) (x:=.int ns[i]) (by rw[cy];simp[hi]);rw[hP']at hu;cases hu;obtain⟨t,rfl⟩:=ru;exact⟨t,by simp[hi]⟩
 ·have hj':j<ns.length:=by rw[ic]at hj;omega
  refine⟨?_,?_⟩
  ·have:=hn ns[j] (c5 hj');have e:(ns[j]?).getD 0=ns[j]:=by simp[hj']
   show InLong ((ns[j]?).getD 0);rw[e];exact long _ (by omega) (by omega)
  ·rw[vC];have:=A2x (B:=10000) (by decide) (ns:=ns.take (j+1)) λn h=>hn n (fu h);have h2:(ns.take (j+1)).length<=1000:=by rw[du];omega
   exact long _ (by omega) (by omega)
 ·have e:preSum (λi=>(ns[i]?).getD 0) lu.toArray.size=ns.sum:=by
   rw[vC,ic,←ue,iq (CT _)]
  rw[e];exact⟨.int _,H,I.kept (h':=h') (t':=tk) (B2 hk),⟨_,rfl⟩,q⟩
theorem A29 (hc:X.calm=true):cV X (.builtin "sum") (λxs H Q=> ∃(p:ju)(ns:List Int),xs=[.ref p]/\CW X.K H p (ns.map V.int)/\ns.length<=1000/\(∀n∈ns,-1000<=n/\n<=1000)/\Q (.int ns.sum) H):=by intro kb s σ H xs us Q I r h;obtain⟨p,ns,e,hq,hl,hn,q⟩:=h;exact rB hc kb s σ H xs us Q I r ⟨p,ns,e,hq,hl,λn h=>by have:=hn n h;omega,q⟩
theorem zR {kb:List (ju×Obj)}{σ:St}{H:Hp}{s:jw}{A:mh}{a p:ju}{c d:Int×Int}(I:Inv X kb σ H s)(hu:A.units<nj)(ha:H a=some (.tup [.int d.1,.int d.2]))(hp:H p=some (.tup [.int c.1,.int c.2])):nz A s (.ref a) (.ref p) (decide (d=c)):=by
 by_cases hap:a=p
 ·subst hap;rw[ha]at hp;have e:d=c:=by
   injection hp with z;injection z with z;injection z with z1 z2;injection z2 with z2 _;exact AH (V.int.inj z1) (V.int.inj z2)
  rw[CM e];exact nz.same _
 ·obtain⟨lu,r1,p1,_⟩:=I.tuple (CY.of ha);obtain⟨jts,r2,p2,_⟩:=I.tuple (CY.of hp);obtain⟨x1,x2,rfl,⟨t1,rfl⟩,⟨t2,rfl⟩⟩:=r1.two;obtain⟨y1,y2,rfl,⟨u1,rfl⟩,⟨u2,rfl⟩⟩:=r2.two;have key:xi A s (.ref a) (.ref p) ((kz (min 2 2)).all (λj=>if j=0 then d.1==c.1 else d.2==c.2)&&(2:Nat)==2):=An (items:=#[.int d.1 t1,.int d.2 t2]) (items2:=#[.int c.1 u1,.int c.2 u2]) p1 p2 hu λj h1 h2=>by
   match j,h1,h2 with
   |0,_,_=>exact xg _ _ _ _
   |1,_,_=>exact xg _ _ _ _
  have e:((kz (min 2 2)).all (λj=>if j=0 then d.1==c.1 else d.2==c.2)&&(2:Nat)==2)=decide (d=c):=by
   obtain⟨d1,d2⟩:=d;obtain⟨c1,c2⟩:=c;show(List.all [0,1] _&&true)=_;simp only[List.all_cons,List.all_nil,Bool.and_true,if_true,Nat.one_ne_zero,if_false];rw[k6];simp
  rw[e]at key;exact nz.of_refs hap key
end
noncomputable def Cx.within (X:Cx)(e:ju)(oe:Obj):Cx:={X with A:=X.A.mark (some (.ref e)),calm:=false,pn:=(e,oe)::X.pn,xe:=λ_ _=>False}
open Grd
theorem GridAt.same (h:GridAt H a g)(s:Same H H'):GridAt H' a g:=h.ext s.ext
theorem wW {K:W.Frag}{a l:ju}{g:bE}{bs:List ju}{f:Int->Bool}{H0:Hp}{tt2:TT}{Q:St->Hp->Prop}(ha:H0 a=some (.tup (bs.map V.ref)))(hG:RowsG H0 bs g)(hl:H0 l=none)(h4:g.length<=4)(h6:∀xs∈g,xs.length<=6)
  (htt:∀(at' k:Nat)(r:V)(i:Int) H' (Q':Bool->Hp->Prop),Q' (f i) H'->tt2 [some (.int at'),some r,some (.int k),some (.int i)] H' Q')
  (hQ:∀σ H' ps,Same H0 H'->H' l=some (.lst (ps.map V.ref))->PlAt H' ps (aQ f g)->Q σ H'):
  cP (Ite λH xs=>CY K H a xs) (iR K 2 (fA (cN 0) (fA (cN 1) iS))) (cL gK (oP (zS K (bX (dE 1) iJ)) (iR K 2 (fA (cN 2) (fA (cN 3) iS))) tt2 (eN l (jW (bX (dE 0) (bX (dE 2) iJ)))))) (eC Q) [none,none,none,none] (upd H0 l (.lst [])):=by
 have s0:Same H0 (upd H0 l (.lst [])):=aK hl;have hbs:bs.length=g.length:=Paired.length hG;refine oG (xs:=bs.map V.ref) (λi σ H'=>σ.length=4/\Same H0 H'/\∃ps,H' l=some (.lst (ps.map V.ref))/\PlAt H' ps (aQ f (g.take i))/\ps.length<=6*i) ⟨rfl,s0,[],by rw[aG];rfl,.nil,js _⟩ (λi σ H' _ h=>CY.of (h.2.1 _ _ ha)) ?_ ?_
 ·rintro i r p σ H' hx ⟨hσ,hs,ps,Ao,hP,hn⟩ hp;obtain⟨b,hbi,rfl⟩:∃b,bs[i]?=some b/\V.ref b=r:=by
   rw[cy]at hx;cases e:bs[i]? with
   |none=>rw[e]at hx;cases hx
   |some b=>rw[e]at hx;exact⟨b,rfl,j7 hx⟩
  obtain⟨xs,hgi,hb⟩:=hG.row hbi;have hx6:=h6 xs (fq hgi);have hi4:i<4:=jf (CL.mp hgi).1 h4;have s1:Same H' (upd H' p (.tup [.int i,.ref b])):=aK hp;obtain⟨x0,x1,x2,x3,rfl⟩:=A3x hσ;refine⟨p,_,rfl,CY.of aG,rfl,_,_,rfl,_,_,rfl,rfl,?_⟩;refine gX ?_;refine⟨_,rfl,b,xs.map V.int,rfl,CY.of (s1 _ _ (hs _ _ hb)),?_⟩;refine oG (xs:=xs.map V.int) (λj σ H2=>(∃y2 y3,σ=[some (.int i),some (.ref b),y2,y3])/\Same H0 H2/\∃ps,H2 l=some (.lst (ps.map V.ref))/\PlAt H2 ps (aQ f (g.take i)++dO f i (xs.take j))/\ps.length<=6*i+j) ?_ (λj σ H2 _ h=>CY.of (h.2.1 _ _ hb)) ?_ ?_
  ·exact⟨⟨x2,x3,rfl⟩,hs.trans s1,ps,s1 _ _ Ao,by simpa[dO]using hP.same s1,hn⟩
  ·rintro j x p2 σ H2 hxj ⟨⟨y2,y3,rfl⟩,hs2,ps2,Cz,hP2,hn2⟩ hp2;obtain⟨z,hzj,rfl⟩:∃z,xs[j]?=some z/\V.int z=x:=by
    rw[cy]at hxj;cases e:xs[j]? with
    |none=>rw[e]at hxj;cases hxj
    |some z=>rw[e]at hxj;exact⟨z,rfl,j7 hxj⟩
   have hj6:j<6:=jf (CL.mp hzj).1 hx6;have s2:Same H2 (upd H2 p2 (.tup [.int j,.int z])):=aK hp2;refine⟨p2,_,rfl,CY.of aG,rfl,_,_,rfl,_,_,rfl,rfl,?_⟩;refine htt i j (.ref b) z _ _ (fB (λe=> ?_) λe=> ?_)
   ·refine⟨_,rfl,_,rfl,(by show 2<=jv;decide),λq hq=> ?_⟩;have s3:=aK (o:=.tup [.int i,.int j]) hq;have hlq:l≠q:=bG (s2 _ _ Cz) hq;refine⟨_,s3 _ _ (s2 _ _ Cz),cO (by rw[di];omega),⟨_,_,rfl⟩,λb' u e'=> ?_,ps2++[q],?_,?_,?_⟩
    ·rw[aN (bG e' hl)];exact s3 _ _ (s2 _ _ (hs2 _ _ e'))
    ·rw[aG,dz];rfl
    ·have hne:∀b' u,(upd (upd H2 p2 (.tup [.int j,.int z])) q (.tup [.int i,.int j])) b'=some (.tup u)->(upd (upd (upd H2 p2 (.tup [.int j,.int z])) q (.tup [.int i,.int j])) l (.lst (ps2.map V.ref++[.ref q]))) b'=some (.tup u):=λb' u e'=>by
      rw[aN (λz'=> ?_)];exact e';rw[z',aN hlq,s2 _ _ Cz]at e';cases e'
     rw[Grd.rowF_succ f i xs j _ hzj,if_pos e,←aj];exact PlAt.snoc (Paired.mapP ((hP2.same s2).same s3) λ_ _ e'=>hne _ _ e') (hne _ _ aG)
    ·rw[c8];show ps2.length+1<=_;omega
   ·refine⟨⟨_,_,rfl⟩,hs2.trans s2,ps2,s2 _ _ Cz,?_,by omega⟩;rw[Grd.rowF_succ f i xs j _ hzj,if_neg (by rw[e];decide),ak];exact hP2.same s2
  ·rintro σ H2 ⟨⟨y2,y3,rfl⟩,hs2,ps2,Cz,hP2,hn2⟩;rw[di]at hP2 hn2;refine⟨rfl,hs2,ps2,Cz,?_,by omega⟩;rw[iq (CT _)]at hP2;rw[Grd.gridF_succ f g i _ hgi];exact hP2
 ·rintro σ H' ⟨_,hs,ps,Ao,hP,_⟩;rw[di,hbs,iq (CT _)]at hP;exact hQ σ H' ps hs Ao hP
theorem GridAt.ix {H:Hp}{a:ju}{g:bE}(hA:GridAt H a g){i j:Nat}{xs:List Int}{x:Int}(h1:g[i]?=some xs)(h2:xs[j]?=some x):∃(bs:List ju)(b:ju),H a=some (.tup (bs.map V.ref))/\atI (bs.map V.ref) i=some (.ref b)/\H b=some (.tup (xs.map V.int))/\atI (xs.map V.int) j=some (.int x):=by obtain⟨bs,ha,hG⟩:=hA;obtain⟨b,hb,hr⟩:=hG.get h1;exact⟨bs,b,ha,cK (by rw[cy,hb];rfl),hr,cK (by rw[cy,h2];rfl)⟩
end L2
namespace Srt
open PySem PySem.W PyProof.Rows
noncomputable def fV (cmp:Nat->Nat->(Bool->jw->Prop)->jw->Prop)(n:Nat)(r:Nat->Int)(s:jw):Prop:=∀i j (C:Bool->jw->Prop),i<n->j<n->C (decide (r i<r j)) s->cmp i j C s
noncomputable def at' (p:Array Nat)(k:Nat):Nat:=p.getD k 0
noncomputable def Pm (n:Nat)(p:Array Nat):Prop:=p.Perm (kz n).toArray
theorem Pm.size (h:Pm n p):p.size=n:=by rw[vz.size_eq h];simp
theorem Pm.lt (h:Pm n p)(k:Nat)(hn:0<n):at' p k<n:=by
 unfold at';by_cases hk:k<p.size
 ·have e:p.getD k 0=p[k]:=by simp[wa,hk]
  rw[e];have h1:p[k]∈p.toList:=by simp
  have h2:=(oy.mp h).mem_iff.mp h1;simpa using h2
 ·have e:p.getD k 0=0:=by simp[wa,hk]
  rw[e];exact hn
noncomputable def R (r:Nat->Int)(p:Array Nat)(k:Nat):Int:=r (at' p k)
noncomputable def Up (r:Nat->Int)(p:Array Nat)(k:Nat):Prop:=∀i j,i<=j->j<k->R r p i<=R r p j
noncomputable def Dn (r:Nat->Int)(p:Array Nat)(k:Nat):Prop:=∀i j,i<=j->j<k->R r p j<=R r p i
theorem A4y (h:Up r p k)(h1:R r p (k - 1)<=R r p k):Up r p (k+1):=by
 intro i j hij hj;by_cases e:j<k
 ·exact h i j hij e
 ·have:j=k:=by omega
  subst this;by_cases e2:i=j
  ·subst e2;exact ur _
  ·exact Ck (h i (j - 1) (by omega) (by omega)) h1
theorem sC (h:Dn r p k)(h1:R r p k<=R r p (k - 1)):Dn r p (k+1):=by
 intro i j hij hj;by_cases e:j<k
 ·exact h i j hij e
 ·have:j=k:=by omega
  subst this;by_cases e2:i=j
  ·subst e2;exact ur _
  ·exact Ck h1 (h i (j - 1) (by omega) (by omega))
theorem A65 (hj:j<=p.size)(k:Nat):at' (kas_rev p i j) k=if i<=k/\k<j then at' p (i+j - 1 - k)else at' p k:=by
 have e:=getElem?_mirror_all (xs:=p) (i:=i) hj k;have g:∀(xs:Array Nat)(k:Nat),at' xs k=(xs[k]?).getD 0:=λxs k=>by unfold at';simp[wa];split<;>simp[*]
 rw[g,g,g];show(mirror p i j ((j - i)/2))[k]?.getD 0=_;rw[e]
 split<;>rfl
theorem rR (hj:j<=p.size)(k:Nat):R r (kas_rev p i j) k=if i<=k/\k<j then R r p (i+j - 1 - k)else R r p k:=by unfold R;rw[A65 hj];split<;>rfl
theorem kK (hj:j<=p.size)(h:∀k,i<=k->k<j->R r p k=R r p (j - 1))(k:Nat):R r (kas_rev p i j) k=R r p k:=by
 rw[rR hj]
 split
 ·rw[h _ (by omega) (by omega),h k (by omega) (by omega)]
 ·rfl
theorem Pm.rev (h:Pm n p)(i j:Nat):Pm n (kas_rev p i j):=vz.trans (mirror_perm _ _ _ _) h
theorem Pm.bub (h:Pm n p)(k d:Nat):Pm n (Cb p k d):=vz.trans (bubble_perm _ _ _) h
theorem A1u (hs:src<p.size)(hd:d<=src)(k:Nat):R r (Cb p src d) k=if k=src - d then R r p src else if src - d<k/\k<=src then R r p (k - 1)else R r p k:=by
 have e:=getElem?_bubble (xs:=p) hs d hd k;have g:∀(xs:Array Nat)(k:Nat),at' xs k=(xs[k]?).getD 0:=λxs k=>by unfold at';simp[wa];split<;>simp[*]
 unfold R;rw[g,e]
 split
 ·rw[g]
 ·split<;>rw[g]
theorem qF (ha:fV cmp n r s)(hn:0<n)(hp:Pm n p):∀(f k:Nat)(Q:Nat->jw->Prop),1<=k->Up r p k->(∀m,k<=m->m<=k+f->Up r p m->(m=k+f\/R r p m<R r p (m - 1))->Q m s)->(kas_asc p f k).kasWp cmp Q s
 |0,k,Q,h1,hu,h=>h k (CT _) (CT _) hu (.inl rfl)
 |f+1,k,Q,h1,hu,h=>by
  show cmp (at' p k) (at' p (k - 1)) (λb s'=>(if b=true then KasT.ret k else kas_asc p f (k+1)).kasWp cmp Q s') s;refine ha _ _ _ (hp.lt _ hn) (hp.lt _ hn) ?_;by_cases c:r (at' p k)<r (at' p (k - 1))
  ·rw[CM c];exact h k (CT _) (by omega) hu (.inr c)
  ·rw[CN c];refine qF ha hn hp f (k+1) Q (by omega) (A4y hu (zx.mp c)) λm a b u e=>h m (by omega) (by omega) u ?_;rcases e with e|e
   ·left;omega
   ·exact .inr e
theorem tJ (ha:fV cmp n r s)(hn:0<n):∀(f k q:Nat)(p:Array Nat)(Q:Array Nat×Nat×Nat->jw->Prop),Pm n p->1<=k->k+f<=n->Dn r p k->q+1<=k->(∀i,k -(q+1)<=i->i<k->R r p i=R r p (k - 1))->
  (∀p' m q',Pm n p'->k<=m->m<=k+f->Dn r p' m->q'+1<=m->(∀i,m -(q'+1)<=i->i<m->R r p' i=R r p' (m - 1))->Q (p',m,q') s)->(kas_desc f p k q).kasWp cmp Q s
 |0,k,q,p,Q,hp,h1,hk,hd,hq,he,h=>h p k q hp (CT _) (CT _) hd hq he
 |f+1,k,q,p,Q,hp,h1,hk,hd,hq,he,h=>by
  have hsz:k<=p.size:=by rw[hp.size];omega
  show cmp (at' p k) (at' p (k - 1)) (λc s'=>(if c=true then(if q>0 then kas_desc f (kas_rev p (k -(q+1)) k) (k+1) 0 else kas_desc f p (k+1) 0)else KasT.ask (at' p (k - 1)) (at' p k) λd=>if d=true then KasT.ret (p,k,q)else kas_desc f p (k+1) (q+1)).kasWp cmp Q s') s;refine ha _ _ _ (hp.lt _ hn) (hp.lt _ hn) ?_;by_cases c:r (at' p k)<r (at' p (k - 1))
  ·rw[CM c];have go:∀p',Pm n p'->(∀i,R r p' i=R r p i)->(kas_desc f p' (k+1) 0).kasWp cmp Q s:=λp' hp' e=>by
    refine tJ ha hn f (k+1) 0 p' Q hp' (by omega) (by omega) ?_ (by omega) ?_ λp2 m q' a1 a2 a3 a4 a5 a6=>h p2 m q' a1 (by omega) (by omega) a4 a5 a6
    ·intro i j hij hj;rw[e,e];exact sC hd (Cm c) i j hij hj
    ·intro i hi1 hi2;have:i=k:=by omega
     subst this;rfl
   show(if q>0 then kas_desc f (kas_rev p (k -(q+1)) k) (k+1) 0 else kas_desc f p (k+1) 0).kasWp cmp Q s;by_cases hq0:q>0
   ·rw[if_pos hq0];exact go _ (hp.rev _ _) (kK hsz he)
   ·rw[if_neg hq0];exact go p hp λ_=>rfl
  ·rw[CN c];show cmp (at' p (k - 1)) (at' p k) (λd s'=>(if d=true then KasT.ret (p,k,q)else kas_desc f p (k+1) (q+1)).kasWp cmp Q s') s;refine ha _ _ _ (hp.lt _ hn) (hp.lt _ hn) ?_;by_cases d:r (at' p (k - 1))<r (at' p k)
   ·rw[CM d];exact h p k q hp (CT _) (by omega) hd hq he
   ·rw[CN d];have e:R r p k=R r p (k - 1):=Int.le_antisymm (zx.mp d) (zx.mp c);show(kas_desc f p (k+1) (q+1)).kasWp cmp Q s;refine tJ ha hn f (k+1) (q+1) p Q hp (by omega) (by omega) (sC hd (Int.le_of_eq e)) (by omega) ?_ λp2 m q' a1 a2 a3 a4 a5 a6=>h p2 m q' a1 (by omega) (by omega) a4 a5 a6;intro i hi1 hi2;rw[show k+1 - 1=k by omega,e];by_cases ik:i=k
    ·rw[ik,e]
    ·exact he i (by omega) (by omega)
theorem A0e (ha:fV cmp n r s)(hn:0<n)(hp:Pm n p)(h1:1<=k)(hk:k<=CG)(hz:CG<=n)(hd:Dn r p k)
  (h:∀m p',Pm n p'->1<=m->m<=CG->Up r p' m->Q (m,p') s):(kas_tail3 k CG p).kasWp cmp Q s:=by
 unfold kas_tail3;rw[KasT.kasWp_bind];have hsz:k<=p.size:=by rw[hp.size];omega
 refine qF ha hn (hp.rev 0 k) _ _ _ h1 ?_ λm a b u _=>h m _ (hp.rev 0 k) (by omega) (by omega) u;intro i j hij hj;rw[rR hsz,rR hsz,if_pos (by omega),if_pos (by omega)];exact hd _ _ (by omega) (by omega)
theorem A1i (ha:fV cmp n r s)(hn:0<n)(hp:Pm n p)(hk:k+1<=CG)(hz:CG<=n)(hd:Dn r p (k+1))
  (h:∀m p',Pm n p'->1<=m->m<=CG->Up r p' m->Q (m,p') s):(kas_descPart k CG p).kasWp cmp Q s:=by
 unfold kas_descPart;rw[KasT.kasWp_bind];refine tJ ha hn _ (k+1) 0 p _ hp (by omega) (by omega) hd (by omega) (λi a b=>show R r p i=R r p (k+1 - 1) by rw[show i=k+1 - 1 by omega]) λp' m q hp' a1 a2 hd' hq he=> ?_;show(if q>0 then kas_tail3 m CG (kas_rev p' (m -(q+1)) m)else kas_tail3 m CG p').kasWp cmp Q s;have hsz:m<=p'.size:=by rw[hp'.size];omega
 by_cases hq0:q>0
 ·rw[if_pos hq0];refine A0e ha hn (hp'.rev _ _) (by omega) (by omega) hz ?_ h;intro i j hij hj;rw[kK hsz he,kK hsz he];exact hd' i j hij hj
 ·rw[if_neg hq0];exact A0e ha hn hp' (by omega) (by omega) hz hd' h
theorem A7z (ha:fV cmp n r s)(hn:0<n)(hp:Pm n p)
  (h:∀m p',Pm n p'->1<=m->m<=n->Up r p' m->Q (m,p') s):(kas_count n p).kasWp cmp Q s:=by
 unfold kas_count;rw[KasT.kasWp_bind];refine qF ha hn hp _ 1 _ (CT _) (λi j a b=>show R r p i<=R r p j by rw[show i=j by omega];exact ur _) λm a b u e=> ?_;by_cases e1:m=n
 ·rw[if_pos (by simpa using e1)];exact h m p hp a (by omega) u
 ·rw[if_neg (by simpa using e1)];have CA:R r p m<R r p (m - 1):=e.resolve_left (by omega);have dn1:∀p',Pm n p'->Dn r p' m->(∀i,R r p' i=R r p i)->Dn r p' (m+1):=λp' _ d z=>sC d (by rw[z,z];exact Cm CA);by_cases e2:m>1
  ·rw[if_pos e2];show cmp (at' p 0) (at' p (m - 1)) (λc s'=>(if c=true then KasT.ret (m,p)else kas_descPart m n (kas_rev p 0 m)).kasWp cmp Q s') s;refine ha _ _ _ (hp.lt _ hn) (hp.lt _ hn) ?_;by_cases c:r (at' p 0)<r (at' p (m - 1))
   ·rw[CM c];exact h m p hp a (by omega) u
   ·rw[CN c];have hall:∀k,0<=k->k<m->R r p k=R r p (m - 1):=λk _ hk=>by
     have a1:=u 0 k (by omega) hk;have a2:=u k (m - 1) (by omega) (by omega);have a3:R r p (m - 1)<=R r p 0:=zx.mp c;omega
    have hsz:m<=p.size:=by rw[hp.size];omega
    refine A1i ha hn (hp.rev 0 m) (by omega) (CT _) (dn1 _ (hp.rev 0 m) ?_ (kK hsz hall)) h;intro i j hij hj;rw[kK hsz hall,kK hsz hall,hall i (by omega) (by omega),hall j (by omega) hj];exact ur _
  ·rw[if_neg e2];have:m=1:=by omega
   subst this;refine A1i ha hn hp (by omega) (CT _) (dn1 p hp (λi j hij hj=> ?_) λ_=>rfl) h;have:i=j:=by omega
   subst this;exact ur _
theorem tT (ha:fV cmp n r s)(hn:0<n)(hp:Pm n p)(hu:Up r p k):∀(f lo hi:Nat)(Q:Nat->jw->Prop),lo<=hi->hi<=k->hi - lo<=f->(∀i,i<lo->R r p i<=R r p k)->(∀i,hi<=i->i<k->R r p k<R r p i)->
  (∀l,l<=k->(∀i,i<l->R r p i<=R r p k)->(∀i,l<=i->i<k->R r p k<R r p i)->Q l s)->(kas_place p k f lo hi).kasWp cmp Q s
 |0,lo,hi,Q,h1,h2,h3,hl,hh,h=>h lo (by omega) hl λi a b=>hh i (by omega) b
 |f+1,lo,hi,Q,h1,h2,h3,hl,hh,h=>by
  unfold kas_place;by_cases e:lo≥hi
  ·rw[if_pos e];exact h lo (by omega) hl λi a b=>hh i (by omega) b
  ·rw[if_neg e];show cmp (at' p k) (at' p ((lo+hi)/2)) (λc s'=>(if c=true then kas_place p k f lo ((lo+hi)/2)else kas_place p k f ((lo+hi)/2+1) hi).kasWp cmp Q s') s;refine ha _ _ _ (hp.lt _ hn) (hp.lt _ hn) ?_;by_cases c:r (at' p k)<r (at' p ((lo+hi)/2))
   ·rw[CM c];refine tT ha hn hp hu f lo ((lo+hi)/2) Q (by omega) (by omega) (by omega) hl (λi a b=> ?_) h;exact Int.lt_of_lt_of_le c (hu ((lo+hi)/2) i a b)
   ·rw[CN c];refine tT ha hn hp hu f ((lo+hi)/2+1) hi Q (by omega) (by omega) (by omega) (λi a=> ?_) hh h;exact Ck (hu i ((lo+hi)/2) (by omega) (by omega)) (zx.mp c)
theorem yW (ha:fV cmp n r s)(hn:0<n):∀(f k:Nat)(p:Array Nat)(Q:Array Nat->jw->Prop),Pm n p->k+f=n->Up r p k->(∀p',Pm n p'->Up r p' n->Q p' s)->(kas_bin f p k).kasWp cmp Q s
 |0,k,p,Q,hp,hk,hu,h=>h p hp (by rw[←hk];exact hu)
 |f+1,k,p,Q,hp,hk,hu,h=>by
  show((kas_place p k k 0 k).bind λl=>kas_bin f (Cb p k (k - l)) (k+1)).kasWp cmp Q s;rw[KasT.kasWp_bind];refine tT ha hn hp hu k 0 k _ (js _) (CT _) (by omega) (λi a=>by omega) (λi a b=>by omega) λl hl h1 h2=> ?_;refine yW ha hn f (k+1) _ Q (hp.bub _ _) (by omega) ?_ h;have hs:k<p.size:=by rw[hp.size];omega
  intro i j hij hj;rw[A1u hs (by omega),A1u hs (by omega),show k -(k - l)=l by omega];by_cases c1:i=l
  ·rw[if_pos c1];by_cases c2:j=l
   ·rw[if_pos c2];exact ur _
   ·rw[if_neg c2,if_pos (by omega)];exact Cm (h2 (j - 1) (by omega) (by omega))
  ·rw[if_neg c1];by_cases c2:j=l
   ·rw[if_pos c2,if_neg (by omega)];exact h1 i (by omega)
   ·rw[if_neg c2];by_cases c3:l<i/\i<=k
    ·rw[if_pos c3,if_pos (by omega)];exact hu _ _ (by omega) (by omega)
    ·rw[if_neg c3];by_cases c4:l<j/\j<=k
     ·rw[if_pos c4];exact hu _ _ (by omega) (by omega)
     ·rw[if_neg c4];exact hu _ _ hij (by omega)
theorem A68 (ha:fV cmp n r s)(h2:2<=n)(h:∀p,Pm n p->Up r p n->Q p s):(kas_sort n).kasWp cmp Q s:=by
 unfold kas_sort;rw[KasT.kasWp_bind];refine A7z ha (by omega) (ve _) λm p hp h1 hm u=> ?_;show(if m<n then kas_bin (n - max m 1) p (max m 1)else KasT.ret p).kasWp cmp Q s;by_cases e:m<n
 ·rw[if_pos e];have:max m 1=m:=by omega
  rw[this];exact yW ha (by omega) _ _ p Q hp (by omega) u h
 ·rw[if_neg e];have:m=n:=by omega
  subst this;exact h p hp u
end Srt
namespace Tms
open PySem PyProof.Rows
noncomputable def gal:Bool->lg->Array lg->Nat->Nat->Nat->StateT mf Sem (Option Nat):=sortPriv%PySem.Builtin.gallop
noncomputable def Oc (M:Model)(A:mh)(E:jt->jw->Prop)(s:jw)(κ:SortKind)(S:lg->Prop)(r:lg->lg->Bool):Prop:=
 ∀(x y:lg)(sx:mf)(Q:Option Bool->mf->Prop),S x->S y->qp sx=κ->Q (some (r x y)) sx->wpS M A E s (lt' x y) Q sx
theorem cU (e:a[i]?=some x)(h:Q x sx):wpS M A E s (elem' a i) Q sx:=by rw[elem'_eq,e];exact ka h
structure Bey (S:lg->Prop)(r:lg->lg->Bool)(left:Bool)(key:lg)(a:Array lg)(base n:Nat)(b:Nat->Bool):Prop where
 at_:∀i,i<n->∃x,a[base+i]?=some x/\S x/\(if left=true then r x key else !r key x)=b i
 mono:∀i j,i<=j->j<n->b j=true->b i=true
 key:S key
theorem kN (O:Oc M A E s κ S r)(hk:qp sx=κ)(B:Bey S r left key a base n b)(hh:CH<n)
  (h:∀k,k<=n->(∀i,i<k->b i=true)->(∀i,k<=i->i<n->b i=false)->Q (some k) sx):wpS M A E s (gal left key a base n CH) Q sx:=by
 have bey:∀(i:Nat)(R:Option Bool->mf->Prop),i<n->R (some (b i)) sx->wpS M A E s (elem' a (base+i)>>=λx=>if left=true then lt' x key else lt' key x>>=λz=>pure (z.map (λx=> !x))) R sx:=by
  intro i R hi hR;obtain⟨x,e,hS,eb⟩:=B.at_ i hi;refine j8 (cU e ?_);cases left with
  |true=>rw[if_pos rfl]at eb⊢;exact O _ _ _ _ hS B.key hk (by rw[eb];exact hR)
  |false=>
   rw[if_neg (by decide)]at eb⊢;refine j8 (O _ _ _ _ B.key hS hk (ka ?_));show R (some (!r key x)) sx;rw[eb];exact hR
 have bin:∀l0 hi:Nat,l0<=hi->hi<=n->(∀i,i<l0->b i=true)->(∀i,hi<=i->i<n->b i=false)->∀{f:Nat->Option (Option Nat)×Nat×Nat->StateT mf Sem (ForInStep (Option (Option Nat)×Nat×Nat))}{g:Option (Option Nat)×Nat×Nat->StateT mf Sem (Option Nat)},
   (∀x l0 hi (R:ForInStep (Option (Option Nat)×Nat×Nat)->mf->Prop),hi<=n->(l0≥hi->R (.done (none,l0,hi)) sx)->(∀m,m=l0+(hi - l0)/2->l0<hi->R (.yield (if b m=true then(none,m+1,hi)else(none,l0,m))) sx)->wpS M A E s (f x (none,l0,hi)) R sx)->
   (∀l0 hi,Q (some hi) sx->wpS M A E s (g (none,l0,hi)) Q sx)->
   wpS M A E s (forIn [0:n] (none,l0,hi) f>>=g) Q sx:=by
  intro l0 hi h1 h2 h3 h4 f g hf hg;refine j8 (r8 (n5 (I:=λx c sx'=>sx'=sx/\∃l0 hi,c=(none,l0,hi)/\l0<=hi/\hi<=n/\(∀i,i<l0->b i=true)/\(∀i,hi<=i->i<n->b i=false)/\hi - l0+x<=n)
   (Q:=λc sx'=>sx'=sx/\∃l0 hi,c=(none,l0,hi)/\hi<=l0/\hi<=n/\(∀i,i<l0->b i=true)/\(∀i,hi<=i->i<n->b i=false)) ?_ ?_ ⟨rfl,l0,hi,rfl,h1,h2,h3,h4,by omega⟩) ?_)
  ·rintro x c sx' _ hx ⟨rfl,l0,hi,rfl,g1,g2,g3,g4,g5⟩;refine hf x l0 hi _ g2 (λhge=> ⟨rfl,l0,hi,rfl,hge,g2,g3,g4⟩) λm hm CA=> ?_;have m1:l0<=m:=by omega
   have m2:m<hi:=by omega
   cases hb:b m with
   |true=>
    rw[if_pos rfl];exact⟨rfl,_,_,rfl,by omega,g2,λi hi'=>B.mono i m (by omega) (by omega) hb,g4,by omega⟩
   |false=>
    rw[if_neg (by decide)];refine⟨rfl,_,_,rfl,m1,by omega,g3,λi h5 h6=> ?_,by omega⟩;cases hc:b i with
    |false=>rfl
    |true=>rw[B.mono m i h5 h6 hc]at hb;exact nomatch hb
  ·rintro c sx' ⟨rfl,l0,hi,rfl,g1,g2,g3,g4,g5⟩;exact⟨rfl,l0,hi,rfl,by omega,g2,g3,g4⟩
  ·rintro c sx' ⟨rfl,l0,hi,rfl,g1,g2,g3,g4⟩;exact hg l0 hi (h hi g2 (λi hi'=>g3 i (by omega)) g4)
 refine j8 (bey CH _ hh ?_);dsimp only
 cases hb:b CH with
 |true=>
  rw[if_pos rfl];refine j8 (r8 (n5 (I:=λx c sx'=>sx'=sx/\∃l o,c=(none,l,o)/\x+1<=o/\l<o/\CH+l<n/\b (CH+l)=true)
   (Q:=λc sx'=>sx'=sx/\∃l o,c=(none,l,o)/\l<o/\CH+l<n/\b (CH+l)=true/\(n - CH<=o\/(CH+o<n/\b (CH+o)=false))) ?_ ?_ ⟨rfl,0,1,rfl,by omega,by omega,hh,hb⟩) ?_)
  ·rintro x c sx' _ hx ⟨rfl,l,o,rfl,g1,g2,g3,g4⟩;dsimp only
   by_cases ho:o≥n - CH
   ·rw[if_pos ho];exact ka ⟨rfl,l,o,rfl,g2,g3,g4,.inl ho⟩
   ·rw[if_neg ho];refine j8 (bey (CH+o) _ (by omega) ?_);cases hc:b (CH+o)with
    |true=>exact ka ⟨rfl,_,_,rfl,by omega,by omega,by omega,hc⟩
    |false=>exact ka ⟨rfl,_,_,rfl,g2,g3,g4,.inr ⟨by omega,hc⟩⟩
  ·rintro c sx' ⟨rfl,l,o,rfl,g1,g2,g3,g4⟩;exact⟨rfl,l,o,rfl,g2,g3,g4,.inl (by omega)⟩
  ·rintro c sx' ⟨rfl,l,o,rfl,g2,g3,g4,g5⟩;dsimp only
   refine bin _ _ (by rcases g5 with g5|g5<;>omega) (by omega) (λi hi=>B.mono i (CH+l) (by omega) g3 g4) (λi h5 h6=> ?_) (λx l0 hi R hn h1 h2=> ?_) λl0 hi hq=>ka hq
   ·rcases g5 with g5| ⟨g5,g6⟩
    ·omega
    ·cases hc:b i with
     |false=>rfl
     |true=>rw[B.mono (CH+o) i (by omega) h6 hc]at g6;exact nomatch g6
   ·dsimp only
    by_cases CA:l0≥hi
    ·rw[if_pos CA];exact ka (h1 CA)
    ·rw[if_neg CA];refine j8 (bey (l0+(hi - l0)/2) _ (by omega) ?_);have q:=h2 _ rfl (by omega);cases hc:b (l0+(hi - l0)/2)with
     |true=>rw[hc,if_pos rfl]at q;exact ka q
     |false=>rw[hc,if_neg (by decide)]at q;exact ka q
 |false=>
  rw[if_neg (by decide)];refine j8 (r8 (n5 (I:=λx c sx'=>sx'=sx/\∃l o,c=(none,l,o)/\x+1<=o/\l<o/\l<=CH/\b (CH - l)=false)
   (Q:=λc sx'=>sx'=sx/\∃l o,c=(none,l,o)/\l<o/\l<=CH/\b (CH - l)=false/\(CH+1<=o\/(o<=CH/\b (CH - o)=true))) ?_ ?_ ⟨rfl,0,1,rfl,by omega,by omega,js _,hb⟩) ?_)
  ·rintro x c sx' _ hx ⟨rfl,l,o,rfl,g1,g2,g3,g4⟩;dsimp only
   by_cases ho:o≥CH+1
   ·rw[if_pos ho];exact ka ⟨rfl,l,o,rfl,g2,g3,g4,.inl ho⟩
   ·rw[if_neg ho];refine j8 (bey (CH - o) _ (by omega) ?_);cases hc:b (CH - o)with
    |true=>exact ka ⟨rfl,_,_,rfl,g2,g3,g4,.inr ⟨by omega,hc⟩⟩
    |false=>exact ka ⟨rfl,_,_,rfl,by omega,by omega,by omega,hc⟩
  ·rintro c sx' ⟨rfl,l,o,rfl,g1,g2,g3,g4⟩;exact⟨rfl,l,o,rfl,g2,g3,g4,.inl (by omega)⟩
  ·rintro c sx' ⟨rfl,l,o,rfl,g2,g3,g4,g5⟩;dsimp only
   refine bin _ _ (by rcases g5 with g5|g5<;>omega) (by omega) (λi hi=> ?_) (λi h5 h6=> ?_) (λx l0 hi R hn h1 h2=> ?_) λl0 hi hq=>ka hq
   ·rcases g5 with g5| ⟨g5,g6⟩
    ·omega
    ·exact B.mono i (CH - o) (by omega) (by omega) g6
   ·cases hc:b i with
    |false=>rfl
    |true=>rw[B.mono (CH - l) i (by omega) h6 hc]at g4;exact nomatch g4
   ·dsimp only
    by_cases CA:l0≥hi
    ·rw[if_pos CA];exact ka (h1 CA)
    ·rw[if_neg CA];refine j8 (bey (l0+(hi - l0)/2) _ (by omega) ?_);have q:=h2 _ rfl (by omega);cases hc:b (l0+(hi - l0)/2)with
     |true=>rw[hc,if_pos rfl]at q;exact ka q
     |false=>rw[hc,if_neg (by decide)]at q;exact ka q
section
variable {α:Type}{R:α->α->Prop}{la lb l0:List α}{ia ib k:Nat}{x:α}
structure Mg (R:α->α->Prop)(la lb l0:List α)(ia ib:Nat):Prop where
 pm:l0.Perm (la.take ia++lb.take ib)
 so:l0.Pairwise R
 lt:∀x∈l0,∀y,y∈la.drop ia\/y∈lb.drop ib->R x y
noncomputable def Md (R:α->α->Prop)(la lb l:List α):Prop:=l.Perm (la++lb)/\l.Pairwise R
theorem Mg.sw (m:Mg R la lb l0 ia ib):Mg R lb la l0 ib ia:=⟨m.pm.trans gy,m.so,λx hx y hy=>m.lt x hx y hy.symm⟩
theorem mE (e:la[ia]?=some x):la.drop ia=x::la.drop (ia+1):=by obtain⟨h,e⟩:=CL.mp e;rw[sk h,e]
theorem jD (e:la[ia]?=some x):la.take (ia+1)=la.take ia++[x]:=by rw[List.take_add_one,e];rfl
theorem Mg.a (m:Mg R la lb l0 ia ib)(sa:la.Pairwise R)(e:la[ia]?=some x)(h:∀y∈lb.drop ib,R x y):Mg R la lb (l0++[x]) (ia+1) ib:=by
 have sd:(la.drop ia).Pairwise R:=sa.sublist (aw _ _);have ed:=mE e;refine⟨?_,?_,?_⟩
 ·rw[jD e];refine(m.pm.append_right [x]).trans ?_;rw[aj,aj];exact l7 _ gy
 ·refine gq.mpr ⟨m.so,gw _ _,λz hz y hy=> ?_⟩;obtain rfl:y=x:=by simpa using hy
  exact m.lt z hz _ (.inl (by rw[ed];exact CQ))
 ·intro z hz y hy;rcases d8.mp hz with hz|hz
  ·exact m.lt z hz y (hy.imp (λq=>by rw[ed];exact CP _ q) id)
  ·obtain rfl:z=x:=by simpa using hz
   rcases hy with hy|hy
   ·rw[ed]at sd;exact(gr.mp sd).1 y hy
   ·exact h y hy
theorem Mg.b (m:Mg R la lb l0 ia ib)(sb:lb.Pairwise R)(e:lb[ib]?=some x)(h:∀y∈la.drop ia,R x y):Mg R la lb (l0++[x]) ia (ib+1):=(m.sw.a sb e h).sw
theorem Mg.as (m:Mg R la lb l0 ia ib)(sa:la.Pairwise R):∀k,ia+k<=la.length->(∀i x,i<k->la[ia+i]?=some x->∀y∈lb.drop ib,R x y)->Mg R la lb (l0++(la.drop ia).take k) (ia+k) ib
 |0,_,_=>by simpa using m
 |k+1,hk,h=>by
  have m1:=m.as sa k (by omega) λi x hi e=>h i x (by omega) e;have hl:ia+k<la.length:=by omega
  have e:la[ia+k]?=some la[ia+k]:=cx hl;have m2:=m1.a sa e (h k _ (by omega) e);have et:(la.drop ia).take (k+1)=(la.drop ia).take k++[la[ia+k]]:=jD (by rw[cv];exact e);rw[et,←aj];exact m2
theorem Mg.bs (m:Mg R la lb l0 ia ib)(sb:lb.Pairwise R)(k:Nat)(hk:ib+k<=lb.length)(h:∀i x,i<k->lb[ib+i]?=some x->∀y∈la.drop ia,R x y):Mg R la lb (l0++(lb.drop ib).take k) ia (ib+k):=(m.sw.as sb k hk h).sw
theorem Mg.da (m:Mg R la lb l0 ia ib)(sa:la.Pairwise R)(hb:lb.length<=ib):Md R la lb (l0++la.drop ia):=by refine⟨?_,gq.mpr ⟨m.so,sa.sublist (aw _ _),λx hx y hy=>m.lt x hx y (.inl hy)⟩⟩;have p:=m.pm.append_right (la.drop ia);rw[iq hb]at p;refine p.trans ?_;rw[aj];refine(l7 _ gy).trans ?_;rw[←aj,ip]
theorem Mg.db (m:Mg R la lb l0 ia ib)(sb:lb.Pairwise R)(ha:la.length<=ia):Md R la lb (l0++lb.drop ib):=⟨(m.sw.da sb ha).1.trans gy,(m.sw.da sb ha).2⟩
theorem Mg.l1 (m:Mg R la lb l0 ia ib)(sb:lb.Pairwise R)(e:la[ia]?=some x)(hl:ia+1=la.length)(h:∀y∈lb,R y x):Md R la lb (l0++lb.drop ib++la.drop ia):=by
 have ed:la.drop ia=[x]:=by rw[mE e,av (by omega)]
 refine⟨?_,?_⟩
 ·have p:=(m.pm.append_right (lb.drop ib)).append_right (la.drop ia);refine p.trans ?_;rw[aj (la.take ia),ip,aj];refine(l7 _ gy).trans ?_;rw[←aj,ip]
 ·rw[ed];refine gq.mpr ⟨gq.mpr ⟨m.so,sb.sublist (aw _ _),λx hx y hy=>m.lt x hx y (.inr hy)⟩,gw _ _,λz hz y hy=> ?_⟩;obtain rfl:y=x:=by simpa using hy
  rcases d8.mp hz with hz|hz
  ·exact m.lt z hz _ (.inl (by rw[ed];exact CQ))
  ·exact h z (ft hz)
theorem kX (tr:∀x y z:α,R x y->R y z->R x z)(sb:lb.Pairwise R){y:α}(e:lb[ib]?=some y)(h:R x y):∀z∈lb.drop ib,R x z:=by
 have sd:(lb.drop ib).Pairwise R:=sb.sublist (aw _ _);rw[mE e]at sd⊢;intro z hz;rcases fe.mp hz with rfl|hz
 ·exact h
 ·exact tr _ _ _ h ((gr.mp sd).1 z hz)
theorem Mg.nil:Mg R la lb [] 0 0:=⟨by simp,vk,λ_ h=>nomatch h⟩
end
noncomputable def mgl:Array lg->Array lg->StateT mf Sem (Array lg):=sortPriv%PySem.Builtin.mergeLo
noncomputable abbrev sg (sx:mf)(g:Nat):mf:=n6 (qp sx) (qt sx) (xm sx) g (w6 sx)
noncomputable def Le (r:lg->lg->Bool)(x y:lg):Prop:=r y x=false
theorem iO {a:Array lg}{i j:Nat}:(a.extract i j).toList=(a.toList.drop i).take (j - i):=by rw[Array.toList_extract]
theorem jS {a:Array lg}{i:Nat}:(a.extract i a.size).toList=a.toList.drop i:=by rw[iO,iq];rw[de];exact CT _
theorem fW {a:Array lg}{i:Nat}(h:i<a.size):∃x,a[i]?=some x/\a.toList[i]?=some x/\x∈a.toList:=⟨a[i],by simp[h],by simp[h],by simp⟩
structure Li (r:lg->lg->Bool)(a b o:Array lg)(i j:Nat):Prop where
 mg:Mg (Le r) a.toList b.toList o.toList i j
 ha:i+1<a.size
 hb:j<b.size
theorem A1r {key:lg}{i:Nat}(tr:∀x y z,Le r x y->Le r y z->Le r x z)(sa:a.toList.Pairwise (Le r))(hS:∀x∈a.toList,S x)(hk:S key):Bey S r false key a i (a.size - i) (λk=>match a[i+k]? with|some x=> !r key x|none=>false):=by
 refine⟨λk hk'=> ?_,λk l hkl hl hb=> ?_,hk⟩
 ·obtain⟨x,e,_,m⟩:=fW (a:=a) (i:=i+k) (by omega);exact⟨x,e,hS x m,by rw[e];rfl⟩
 ·obtain⟨x,e,e1,m⟩:=fW (a:=a) (i:=i+k) (by omega);obtain⟨y,e',e1',m'⟩:=fW (a:=a) (i:=i+l) (by omega);simp only[e,e']at hb⊢;rcases i9 hkl with rfl|CA
  ·rw[e]at e';cases e';exact hb
  ·have q:Le r x y:=(gu.mp sa) (i+k) (i+l) (by simp;omega) (by simp;omega) (by omega)|>λq=>by
    have h1:=(CL.mp e1).2;have h2:=(CL.mp e1').2;rw[h1,h2]at q;exact q
   have q2:Le r y key:=by unfold Le;simpa using hb
   have q3:Le r x key:=tr _ _ _ q q2;unfold Le at q3;simp[q3]
theorem A0y {key:lg}{i:Nat}(tr:∀x y z,Le r x y->Le r y z->Le r x z)(sa:a.toList.Pairwise (Le r))(hS:∀x∈a.toList,S x)(hk:S key):Bey S r true key a i (a.size - i) (λk=>match a[i+k]? with|some x=>r x key|none=>false):=by
 refine⟨λk hk'=> ?_,λk l hkl hl hb=> ?_,hk⟩
 ·obtain⟨x,e,_,m⟩:=fW (a:=a) (i:=i+k) (by omega);exact⟨x,e,hS x m,by rw[e];rfl⟩
 ·obtain⟨x,e,e1,m⟩:=fW (a:=a) (i:=i+k) (by omega);obtain⟨y,e',e1',m'⟩:=fW (a:=a) (i:=i+l) (by omega);simp only[e,e']at hb⊢;rcases i9 hkl with rfl|CA
  ·rw[e]at e';cases e';exact hb
  ·have q:Le r x y:=(gu.mp sa) (i+k) (i+l) (by simp;omega) (by simp;omega) (by omega)|>λq=>by
    have h1:=(CL.mp e1).2;have h2:=(CL.mp e1').2;rw[h1,h2]at q;exact q
   cases h3:r x key with
   |true=>rfl
   |false=>
    have q3:Le r key y:=tr _ _ _ h3 q;unfold Le at q3;rw[q3]at hb;exact nomatch hb
theorem vH {α:Type}{c:Nat->Prop} [∀n,Decidable (c n)]{X F:Nat->StateT mf Sem α}{Q:α->mf->Prop}{sx:mf}(hX:∀n,X n=F (n - 1))(h:∀n,wpS M A E s (F n) Q sx):∀n,wpS M A E s (if c n then X n else F n) Q sx:=λn=>by
 split
 ·rw[hX];exact h _
 ·exact h _
theorem nJ {β γ α:Type}{c:Prop} [Decidable c]{X F:β->γ->StateT mf Sem α}{Q:α->mf->Prop}{sx:mf}(b0:β)(g0:γ)(Pre:β->γ->Prop)(hn:¬c->Pre b0 g0)(key:∀b g,Pre b g->wpS M A E s (F b g) Q sx)
  (hp:c->(∀b g,Pre b g->wpS M A E s (F b g) Q sx)->wpS M A E s (X b0 g0) Q sx):wpS M A E s (if c then X b0 g0 else F b0 g0) Q sx:=by
 split
 ·exact hp ‹_› key
 ·exact key _ _ (hn ‹_›)
theorem gS [Decidable c](h1:c->wpS M A E s X Q sx)(h2:¬c->wpS M A E s F Q sx):wpS M A E s (if c then X else F) Q sx:=by
 split
 ·exact h1 ‹_›
 ·exact h2 ‹_›
theorem dN {α:Type}{x y:Nat}{X F:StateT mf Sem α}{Q:α->mf->Prop}{sx:mf}(h1:x=y->wpS M A E s X Q sx)(h2:¬x=y->wpS M A E s F Q sx):wpS M A E s (if (x==y)=true then X else F) Q sx:=gS (λh=>h1 (of_decide_eq_true h)) λh=>h2 λe=>h (CM e)
theorem fP {a:Array lg}{i:Nat}{G:Prop}(hi:i<a.size)(h:∀x,a[i]?=some x->a.toList[i]?=some x->x∈a.toList->G):G:=let ⟨x,h1,h2,h3⟩:=fW hi;h x h1 h2 h3
section
variable {B C D F H I J β:Type}{G:β->mf->Prop}{p q:Prop}
theorem ex5 {v:B->mf}{u:C->D->F->H->β}{R T:C->D->F->Prop}(h:∀b c d f x,p->q->R c d f->T c d f->G (u c d f x) (v b)):∀z y,p->q->(∃b c d f x,y=v b/\z=u c d f x/\R c d f/\T c d f)->G z y:=by rintro _ _ h1 h2 ⟨b,c,d,f,x,rfl,rfl,r,t⟩;exact h _ _ _ _ _ h1 h2 r t
theorem ex6 {y0:mf}{u:C->D->F->H->I->β}{R T:C->D->F->Prop}(h:∀c d f x i,p->q->R c d f->T c d f->G (u c d f x i) y0):∀z y,p->q->(y=y0/\∃c d f x i,z=u c d f x i/\R c d f/\T c d f)->G z y:=by rintro _ _ h1 h2 ⟨rfl,c,d,f,x,i,rfl,r,t⟩;exact h _ _ _ _ _ h1 h2 r t
theorem ex7 {v:B->mf}{u:C->D->F->H->I->J->β}{R T:C->D->F->Prop}(h:∀b c d f x i j,p->q->R c d f->T c d f->G (u c d f x i j) (v b)):∀z y,p->q->(∃b c d f x i j,y=v b/\z=u c d f x i j/\R c d f/\T c d f)->G z y:=by rintro _ _ h1 h2 ⟨b,c,d,f,x,i,j,rfl,rfl,r,t⟩;exact h _ _ _ _ _ _ _ h1 h2 r t
theorem ex8 {y0:mf}{L W:Type}{k:L->W->β}{S:L->Prop}{u:C->D->F->H->I->β}{R T:C->D->F->Prop}(h1:∀l w,S l->G (k l w) y0)(h:∀c d f x i,R c d f->T c d f->G (u c d f x i) y0):∀z y,(y=y0/\((∃l w,z=k l w/\S l)\/ ∃c d f x i,z=u c d f x i/\R c d f/\T c d f))->G z y:=by
 rintro _ _ ⟨rfl,⟨l,w,rfl,r⟩| ⟨c,d,f,x,i,rfl,r,t⟩⟩
 ·exact h1 _ _ r
 ·exact h _ _ _ _ _ r t
end
structure Mi (S:lg->Prop)(r:lg->lg->Bool)(a b:Array lg):Prop where
 tr:∀x y z,Le r x y->Le r y z->Le r x z
 as:∀x y,r x y=true->Le r x y
 sa:a.toList.Pairwise (Le r)
 sb:b.toList.Pairwise (Le r)
 xa:∀x∈a.toList,S x
 xb:∀x∈b.toList,S x
 na:1<=a.size
 nb:1<=b.size
 hd:∀x∈a.toList,∀y,b.toList[0]?=some y->Le r y x
 tl:∀y∈b.toList,∀x,a.toList[a.size - 1]?=some x->Le r y x
theorem len {a:Array lg}:a.toList.length=a.size:=k5
theorem Li.one {o:Array lg}{i j:Nat}(m:Mi S r a b)(L:Mg (Le r) a.toList b.toList o.toList i j)(hi:i+1=a.size):Md (Le r) a.toList b.toList (o++b.extract j b.size++a.extract i a.size).toList:=by obtain⟨x,_,e,_⟩:=fW (a:=a) (i:=i) (by omega);rw[lj,lj,jS,jS];exact L.l1 m.sb e (by rw[len];exact hi) λy hy=>m.tl y hy x (by rw[show a.size - 1=i by omega];exact e)
theorem Li.fb {o:Array lg}{i j:Nat}(m:Mi S r a b)(L:Mg (Le r) a.toList b.toList o.toList i j)(hj:j=b.size):Md (Le r) a.toList b.toList (o++a.extract i a.size++b.extract j b.size).toList:=by rw[lj,lj,jS,jS,av (l:=b.toList) (by rw[len];omega),ak];exact L.da m.sa (by rw[len];omega)
theorem Li.fa {o:Array lg}{i j:Nat}(m:Mi S r a b)(L:Mg (Le r) a.toList b.toList o.toList i j)(hi:i=a.size):Md (Le r) a.toList b.toList (o++a.extract i a.size++b.extract j b.size).toList:=by rw[lj,lj,jS,jS,av (l:=a.toList) (by rw[len];omega),ak];exact L.db m.sb (by rw[len];omega)
theorem A91 {sx:mf}{Q:Array lg->mf->Prop}(O:Oc M A E s κ S r)(hk:qp sx=κ)(m:Mi S r a b)(h:∀l g,Md (Le r) a.toList b.toList l.toList->Q l (sg sx g)):wpS M A E s (mgl a b) Q sx:=by
 have ga:∀{o:Array lg}{i j:Nat}{x y:lg},Mg (Le r) a.toList b.toList o.toList i j->a.toList[i]?=some x->b.toList[j]?=some y->Le r x y->Mg (Le r) a.toList b.toList (o.push x).toList (i+1) j:=by
  intro o i j x y L ex ey q;rw[qa];exact L.a m.sa ex (kX m.tr m.sb ey q)
 have gb:∀{o:Array lg}{i j:Nat}{x y:lg},Mg (Le r) a.toList b.toList o.toList i j->a.toList[i]?=some x->b.toList[j]?=some y->Le r y x->Mg (Le r) a.toList b.toList (o.push y).toList i (j+1):=by
  intro o i j x y L ex ey q;rw[qa];exact L.b m.sb ey (kX m.tr m.sa ex q)
 refine j8 (AO (pj ⟨rfl,?_⟩));refine fP (a:=b) (i:=0) m.nb λy0 b0 b0' _=> ?_;refine j8 (cU b0 ?_);have L0:Mg (Le r) a.toList b.toList (#[y0]:Array lg).toList 0 1:=(Mg.nil (R:=Le r) (la:=a.toList) (lb:=b.toList)).b m.sb b0' (λz hz=>m.hd z hz y0 b0');dsimp only
 refine dN (λe1=>ka (h _ (BM sx) (Li.fb m L0 e1))) λe1=>dN (λe2=>ka (h _ (BM sx) (Li.one m L0 e2))) λe2=> ?_;have n1:=m.na;have n2:=m.nb;have b1:1<b.size:=by omega
 have a1:0+1<a.size:=by omega
 refine j8 (yi ?_);refine j8 (r8 (n5
  (I:=λX c sx'=> ∃g o i j mg,sx'=sg sx g/\c=(none,o,i,j,mg)/\Li r a b o i j/\X<=i+j)
  (Q:=λc sx'=> ∃g l w,sx'=sg sx g/\c=(some l,w)/\Md (Le r) a.toList b.toList l.toList) ?_ ?_ ⟨BM sx,_,_,_,_,rfl,rfl,⟨L0,a1,b1⟩,by omega⟩) ?_)
 ·refine λX=>ex5 λg o i j mg _ hX L hx=> ?_;dsimp only
  refine j8 (r8 (n5
   (I:=λX c sx'=>sx'=sg sx g/\∃o i' j' ac bc,c=(none,o,i',j',ac,bc)/\Li r a b o i' j'/\i+j+X<=i'+j')
   (Q:=λc sx'=>sx'=sg sx g/\((∃l w,c=(some l,w)/\Md (Le r) a.toList b.toList l.toList)\/ ∃o i' j' ac bc,c=(none,o,i',j',ac,bc)/\Li r a b o i' j'/\i+j+1<=i'+j')) ?_ ?_ ⟨rfl,_,_,_,_,_,rfl,L,by omega⟩) ?_)
  ·refine λX=>ex6 λo i' j' ac bc _ hX L hx=> ?_;dsimp only
   refine fP (a:=a) (i:=i') (by have:=L.ha;omega) λx ea ea' ma=>fP (a:=b) (i:=j') L.hb λy eb eb' mb=> ?_;refine j8 (cU eb (j8 (cU ea (j8 (O _ _ _ _ (m.xb y mb) (m.xa x ma) hk ?_)))));dsimp only
   have h1:=L.ha;have h2:=L.hb;refine gS (λhr=>j8 (cU eb ?_)) λhr=>j8 (cU ea ?_)
   ·have L1:=gb L.mg ea' eb' (m.as _ _ hr);exact dN (λf1=>ka ⟨rfl,.inl ⟨_,_,rfl,Li.fb m L1 f1⟩⟩) λf1=>gS (λ_=>ka ⟨rfl,.inr ⟨_,_,_,_,_,rfl,⟨L1,h1,by omega⟩,by omega⟩⟩) λ_=>ka ⟨rfl,_,_,_,_,_,rfl,⟨L1,h1,by omega⟩,by omega⟩
   ·have L1:=ga L.mg ea' eb' (eq_false_of_ne_true hr);exact dN (λf1=>ka ⟨rfl,.inl ⟨_,_,rfl,Li.one m L1 f1⟩⟩) λf1=>gS (λ_=>ka ⟨rfl,.inr ⟨_,_,_,_,_,rfl,⟨L1,by omega,h2⟩,by omega⟩⟩) λ_=>ka ⟨rfl,_,_,_,_,_,rfl,⟨L1,by omega,h2⟩,by omega⟩
  ·rintro c _ ⟨rfl,o,i',j',ac,bc,rfl,L,hx⟩;exact⟨rfl,.inr ⟨_,_,_,_,_,rfl,L,by omega⟩⟩
  ·refine ex8 (λl w hl=>ka ⟨g,l,_,rfl,rfl,hl⟩) λo i' j' ac bc L hx'=> ?_;dsimp only
   refine j8 (AO (pj ⟨rfl,?_⟩));refine j8 (r8 (n5
    (I:=λ_ c sx'=> ∃g o i2 j2 mg ac bc,sx'=sg sx g/\c=(none,o,i2,j2,mg,ac,bc)/\Li r a b o i2 j2/\i'+j'<=i2+j2)
    (Q:=λc sx'=> ∃g,sx'=sg sx g/\((∃l w,c=(some l,w)/\Md (Le r) a.toList b.toList l.toList)\/ ∃o i2 j2 mg ac bc,c=(none,o,i2,j2,mg,ac,bc)/\Li r a b o i2 j2/\i'+j'<=i2+j2)) ?_ ?_ ⟨g,_,_,_,_,_,_,rfl,rfl,L,by omega⟩) ?_)
   ·refine λX=>ex7 λg o i2 j2 mg ac bc _ hX L hx2=> ?_;dsimp only
    refine fP (a:=b) (i:=j2) L.hb λy eb eb' mb=> ?_;have ha2:=L.ha;have hb2:=L.hb
    revert mg
    refine vH (λ_=>rfl) λmg=> ?_;refine j8 (uf ?_);refine j8 (cU eb (j8 (kN O hk (A1r m.tr m.sa m.xa (m.xb y mb)) (by omega) λk k1 k2 k3=> ?_)));dsimp only
    have La:Mg (Le r) a.toList b.toList (o++a.extract i2 (i2+k)).toList (i2+k) j2:=by
     rw[lj,iO,show i2+k - i2=k by omega];refine L.mg.as m.sa k (by rw[len];omega) λq x hq e=>kX m.tr m.sb eb' ?_;have:=k2 q hq;have e':a[i2+q]?=some x:=by rw[←kh];exact e
     rw[e']at this;unfold Le;simpa using this
    have low:∀x,i2+k<a.size->a.toList[i2+k]?=some x->Le r y x:=λx hl e=>by
     have:=k3 k (CT _) (by omega);have e':a[i2+k]?=some x:=by rw[←kh];exact e
     rw[e']at this;exact m.as _ _ (by simpa using this)
    apply nJ (c:=k>0) o i2 (λ(o3:Array lg) (i3:Nat)=>Mg (Le r) a.toList b.toList o3.toList i3 j2/\i3+1<a.size/\i'+j'<=i3+j2/\∀x,a.toList[i3]?=some x->Le r y x)
    ·exact λhk0=> ⟨L.mg,ha2,hx2,λx e=>low x (by omega) (by rw[show k=0 by omega];exact e)⟩
    rotate_left
    ·exact λhk0 key=>dN (λf1=>ka ⟨_,rfl,.inl ⟨_,_,rfl,Li.one m La f1⟩⟩) λf1=>dN (λf2=>ka ⟨_,rfl,.inl ⟨_,_,rfl,Li.fa m La f2⟩⟩) λf2=>key _ _ ⟨La,by omega,by omega,λx e=>low x (by omega) e⟩
    intro o3 i3 h;have h3:=h.2.1;have h4:=h.2.2.1;refine fP (a:=a) (i:=i3) (by omega) λx ea ea' ma=>j8 (cU eb ?_);have L4:=gb h.1 ea' eb' (h.2.2.2 x ea');refine dN (λf1=>ka ⟨_,rfl,.inl ⟨_,_,rfl,Li.fb m L4 f1⟩⟩) λf1'=> ?_;refine j8 (cU ea (j8 (kN O hk (A0y m.tr m.sb m.xb (m.xa x ma)) (by omega) λk' p1 p2 p3=> ?_)));dsimp only
    generalize o3.push y=o5 at L4⊢;generalize hj5:j2+1=j5 at L4 f1' p1 p2 p3⊢;have Lb:Mg (Le r) a.toList b.toList (o5++b.extract j5 (j5+k')).toList i3 (j5+k'):=by
     rw[lj,iO,show j5+k' - j5=k' by omega];refine L4.bs m.sb k' (by rw[len];omega) λq z hq e=>kX m.tr m.sa ea' ?_;have:=p2 q hq;have e':b[j5+q]?=some z:=by rw[←kh];exact e
     rw[e']at this;exact m.as _ _ (by simpa using this)
    have lob:∀z,j5+k'<b.size->b.toList[j5+k']?=some z->Le r x z:=λz hl e=>by
     have:=p3 k' (CT _) (by omega);have e':b[j5+k']?=some z:=by rw[←kh];exact e
     rw[e']at this;simpa[Le]using this
    apply nJ (c:=k'>0) o5 j5 (λ(o4:Array lg) (j3:Nat)=>Mg (Le r) a.toList b.toList o4.toList i3 j3/\j3<b.size/\i'+j'<=i3+j3/\∀z,b.toList[j3]?=some z->Le r x z)
    ·exact λhk1=> ⟨L4,by omega,by omega,λz e=>lob z (by omega) (by rw[show k'=0 by omega];exact e)⟩
    rotate_left
    ·exact λhk1 key=>dN (λf2=>ka ⟨_,rfl,.inl ⟨_,_,rfl,Li.fb m Lb f2⟩⟩) λf2=>key _ _ ⟨Lb,by omega,by omega,λz e=>lob z (by omega) e⟩
    intro o4 j3 h;have h6:=h.2.1;have h7:=h.2.2.1;refine fP (a:=b) (i:=j3) h6 λz ez ez' mz=>j8 (cU ea ?_);have L6:=ga h.1 ea' ez' (h.2.2.2 z ez');exact dN (λf2=>ka ⟨_,rfl,.inl ⟨_,_,rfl,Li.one m L6 f2⟩⟩) λf2=>gS (λ_=>ka ⟨_,rfl,.inr ⟨_,_,_,_,_,_,rfl,⟨L6,by omega,h6⟩,by omega⟩⟩) λ_=>ka ⟨_,_,_,_,_,_,_,rfl,rfl,⟨L6,by omega,h6⟩,by omega⟩
   ·rintro c _ ⟨g,o,i2,j2,mg,ac,bc,rfl,rfl,L,hx⟩;exact⟨g,rfl,.inr ⟨_,_,_,_,_,_,rfl,L,hx⟩⟩
   ·rintro c _ ⟨g,rfl,⟨l,w,rfl,hl⟩| ⟨o,i2,j2,mg,ac,bc,rfl,L,hx2⟩⟩
    ·exact ka ⟨g,l,_,rfl,rfl,hl⟩
    ·dsimp only
     exact j8 (uf (ka ⟨_,_,_,_,_,rfl,rfl,L,by omega⟩))
 ·rintro c _ ⟨g,o,i,j,mg,rfl,rfl,L,hx⟩;have h1:=L.ha;have h2:=L.hb;omega
 ·rintro c _ ⟨g,l,w,rfl,rfl,hl⟩;exact ka (h l g hl)
section
variable {α:Type}{R:α->α->Prop}{la lb l0:List α}{na nb k:Nat}{x:α}
structure Mh (R:α->α->Prop)(la lb l0:List α)(na nb:Nat):Prop where
 pm:l0.Perm (la.drop na++lb.drop nb)
 so:l0.Pairwise (λx y=>R y x)
 lt:∀x∈l0,∀y,y∈la.take na\/y∈lb.take nb->R y x
theorem Mh.sw (m:Mh R la lb l0 na nb):Mh R lb la l0 nb na:=⟨m.pm.trans gy,m.so,λx hx y hy=>m.lt x hx y hy.symm⟩
theorem Mh.a (m:Mh R la lb l0 (na+1) nb)(sa:la.Pairwise R)(e:la[na]?=some x)(h:∀y∈lb.take nb,R y x):Mh R la lb (l0++[x]) na nb:=by
 have sx:(la.take (na+1)).Pairwise R:=sa.sublist (ir _ _);have et:=jD e;refine⟨?_,?_,?_⟩
 ·rw[mE e];exact(gy).trans (m.pm.cons x)
 ·refine gq.mpr ⟨m.so,gw _ _,λz hz y hy=> ?_⟩;obtain rfl:y=x:=by simpa using hy
  exact m.lt z hz _ (.inl (by rw[et];exact fc _ CQ))
 ·intro z hz y hy;rcases d8.mp hz with hz|hz
  ·exact m.lt z hz y (hy.imp (λq=>by rw[et];exact d9 _ q) id)
  ·obtain rfl:z=x:=by simpa using hz
   rcases hy with hy|hy
   ·rw[et]at sx;exact(gq.mp sx).2.2 y hy _ CQ
   ·exact h y hy
theorem Mh.as (sa:la.Pairwise R):∀(k na:Nat),Mh R la lb l0 (na+k) nb->na+k<=la.length->(∀i x,na<=i->i<na+k->la[i]?=some x->∀y∈lb.take nb,R y x)->Mh R la lb (l0++((la.drop na).take k).reverse) na nb
 |0,na,m,_,_=>by simpa using m
 |k+1,na,m,hk,h=>by
  have m1:=Mh.as sa k (na+1) (by rw[show na+1+k=na+(k+1) by omega];exact m) (by omega) λi x h1 h2 e=>h i x (by omega) (by omega) e;have hl:na<la.length:=by omega
  have e:la[na]?=some la[na]:=cx hl;have m2:=m1.a sa e (h na _ (CT _) (by omega) e);have et:((la.drop na).take (k+1)).reverse=((la.drop (na+1)).take k).reverse++[la[na]]:=by rw[mE e,List.take_succ_cons,List.reverse_cons]
  rw[et,←aj];exact m2
theorem Mh.da (m:Mh R la lb l0 na nb)(sa:la.Pairwise R)(hb:nb=0):Md R la lb (la.take na++l0.reverse):=by refine⟨?_,gq.mpr ⟨sa.sublist (ir _ _),Bx.mpr m.so,λy hy x hx=>m.lt x (fx.mp hx) y (.inl hy)⟩⟩;have p:=(List.reverse_perm l0).trans m.pm;rw[hb,ax]at p;refine(l7 _ p).trans ?_;rw[←aj,ip]
theorem Mh.db (m:Mh R la lb l0 na nb)(sb:lb.Pairwise R)(ha:na=0):Md R la lb (lb.take nb++l0.reverse):=⟨(m.sw.da sb ha).1.trans gy,(m.sw.da sb ha).2⟩
theorem Mh.l1 (m:Mh R la lb l0 na 1)(sa:la.Pairwise R)(e:lb[0]?=some x)(h:∀y∈la,R x y):Md R la lb (lb.take 1++la.take na++l0.reverse):=by
 have ed:lb.take 1=[x]:=by rw[show 1=0+1 from rfl,jD e];rfl
 refine⟨?_,?_⟩
 ·have p:=(List.reverse_perm l0).trans m.pm;refine(l7 _ p).trans ?_;rw[aj,←aj (la.take na),ip];refine gy.trans ?_;rw[aj];refine l7 _ (gy.trans ?_);rw[ip]
 ·rw[ed];refine gq.mpr ⟨gq.mpr ⟨gw _ _,sa.sublist (ir _ _),λz hz y hy=> ?_⟩,Bx.mpr m.so,λz hz y hy=> ?_⟩
  ·obtain rfl:z=x:=by simpa using hz
   exact h y (fu hy)
  ·rcases d8.mp hz with hz|hz
   ·exact m.lt y (fx.mp hy) z (.inr (by rw[ed];exact hz))
   ·exact m.lt y (fx.mp hy) z (.inl hz)
theorem oA (tr:∀x y z:α,R x y->R y z->R x z)(sb:lb.Pairwise R){y:α}(e:lb[nb]?=some y)(h:R y x):∀z∈lb.take (nb+1),R z x:=by
 have sd:(lb.take (nb+1)).Pairwise R:=sb.sublist (ir _ _);rw[jD e]at sd⊢;intro z hz;rcases d8.mp hz with hz|hz
 ·exact tr _ _ _ ((gq.mp sd).2.2 z hz y CQ) h
 ·obtain rfl:z=y:=by simpa using hz
  exact h
end
noncomputable def mgh:Array lg->Array lg->StateT mf Sem (Array lg):=sortPriv%PySem.Builtin.mergeHi
theorem Bey.le {left:Bool}{key:lg}{base n n':Nat}{f:Nat->Bool}(B:Bey S r left key a base n f)(h:n'<=n):Bey S r left key a base n' f:=⟨λi hi=>B.at_ i (by omega),λi j h1 h2 h3=>B.mono i j h1 (by omega) h3,B.key⟩
structure Lh (r:lg->lg->Bool)(a b o:Array lg)(i j:Nat):Prop where
 mg:Mh (Le r) a.toList b.toList o.toList i j
 ha:1<=i/\i<=a.size
 hb:2<=j/\j<=b.size
theorem kC {a:Array lg}{i:Nat}:(a.extract 0 i).toList=a.toList.take i:=by rw[iO,ax,sub_zero]
theorem Lh.one {o:Array lg}{i j:Nat}(m:Mi S r a b)(L:Mh (Le r) a.toList b.toList o.toList i j)(hj:j=1):Md (Le r) a.toList b.toList (b.extract 0 j++a.extract 0 i++o.reverse).toList:=by subst hj;obtain⟨x,_,e,_⟩:=fW (a:=b) (i:=0) m.nb;rw[lj,lj,kC,kC,tu];exact L.l1 m.sa e λy hy=>m.hd y hy x e
theorem Lh.fa {o:Array lg}{i j:Nat}(m:Mi S r a b)(L:Mh (Le r) a.toList b.toList o.toList i j)(hi:i=0):Md (Le r) a.toList b.toList (a.extract 0 i++b.extract 0 j++o.reverse).toList:=by subst hi;rw[lj,lj,kC,kC,tu,take_zero,f6];exact L.db m.sb rfl
theorem Lh.fb {o:Array lg}{i j:Nat}(m:Mi S r a b)(L:Mh (Le r) a.toList b.toList o.toList i j)(hj:j=0):Md (Le r) a.toList b.toList (a.extract 0 i++b.extract 0 j++o.reverse).toList:=by subst hj;rw[lj,lj,kC,kC,tu,take_zero,ak];exact L.da m.sa rfl
theorem A8p (O:Oc M A E s κ S r)(hk:qp sx=κ)(m:Mi S r a b)(h:∀l g,Md (Le r) a.toList b.toList l.toList->Q l (sg sx g)):wpS M A E s (mgh a b) Q sx:=by
 have ga:∀{o:Array lg}{i j:Nat}{x y:lg},Mh (Le r) a.toList b.toList o.toList (i+1) (j+1)->a.toList[i]?=some x->b.toList[j]?=some y->Le r y x->Mh (Le r) a.toList b.toList (o.push x).toList i (j+1):=by
  intro o i j x y L ex ey q;rw[qa];exact L.a m.sa ex (oA m.tr m.sb ey q)
 have gb:∀{o:Array lg}{i j:Nat}{x y:lg},Mh (Le r) a.toList b.toList o.toList (i+1) (j+1)->a.toList[i]?=some x->b.toList[j]?=some y->Le r x y->Mh (Le r) a.toList b.toList (o.push y).toList (i+1) j:=by
  intro o i j x y L ex ey q;rw[qa];exact(L.sw.a m.sb ey (oA m.tr m.sa ex q)).sw
 have n1:=m.na;have n2:=m.nb;refine j8 (AO (pj ⟨rfl,?_⟩));refine fP (a:=a) (i:=a.size - 1) (by omega) λx0 a0 a0' _=> ?_;refine j8 (cU a0 ?_);have L0:Mh (Le r) a.toList b.toList (#[x0]:Array lg).toList (a.size - 1) b.size:=by
  have z:Mh (Le r) a.toList b.toList [] (a.size - 1+1) b.size:=⟨by rw[av (l:=a.toList) (by rw[len];omega),av (l:=b.toList) (by rw[len];omega)];exact BN _,vk,λ_ h=>nomatch h⟩;exact z.a m.sa a0' λy hy=>m.tl y (fu hy) x0 a0'
 dsimp only
 refine dN (λe1=>ka (h _ (BM sx) (Lh.fa m L0 e1))) λe1=>dN (λe2=>ka (h _ (BM sx) (Lh.one m L0 e2))) λe2=> ?_;have a1:1<=a.size - 1:=by omega
 have b1:2<=b.size:=by omega
 refine j8 (yi ?_);refine j8 (r8 (n5
  (I:=λX c sx'=> ∃g o i j mg,sx'=sg sx g/\c=(none,i,j,o,mg)/\Lh r a b o i j/\X+i+j<=a.size+b.size)
  (Q:=λc sx'=> ∃g l w,sx'=sg sx g/\c=(some l,w)/\Md (Le r) a.toList b.toList l.toList) ?_ ?_ ⟨BM sx,_,_,_,_,rfl,rfl,⟨L0,⟨a1,by omega⟩,⟨b1,CT _⟩⟩,by omega⟩) ?_)
 ·refine λX=>ex5 λg o i j mg _ hX L hx=> ?_;dsimp only
  refine j8 (r8 (n5
   (I:=λX c sx'=>sx'=sg sx g/\∃o i' j' ac bc,c=(none,i',j',o,ac,bc)/\Lh r a b o i' j'/\X+i'+j'<=i+j)
   (Q:=λc sx'=>sx'=sg sx g/\((∃l w,c=(some l,w)/\Md (Le r) a.toList b.toList l.toList)\/ ∃o i' j' ac bc,c=(none,i',j',o,ac,bc)/\Lh r a b o i' j'/\1+i'+j'<=i+j)) ?_ ?_ ⟨rfl,_,_,_,_,_,rfl,L,by omega⟩) ?_)
  ·refine λX=>ex6 λo i' j' ac bc _ hX L hx=> ?_;dsimp only
   obtain⟨i1,rfl⟩:∃i1,i'=i1+1:=⟨i' - 1,by have:=L.ha;omega⟩;obtain⟨j1,rfl⟩:∃j1,j'=j1+1:=⟨j' - 1,by have:=L.hb;omega⟩;have ha2:=L.ha;have hb2:=L.hb;simp only[i8];refine fP (a:=a) (i:=i1) (by omega) λx ea ea' ma=>fP (a:=b) (i:=j1) (by omega) λy eb eb' mb=> ?_;refine j8 (cU eb (j8 (cU ea (j8 (O _ _ _ _ (m.xb y mb) (m.xa x ma) hk ?_)))));dsimp only
   refine gS (λhr=>j8 (cU ea ?_)) λhr=>j8 (cU eb ?_)
   ·have L1:=ga L.mg ea' eb' (m.as _ _ hr);exact dN (λf1=>ka ⟨rfl,.inl ⟨_,_,rfl,Lh.fa m L1 f1⟩⟩) λf1=>gS (λ_=>ka ⟨rfl,.inr ⟨_,_,_,_,_,rfl,⟨L1,by omega,hb2⟩,by omega⟩⟩) λ_=>ka ⟨rfl,_,_,_,_,_,rfl,⟨L1,by omega,hb2⟩,by omega⟩
   ·have L1:=gb L.mg ea' eb' (eq_false_of_ne_true hr);exact dN (λf1=>ka ⟨rfl,.inl ⟨_,_,rfl,Lh.one m L1 f1⟩⟩) λf1=>gS (λ_=>ka ⟨rfl,.inr ⟨_,_,_,_,_,rfl,⟨L1,ha2,by omega⟩,by omega⟩⟩) λ_=>ka ⟨rfl,_,_,_,_,_,rfl,⟨L1,ha2,by omega⟩,by omega⟩
  ·rintro c _ ⟨rfl,o,i',j',ac,bc,rfl,L,hx⟩;exact⟨rfl,.inr ⟨_,_,_,_,_,rfl,L,by omega⟩⟩
  ·refine ex8 (λl w hl=>ka ⟨g,l,_,rfl,rfl,hl⟩) λo i' j' ac bc L hx'=> ?_;dsimp only
   refine j8 (AO (pj ⟨rfl,?_⟩));refine j8 (r8 (n5
    (I:=λ_ c sx'=> ∃g o i2 j2 mg ac bc,sx'=sg sx g/\c=(none,i2,j2,o,mg,ac,bc)/\Lh r a b o i2 j2/\i2+j2<=i'+j')
    (Q:=λc sx'=> ∃g,sx'=sg sx g/\((∃l w,c=(some l,w)/\Md (Le r) a.toList b.toList l.toList)\/ ∃o i2 j2 mg ac bc,c=(none,i2,j2,o,mg,ac,bc)/\Lh r a b o i2 j2/\i2+j2<=i'+j')) ?_ ?_ ⟨g,_,_,_,_,_,_,rfl,rfl,L,by omega⟩) ?_)
   ·refine λX=>ex7 λg o i2 j2 mg ac bc _ hX L hx2=> ?_;dsimp only
    have ha2:=L.ha;have hb2:=L.hb;obtain⟨j1,rfl⟩:∃j1,j2=j1+1:=⟨j2 - 1,by omega⟩;simp only[i8];refine fP (a:=b) (i:=j1) (by omega) λy eb eb' mb=> ?_
    revert mg
    refine vH (λ_=>rfl) λmg=> ?_;refine j8 (uf ?_);refine j8 (cU eb (j8 (kN O hk ((A1r (i:=0) m.tr m.sa m.xa (m.xb y mb)).le (n':=i2) (by omega)) (by omega) λk k1 k2 k3=> ?_)));dsimp only
    simp only[jr]at k2 k3;have La:Mh (Le r) a.toList b.toList (o++(a.extract k i2).reverse).toList k (j1+1):=by
     rw[lj,tu,iO];refine Mh.as m.sa (i2 - k) k (by rw[show k+(i2 - k)=i2 by omega];exact L.mg) (by rw[len];omega) λq x h1 h2 e=>oA m.tr m.sb eb' ?_;have:=k3 q h1 (by omega);have e':a[q]?=some x:=by rw[←kh];exact e
     rw[e']at this;exact m.as _ _ (by simpa using this)
    have low:∀x,1<=k->a.toList[k - 1]?=some x->Le r x y:=λx hl e=>by
     have:=k2 (k - 1) (by omega);have e':a[k - 1]?=some x:=by rw[←kh];exact e
     rw[e']at this;unfold Le;simpa using this
    generalize hkk:i2 - k=kk;apply nJ (c:=kk>0) o i2 (λ(o3:Array lg) (i3:Nat)=>Mh (Le r) a.toList b.toList o3.toList i3 (j1+1)/\(1<=i3/\i3<=a.size)/\i3+(j1+1)<=i'+j'/\∀x,a.toList[i3 - 1]?=some x->Le r x y)
    ·exact λhk0=> ⟨L.mg,ha2,hx2,λx e=>low x (by omega) (by rw[show k=i2 by omega];exact e)⟩
    rotate_left
    ·exact λhk0 key=>dN (λf1=>ka ⟨_,rfl,.inl ⟨_,_,rfl,Lh.fa m La f1⟩⟩) λf1=>key _ _ ⟨La,by omega,by omega,λx e=>low x (by omega) e⟩
    intro o3 i3 h;have h3:=h.2.1;obtain⟨i1,rfl⟩:∃i1,i3=i1+1:=⟨i3 - 1,by omega⟩;have h4:=h.2.2.1;have h5:=h.2.2.2;simp only[i8]at h5;dsimp only [Nat.add_one_sub_one];refine fP (a:=a) (i:=i1) (by omega) λx ea ea' ma=>j8 (cU eb ?_);have L4:=gb h.1 ea' eb' (h5 x ea');refine dN (λf1=>ka ⟨_,rfl,.inl ⟨_,_,rfl,Lh.one m L4 f1⟩⟩) λf1'=> ?_;refine j8 (cU ea (j8 (kN O hk ((A0y (i:=0) m.tr m.sb m.xb (m.xa x ma)).le (n':=j1) (by omega)) (by omega) λk' p1 p2 p3=> ?_)));dsimp only
    generalize o3.push y=o5 at L4⊢;simp only[jr]at p2 p3;have Lb:Mh (Le r) a.toList b.toList (o5++(b.extract k' j1).reverse).toList (i1+1) k':=by
     rw[lj,tu,iO];refine(Mh.as m.sb (j1 - k') k' (by rw[show k'+(j1 - k')=j1 by omega];exact L4.sw) (by rw[len];omega) λq z h1 h2 e=>oA m.tr m.sa ea' ?_).sw;have:=p3 q h1 (by omega);have e':b[q]?=some z:=by rw[←kh];exact e
     rw[e']at this;simpa[Le]using this
    have lob:∀z,1<=k'->b.toList[k' - 1]?=some z->Le r z x:=λz hl e=>by
     have:=p2 (k' - 1) (by omega);have e':b[k' - 1]?=some z:=by rw[←kh];exact e
     rw[e']at this;exact m.as _ _ (by simpa using this)
    generalize hk9:j1 - k'=kk1;apply nJ (c:=kk1>0) o5 j1 (λ(o4:Array lg) (j3:Nat)=>Mh (Le r) a.toList b.toList o4.toList (i1+1) j3/\(2<=j3/\j3<=b.size)/\i1+1+j3<=i'+j'/\∀z,b.toList[j3 - 1]?=some z->Le r z x)
    ·exact λhk1=> ⟨L4,by omega,by omega,λz e=>lob z (by omega) (by rw[show k'=j1 by omega];exact e)⟩
    rotate_left
    ·exact λhk1 key=>dN (λf2=>ka ⟨_,rfl,.inl ⟨_,_,rfl,Lh.one m Lb f2⟩⟩) λf2=>dN (λf3=>ka ⟨_,rfl,.inl ⟨_,_,rfl,Lh.fb m Lb f3⟩⟩) λf3=>key _ _ ⟨Lb,by omega,by omega,λz e=>lob z (by omega) e⟩
    intro o4 j3 h;have h6:=h.2.1;obtain⟨j4,rfl⟩:∃j4,j3=j4+1:=⟨j3 - 1,by omega⟩;have h7:=h.2.2.1;have h8:=h.2.2.2;simp only[i8]at h8;refine fP (a:=b) (i:=j4) (by omega) λz ez ez' mz=>j8 (cU ea ?_);have L6:=ga h.1 ea' ez' (h8 z ez');exact dN (λf2=>ka ⟨_,rfl,.inl ⟨_,_,rfl,Lh.fa m L6 f2⟩⟩) λf2=>gS (λ_=>ka ⟨_,rfl,.inr ⟨_,_,_,_,_,_,rfl,⟨L6,by omega,h6⟩,by omega⟩⟩) λ_=>ka ⟨_,_,_,_,_,_,_,rfl,rfl,⟨L6,by omega,h6⟩,by omega⟩
   ·rintro c _ ⟨g,o,i2,j2,mg,ac,bc,rfl,rfl,L,hx⟩;exact⟨g,rfl,.inr ⟨_,_,_,_,_,_,rfl,L,hx⟩⟩
   ·rintro c _ ⟨g,rfl,⟨l,w,rfl,hl⟩| ⟨o,i2,j2,mg,ac,bc,rfl,L,hx2⟩⟩
    ·exact ka ⟨g,l,_,rfl,rfl,hl⟩
    ·dsimp only
     exact j8 (uf (ka ⟨_,_,_,_,_,rfl,rfl,L,by omega⟩))
 ·rintro c _ ⟨g,o,i,j,mg,rfl,rfl,L,hx⟩;have h1:=L.ha;have h2:=L.hb;omega
 ·rintro c _ ⟨g,l,w,rfl,rfl,hl⟩;exact ka (h l g hl)
theorem xF {α:Type}(sa:Nat):∀(l:List α)(n:Nat)(a:Array α),sa+n+l.length<=a.size->
  ((l.zipIdx n).foldl (λa (p:α×Nat)=>a.setIfInBounds (sa+p.2) p.1) a).toList=a.toList.take (sa+n)++l++a.toList.drop (sa+n+l.length)
 | [],n,a,h=>by simp
 |x::l,n,a,h=>by
  have h':sa+n+(l.length+1)<=a.size:=h;show((l.zipIdx (n+1)).foldl _ (a.setIfInBounds (sa+n) x)).toList=_;rw[xF sa l (n+1) _ (by rw[Ax];omega)];have e:(a.setIfInBounds (sa+n) x).toList=a.toList.set (sa+n) x:=by simp
  have hl:sa+n<a.toList.length:=by rw[k5];omega
  rw[e];have e1:(a.toList.set (sa+n) x).take (sa+(n+1))=a.toList.take (sa+n)++[x]:=by
   rw[show sa+(n+1)=sa+n+1 by omega,jD (x:=x) (by rw[xr hl])];rw[List.take_set_of_le (CT _)]
  have e2:(a.toList.set (sa+n) x).drop (sa+(n+1)+l.length)=a.toList.drop (sa+n+(x::l).length):=by
   rw[List.drop_set_of_lt (by omega),c9];congr 1;omega
  rw[e1,e2];simp
theorem A3s (h:Q ⟨⟩ sx'):wpS M A E s (set sx':StateT mf Sem PUnit) Q sx:=by unfold wpS;rw[StateT.run_set];exact CJ ⟨rfl,h⟩
noncomputable def bf (r:lg->lg->Bool)(left:Bool)(key:lg)(l:List lg)(i:Nat):Bool:=match l[i]? with
 |some x=>if left=true then r x key else !r key x
 |none=>false
theorem xQ (tr:∀x y z,Le r x y->Le r y z->Le r x z)(sl:l.Pairwise (Le r))(g:∀i,i<n->ar[base+i]?=l[i]?)(hn:l.length=n)(hk:S key)(hS:∀x∈l,S x):Bey S r left key ar base n (bf r left key l):=by
 refine⟨λi hi=> ?_,λi j hij hj hb=> ?_,hk⟩
 ·have e:l[i]?=some l[i]:=cx (by omega);exact⟨l[i],(g i hi).trans e,hS _ (c5 _),by unfold bf;rw[e]⟩
 ·rcases i9 hij with rfl|CA
  ·exact hb
  have ei:l[i]?=some l[i]:=cx (by omega);have ej:l[j]?=some l[j]:=cx (by omega);have q:Le r l[i] l[j]:=gu.mp sl i j (by omega) (by omega) CA;unfold bf at hb⊢;rw[ej]at hb;rw[ei];cases left with
  |true=>
   simp only[if_true]at hb⊢;cases h3:r l[i] key with
   |true=>rfl
   |false=>
    have q3:Le r key l[j]:=tr _ _ _ h3 q;unfold Le at q3;rw[q3]at hb;exact nomatch hb
  |false=>
   simp only[km,if_false]at hb⊢;have q2:Le r l[j] key:=by unfold Le;simpa using hb
   have q3:Le r l[i] key:=tr _ _ _ q q2;unfold Le at q3;simp[q3]
noncomputable def mga:Nat->StateT mf Sem Bool:=mergeAt'
noncomputable def at' (a:Array lg)(i:Nat):lg:=(a[i]?).getD (ke,ke)
theorem qC (h:i<a.size):a[i]?=some (at' a i):=by unfold at';simp[h]
theorem A19 (h:i<a.size):at' a i∈a.toList:=by have:=qC h;rw[←kh]at this;exact fq this
theorem oI (O:Oc M A E s κ S r)(hk:qp sx=κ)(hS:∀x∈(qt sx).toList,S x)(hi:i<(qt sx).size)(hj:j<(qt sx).size)(h:Q (some (r (at' (qt sx) i) (at' (qt sx) j))) sx):wpS M A E s (ltAt' i j) Q sx:=by rw[ltAt'_eq];refine j8 (yi ?_);exact j8 (cU (qC hi) (j8 (cU (qC hj) (O _ _ _ _ (hS _ (A19 hi)) (hS _ (A19 hj)) hk h))))
theorem A8r (h:Q () (xj sx (mirror (qt sx) i j ((j - i)/2)))):wpS M A E s (reverseSlice' i j) Q sx:=by rw[reverseSlice'_eq];exact uf h
noncomputable def Up (r:lg->lg->Bool)(a:Array lg)(l0 n:Nat):Prop:=∀i,l0+1<=i->i<l0+n->r (at' a i) (at' a (i - 1))=false
theorem vM (h1:1<=n)(hn:n<=CG)(U:Up r a l0 n)
  (hf:∀x m (R:ForInStep (Option (Option Nat)×Nat)->mf->Prop),1<=m->m<CG->(r (at' a (l0+m)) (at' a (l0+m - 1))=true->R (.done (none,m)) sx)->(r (at' a (l0+m)) (at' a (l0+m - 1))=false->R (.yield (none,m+1)) sx)->wpS M A E s (f x (none,m)) R sx)
  (h:∀m,n<=m->m<=CG->Up r a l0 m->(m=CG\/r (at' a (l0+m)) (at' a (l0+m - 1))=true)->Q (none,m) sx):wpS M A E s (forIn [n:CG] (none,n) f) Q sx:=by
 refine r8 (n5 (I:=λx c sx'=>sx'=sx/\c=(none,x)/\x<=CG/\n<=x/\Up r a l0 x) (Q:=λc sx'=>sx'=sx/\∃m,c=(none,m)/\n<=m/\m<=CG/\Up r a l0 m/\(m=CG\/r (at' a (l0+m)) (at' a (l0+m - 1))=true)) ?_ ?_ ⟨rfl,rfl,hn,CT _,U⟩) ?_
 ·rintro x c _ h2 h3 ⟨rfl,rfl,h4,h5,U'⟩;refine hf x x _ (by omega) h3 (λq=> ⟨rfl,x,rfl,h5,h4,U',.inr q⟩) λq=> ⟨rfl,rfl,by omega,by omega,λi h6 h7=> ?_⟩;rcases jh i (l0+x)with h8|h8
  ·exact U' i h6 h8
  ·obtain rfl:i=l0+x:=by omega
   exact q
 ·rintro c _ ⟨rfl,rfl,h4,h5,U'⟩;exact⟨rfl,_,rfl,h5,h4,U',.inl (by omega)⟩
 ·rintro c _ ⟨rfl,m,rfl,h4,h5,U',h6⟩;exact h m h4 h5 U' h6
theorem Up.le (tr:∀x y z,Le r x y->Le r y z->Le r x z)(U:Up r a l0 n):∀d i,l0<=i->i+d+1<l0+n->Le r (at' a i) (at' a (i+d+1))
 |0,i,h1,h2=>U (i+1) (by omega) (by omega)
 |d+1,i,h1,h2=>tr _ _ _ (Up.le tr U d i h1 (by omega)) (U (i+d+2) (by omega) (by omega))
noncomputable def Di (r:lg->lg->Bool)(a:Array lg):Prop:=∀i j,i<j->j<a.size->r (at' a i) (at' a j)=true\/r (at' a j) (at' a i)=true
theorem A9g (O:Oc M A E s κ S r)(hk:qp sx=κ)(ha:qt sx=a)(hS:∀x∈a.toList,S x)(D:Di r a)(tr:∀x y z,Le r x y->Le r y z->Le r x z)(as:∀x y,r x y=true->Le r x y)(h1:1<=CG)(hz:l0+CG<=a.size)
  (h:∀m a',1<=m->m<=CG->a'.Perm a->(∀i,i<l0->a'[i]?=a[i]?)->Up r a' l0 m->Q (some m) (xj sx a')):wpS M A E s (countRun' l0 CG) Q sx:=by
 have step:∀{sx:mf}{a:Array lg}(m:Nat){R:Option Bool->mf->Prop},qp sx=κ->qt sx=a->(∀x∈a.toList,S x)->l0+CG<=a.size->1<=m->m<CG->R (some (r (at' a (l0+m)) (at' a (l0+m - 1)))) sx->wpS M A E s (ltAt' (l0+m) (l0+m - 1)) R sx:=by
  intro sx a m R hk ha hS hz h1 h2 hR;subst ha;exact oI O hk hS (by omega) (by omega) hR
 have same:xj sx a=sx:=by subst ha;rfl
 refine j8 (vM (a:=a) (l0:=l0) (r:=r) (CT 1) h1 (λi h2 h3=>by omega) (λx m R m1 m2 r1 r2=> ?_) λm m1 m2 U mx=> ?_)
 ·refine j8 (step m hk ha hS hz m1 m2 ?_);cases hr:r (at' a (l0+m)) (at' a (l0+m - 1))with
  |true=>exact ka (r1 hr)
  |false=>exact ka (r2 hr)
 dsimp only
 by_cases f1:(m==CG)=true
 ·rw[if_pos f1];have q:=h m a m1 m2 (ve _) (λ_ _=>rfl) U;rw[same]at q;exact ka q
 rw[if_neg f1];have f1':¬m=CG:=λq=>f1 (by rw[q];exact beq_self_eq_true _);by_cases f2:m>1
 ·rw[if_pos f2];refine j8 (oI O hk (by rw[ha];exact hS) (by rw[ha];omega) (by rw[ha];omega) ?_);rw[ha];have q1:Le r (at' a l0) (at' a (l0+m - 1)):=by
   have:=Up.le tr U (m - 2) l0 (CT _) (by omega);rw[show l0+(m - 2)+1=l0+m - 1 by omega]at this;exact this
  have q2:r (at' a l0) (at' a (l0+m - 1))=true:=(D l0 (l0+m - 1) (by omega) (by omega)).elim id λq=>by unfold Le at q1;rw[q1]at q;exact nomatch q
  rw[q2];have q:=h m a m1 m2 (ve _) (λ_ _=>rfl) U;rw[same]at q;exact ka q
 rw[if_neg f2];obtain rfl:m=1:=by omega
 have d1:r (at' a (l0+1)) (at' a l0)=true:=mx.elim (λq=>absurd q f1') λq=>by rw[show l0+1 - 1=l0 by omega]at q;exact q
 refine j8 (AO (pj ⟨rfl,?_⟩));refine j8 (r8 (n5 (I:=λx c sx'=>sx'=sx/\c=(none,x,0)/\x<=CG/\2<=x/\∀i,l0+1<=i->i<l0+x->r (at' a i) (at' a (i - 1))=true)
  (Q:=λc sx'=>sx'=sx/\∃x,c=(none,x,0)/\x<=CG/\2<=x/\∀i,l0+1<=i->i<l0+x->r (at' a i) (at' a (i - 1))=true) ?_ ?_ ⟨rfl,rfl,by omega,CT _,λi h3 h4=> ?_⟩) ?_)
 ·rintro x c _ h3 h4 ⟨rfl,rfl,h5,h6,V⟩;dsimp only
  refine j8 (step x hk ha hS hz (by omega) h4 ?_);cases hr:r (at' a (l0+x)) (at' a (l0+x - 1))with
  |true=>
   refine ka ⟨rfl,rfl,by omega,by omega,λi h7 h8=> ?_⟩;rcases jh i (l0+x)with h9|h9
   ·exact V i h7 h9
   ·obtain rfl:i=l0+x:=by omega
    exact hr
  |false=>
   refine j8 (oI O hk (by rw[ha];exact hS) (by rw[ha];omega) (by rw[ha];omega) ?_);rw[ha];have q2:r (at' a (l0+x - 1)) (at' a (l0+x))=true:=(D (l0+x - 1) (l0+x) (by omega) (by omega)).elim id λq=>by rw[hr]at q;exact nomatch q
   rw[q2];exact ka ⟨rfl,x,rfl,h5,h6,V⟩
 ·rintro c _ ⟨rfl,rfl,h5,h6,V⟩;exact⟨rfl,_,rfl,h5,h6,V⟩
 ·obtain rfl:i=l0+1:=by omega
  rw[show l0+1 - 1=l0 by omega];exact d1
 rintro c sx ⟨rfl,x,rfl,h5,h6,V⟩;dsimp only
 rw[if_neg (by omega)];refine j8 (A8r ?_);have eM:∀k,(mirror (qt sx) l0 (l0+x) ((l0+x - l0)/2))[k]?=if l0<=k/\k<l0+x then a[l0+(l0+x) - 1 - k]? else a[k]?:=λk=>by
  rw[ha];exact getElem?_mirror_all (by omega) k
 have pM:(mirror (qt sx) l0 (l0+x) ((l0+x - l0)/2)).Perm a:=by rw[ha];exact mirror_perm _ _ _ _
 generalize mirror (qt sx) l0 (l0+x) ((l0+x - l0)/2)=a' at eM pM⊢;have zM:a'.size=a.size:=pM.size_eq;have U':Up r a' l0 x:=λi h7 h8=>by
  have e1:at' a' i=at' a (l0+(l0+x) - 1 - i):=by unfold at';rw[eM i,if_pos ⟨by omega,by omega⟩]
  have e2:at' a' (i - 1)=at' a (l0+(l0+x) - 1 -(i - 1)):=by unfold at';rw[eM (i - 1),if_pos ⟨by omega,by omega⟩]
  have q:=V (l0+(l0+x) - 1 -(i - 1)) (by omega) (by omega);rw[show l0+(l0+x) - 1 -(i - 1) - 1=l0+(l0+x) - 1 - i by omega]at q;rw[e1,e2];exact as _ _ q
 have hS':∀y∈a'.toList,S y:=λy hy=>hS y (pM.toList.mem_iff.mp hy);refine j8 (vM (sx:=xj sx a') (a:=a') (l0:=l0) (r:=r) (by omega) h5 U' (λz m R m1 m2 r1 r2=> ?_) λm m1 m2 U2 _=> ?_)
 ·refine j8 (step (sx:=xj sx a') (a:=a') m hk rfl hS' (by rw[zM];exact hz) m1 m2 ?_);cases hr:r (at' a' (l0+m)) (at' a' (l0+m - 1))with
  |true=>exact ka (r1 hr)
  |false=>exact ka (r2 hr)
 ·exact ka (h m a' (by omega) m2 pM (λi hi=>by rw[eM i,if_neg (by omega)]) U2)
theorem B43 (h:Q () (xj sx (Cb (qt sx) i (i - j)))):wpS M A E s (moveDown' i j) Q sx:=by rw[moveDown'_eq];exact uf h
theorem B1g (ha:qt sx=a)(O:Oc M A E s κ S r)(hk:qp sx=κ)(hS:∀x∈a.toList,S x)(hi:i<a.size)(hj:j<a.size)(h:Q (some (r (at' a i) (at' a j))) sx):wpS M A E s (ltAt' i j) Q sx:=by subst ha;exact oI O hk hS hi hj h
theorem Up.le' (tr:∀x y z,Le r x y->Le r y z->Le r x z)(U:Up r a l0 n)(h1:l0<=i)(h2:i<j)(h3:j<l0+n):Le r (at' a i) (at' a j):=by have:=Up.le tr U (j - i - 1) i h1 (by omega);rw[show i+(j - i - 1)+1=j by omega]at this;exact this
theorem A6s (O:Oc M A E s κ S r)(hk:qp sx=κ)(ha:qt sx=a)(hS:∀x∈a.toList,S x)(tr:∀x y z,Le r x y->Le r y z->Le r x z)(as:∀x y,r x y=true->Le r x y)(hn:1<=n)(hok:ok<=n)(hz:l0+n<=a.size)(U:Up r a l0 ok)
  (h:∀a',a'.Perm a->(∀i,i<l0->a'[i]?=a[i]?)->Up r a' l0 n->Q true (xj sx a')):wpS M A E s (binarySort' l0 n ok) Q sx:=by
 have same:xj sx a=sx:=by subst ha;rfl
 refine j8 (r8 (n5 (I:=λx c sx'=> ∃a',sx'=xj sx a'/\c=(none,())/\a'.Perm a/\(∀i,i<l0->a'[i]?=a[i]?)/\Up r a' l0 x)
  (Q:=λc sx'=> ∃a',sx'=xj sx a'/\c=(none,())/\a'.Perm a/\(∀i,i<l0->a'[i]?=a[i]?)/\Up r a' l0 n) ?_ ?_ ⟨a,same.symm,rfl,ve _,λ_ _=>rfl,λi h1 h2=> ?_⟩) ?_)
 ·rintro k c _ h1 h2 ⟨b,rfl,rfl,pb,fb,V⟩;have zb:b.size=a.size:=pb.size_eq;have Sb:∀y∈b.toList,S y:=λy hy=>hS y (pb.toList.mem_iff.mp hy);dsimp only
  refine j8 (r8 (n5 (I:=λx c sx'=>sx'=xj sx b/\∃l e,c=(none,l,e)/\l<=e/\e<=k/\(∀i,i<l->r (at' b (l0+k)) (at' b (l0+i))=false)/\(∀i,e<=i->i<k->r (at' b (l0+k)) (at' b (l0+i))=true)/\e - l+x<=k)
   (Q:=λc sx'=>sx'=xj sx b/\∃l e,c=(none,l,e)/\l<=k/\(∀i,i<l->r (at' b (l0+k)) (at' b (l0+i))=false)/\(∀i,l<=i->i<k->r (at' b (l0+k)) (at' b (l0+i))=true)) ?_ ?_ ⟨rfl,0,k,rfl,js _,CT _,λi hi=>absurd hi (Nat.not_lt_zero _),λi h3 h4=>by omega,by omega⟩) ?_)
  ·rintro x c _ _ hx ⟨rfl,l,e,rfl,g1,g2,g3,g4,g5⟩;dsimp only
   by_cases f1:l≥e
   ·rw[if_pos f1];exact ka ⟨rfl,l,e,rfl,by omega,g3,λi h3 h4=>g4 i (by omega) h4⟩
   rw[if_neg f1];refine j8 (B1g (sx:=xj sx b) (a:=b) (i:=l0+k) (j:=l0+(l+e)/2) rfl O hk Sb (by omega) (by omega) ?_);cases hr:r (at' b (l0+k)) (at' b (l0+(l+e)/2))with
   |true=>
    refine ka ⟨rfl,l,_,rfl,by omega,by omega,g3,λi h3 h4=> ?_,by omega⟩;rcases i9 h3 with rfl|h5
    ·exact hr
    ·have q:=Up.le' tr V (i:=l0+(l+e)/2) (j:=l0+i) (by omega) (by omega) (by omega);cases hc:r (at' b (l0+k)) (at' b (l0+i))with
     |true=>rfl
     |false=>have q2:=tr _ _ _ q hc;unfold Le at q2;rw[q2]at hr;exact nomatch hr
   |false=>
    refine ka ⟨rfl,_,e,rfl,by omega,g2,λi h3=> ?_,g4,by omega⟩;rcases jh i ((l+e)/2)with h5|h5
    ·exact tr _ _ _ (Up.le' tr V (i:=l0+i) (j:=l0+(l+e)/2) (by omega) (by omega) (by omega)) hr
    ·obtain rfl:i=(l+e)/2:=by omega
     exact hr
  ·rintro c _ ⟨rfl,l,e,rfl,g1,g2,g3,g4,g5⟩;exact⟨rfl,l,e,rfl,by omega,g3,λi h3 h4=>g4 i (by omega) h4⟩
  ·rintro c _ ⟨rfl,l,e,rfl,g1,g3,g4⟩;dsimp only
   refine j8 (B43 (ka ?_));have eB:∀j,(Cb b (l0+k) (k - l))[j]?=if j=l0+l then b[l0+k]? else if l0+l<j/\j<=l0+k then b[j - 1]? else b[j]?:=λj=>by
    have:=getElem?_bubble (xs:=b) (src:=l0+k) (by omega) (k - l) (by omega) j;rw[show l0+k -(k - l)=l0+l by omega]at this;exact this
   refine⟨Cb b (l0+k) (k - l),?_,rfl,(bubble_perm _ _ _).trans pb,λi hi=> ?_,λi h3 h4=> ?_⟩
   ·show xj sx (Cb b (l0+k) (l0+k -(l0+l)))=_;rw[show l0+k -(l0+l)=k - l by omega]
   ·rw[eB i,if_neg (by omega),if_neg (by omega)];exact fb i hi
   ·have ev:∀j,at' (Cb b (l0+k) (k - l)) j=if j=l0+l then at' b (l0+k)else if l0+l<j/\j<=l0+k then at' b (j - 1)else at' b j:=λj=>by
     unfold at';rw[eB j];split;rfl;split;rfl;rfl
    rw[ev i,ev (i - 1)];by_cases c1:i=l0+l
    ·rw[if_pos c1,if_neg (by omega),if_neg (by omega),show i - 1=l0+(l - 1) by omega];exact g3 (l - 1) (by omega)
    rw[if_neg c1];by_cases c2:i<l0+l
    ·rw[if_neg (by omega),if_neg (by omega),if_neg (by omega)];exact V i h3 (by omega)
    rw[if_pos ⟨by omega,by omega⟩];by_cases c3:i - 1=l0+l
    ·rw[if_pos c3,c3];exact as _ _ (g4 l (CT _) (by omega))
    ·rw[if_neg c3,if_pos ⟨by omega,by omega⟩];exact V (i - 1) (by omega) (by omega)
 ·rintro c _ ⟨b,rfl,rfl,pb,fb,V⟩;exact⟨b,rfl,rfl,pb,fb,λi h1 h2=>V i h1 (by omega)⟩
 ·rcases jh ok 1 with h3|h3
  ·omega
  ·exact U i h1 (by omega)
 ·rintro c _ ⟨b,rfl,rfl,pb,fb,V⟩;exact ka (h b pb fb V)
theorem A7e (O:Oc M A E s κ S r)(hk:qp sx=κ)(hp1:(xm sx)[i]?=some (sa,n1,p))(hp2:(xm sx)[i+1]?=some (sa+n1,n2,q))(hf:w6 sx=none)(ea:(qt sx).toList=pre++(la++(lb++post)))(h0:pre.length=sa)(h1:la.length=n1)(h2:lb.length=n2)(n1p:1<=n1)(n2p:1<=n2)
  (tr:∀x y z,Le r x y->Le r y z->Le r x z)(as:∀x y,r x y=true->Le r x y)(sl:la.Pairwise (Le r))(sb:lb.Pairwise (Le r))(hS:∀x∈(qt sx).toList,S x)
  (h:∀sx' m,(qt sx').toList=pre++(m++post)->m.Perm (la++lb)->m.Pairwise (Le r)->qp sx'=κ->xm sx'=((xm sx).setIfInBounds i (sa,n1+n2,p)).eraseIdxIfInBounds (i+1)->w6 sx'=none->Q true sx'):wpS M A E s (mga i) Q sx:=by
 obtain⟨kd,ar,pd,gp,fl⟩:=sx;have hp1:pd[i]?=some (sa,n1,p):=hp1;have hp2:pd[i+1]?=some (sa+n1,n2,q):=hp2;have hf:fl=none:=hf;have hk:kd=κ:=hk;have ea:ar.toList=pre++(la++(lb++post)):=ea;have sE:∀x∈ar.toList,S x:=hS;subst hf hk;have hz:ar.size=sa+n1+n2+post.length:=by rw[←k5,ea,c8,c8,c8,h0,h1,h2];omega
 have hSa:∀x∈la,S x:=λx hx=>sE x (by rw[ea];exact fc _ (d9 _ hx));have hSb:∀x∈lb,S x:=λx hx=>sE x (by rw[ea];exact fc _ (fc _ (d9 _ hx)));refine j8 (yi ?_);dsimp only
 rw[hp1,hp2];dsimp only
 refine j8 (A3s ?_);obtain⟨b0,eb,eb',mb⟩:=fW (a:=ar) (i:=sa+n1) (by omega);refine j8 (cU eb ?_);have ga:∀i,i<n1->ar[sa+i]?=la[i]?:=λi hi=>by
  rw[←kh,ea,cq (by omega),cp (by omega)];congr 1;omega
 have gb:∀i,i<n2->ar[sa+n1+i]?=lb[i]?:=λi hi=>by
  rw[←kh,ea,cq (by omega),cq (by omega),cp (by omega)];congr 1;omega
 have eb0:lb[0]?=some b0:=by rw[←gb 0 (by omega)];exact eb
 have done:(∀x∈la,Le r x b0)->Q true (n6 kd ar ((pd.setIfInBounds i (sa,n1+n2,p)).eraseIdxIfInBounds (i+1)) gp none):=λhx=>by
  refine h _ (la++lb) (by show ar.toList=_;rw[ea,aj]) (BN _) ?_ rfl rfl rfl;exact gq.mpr ⟨sl,sb,λx hx' y hy=>kX tr sb eb0 (hx x hx') y (by rw[ax];exact hy)⟩
 refine j8 (kN O hk.symm (xQ tr sl ga h1 (sE b0 mb) hSa) n1p λk k1 k2 k3=> ?_);dsimp only
 have lowk:∀x∈la.take k,Le r x b0:=λx hx=>by
  obtain⟨i,hi,e⟩:=fj.mp hx;have hi':i<k:=by rw[du]at hi;omega
  have:=k2 i hi';have e':la[i]?=some x:=by rw[c7]at e;rw[←e];exact cx _
  unfold bf at this;rw[e']at this;unfold Le;simpa using this
 have upk:∀x∈la.drop k,Le r b0 x:=λx hx=>by
  obtain⟨i,hi,e⟩:=fj.mp hx;have hi':k+i<n1:=by rw[de]at hi;omega
  have:=k3 (k+i) (by omega) hi';have e':la[k+i]?=some x:=by rw[cz]at e;rw[←e];exact cx _
  unfold bf at this;rw[e']at this;exact as _ _ (by simpa using this)
 by_cases f1:(n1 - k==0)=true
 ·rw[if_pos f1];have f1':n1 - k=0:=by simpa using f1
  exact ka (done λx hx=>lowk x (by rw[iq (by omega)];exact hx))
 rw[if_neg f1];have f1':¬n1 - k=0:=λq=>f1 (by rw[q];rfl);obtain⟨ky,ek,ek',mk⟩:=fW (a:=ar) (i:=sa+k+(n1 - k) - 1) (by omega);have eka:la[n1 - 1]?=some ky:=by rw[←ga (n1 - 1) (by omega),show sa+(n1 - 1)=sa+k+(n1 - k) - 1 by omega];exact ek
 have allk:∀x∈la,Le r x ky\/x=ky:=λx hx=>by
  have sx:=sl;have e0:la=la.take (n1 - 1)++[ky]:=by rw[←jD eka,show n1 - 1+1=n1 by omega,iq (by omega)]
  rw[e0]at sx hx;rcases d8.mp hx with hx|hx
  ·exact .inl ((gq.mp sx).2.2 x hx ky CQ)
  ·exact .inr (by simpa using hx)
 refine j8 (cU ek (j8 (kN O hk.symm (xQ tr sb gb h2 (sE ky mk) hSb) (by omega) λnb b1 b2 b3=> ?_)));dsimp only
 have lowb:∀y∈lb.take nb,Le r y ky:=λy hy=>by
  obtain⟨i,hi,e⟩:=fj.mp hy;have hi':i<nb:=by rw[du]at hi;omega
  have:=b2 i hi';have e':lb[i]?=some y:=by rw[c7]at e;rw[←e];exact cx _
  unfold bf at this;rw[e']at this;exact as _ _ (by simpa using this)
 have upb:∀y∈lb.drop nb,Le r ky y:=λy hy=>by
  obtain⟨i,hi,e⟩:=fj.mp hy;have hi':nb+i<n2:=by rw[de]at hi;omega
  have:=b3 (nb+i) (by omega) hi';have e':lb[nb+i]?=some y:=by rw[cz]at e;rw[←e];exact cx _
  unfold bf at this;rw[e']at this;simpa[Le]using this
 by_cases f2:(nb==0)=true
 ·rw[if_pos f2];have f2':nb=0:=by simpa using f2
  have q0:Le r ky b0:=upb b0 (by rw[f2',ax];exact fq eb0);exact ka (done λx hx=>(allk x hx).elim (λq=>tr _ _ _ q q0) λq=>by rw[q];exact q0)
 rw[if_neg f2];have f2':¬nb=0:=λq=>f2 (by rw[q];rfl);have xa:(ar.extract (sa+k) (sa+n1)).toList=la.drop k:=by
  rw[iO,ea,←h0,List.drop_append,av (by omega),f6,show pre.length+k - pre.length=k by omega,yn (by omega),uu (by rw[de];omega),iq (by rw[de];omega)]
 have xb:(ar.extract (sa+n1) (sa+n1+nb)).toList=lb.take nb:=by
  rw[iO,ea,←aj,show sa+n1=(pre++la).length by rw[c8,h0,h1],List.drop_left,uu (by omega)];congr 1;omega
 have mi:Mi S r (ar.extract (sa+k) (sa+n1)) (ar.extract (sa+n1) (sa+n1+nb)):=by
  refine⟨tr,as,?_,?_,?_,?_,?_,?_,?_,?_⟩
  ·rw[xa];exact sl.sublist (aw _ _)
  ·rw[xb];exact sb.sublist (ir _ _)
  ·rw[xa];exact λx hx=>hSa x (ft hx)
  ·rw[xb];exact λx hx=>hSb x (fu hx)
  ·rw[←len,xa,de];omega
  ·rw[←len,xb,du];omega
  ·rw[xa,xb];intro x hx y hy;have:y=b0:=by rw[uc (by omega),eb0]at hy;exact(j7 hy).symm
   rw[this];exact upk x hx
  ·rw[←len,xa,xb];intro y hy x hx;have:x=ky:=by
    rw[cv,de,show k+(la.length - k - 1)=n1 - 1 by omega,eka]at hx;exact(j7 hx).symm
   rw[this];exact lowb y hy
 have fin:∀(l:Array lg)(g:Nat),Md (Le r) (ar.extract (sa+k) (sa+n1)).toList (ar.extract (sa+n1) (sa+n1+nb)).toList l.toList->
   Q true (n6 kd (l.toList.zipIdx.foldl (λa x=>a.setIfInBounds (sa+k+x.snd) x.fst) ar) ((pd.setIfInBounds i (sa,n1+n2,p)).eraseIdxIfInBounds (i+1)) g none):=by
  intro l g hl;rw[xa,xb]at hl;have ll:l.toList.length=n1 - k+nb:=by rw[hl.1.length_eq,c8,de,du];omega
  have e:=xF (sa+k) l.toList 0 ar (by rw[ll];omega);have e1:(l.toList.zipIdx.foldl (λa (x:lg×Nat)=>a.setIfInBounds (sa+k+x.snd) x.fst) ar).toList=pre++((la.take k++l.toList++lb.drop nb)++post):=by
   refine e.trans ?_;have d1:ar.toList.take (sa+k+0)=pre++la.take k:=by
    rw[ea,List.take_append,iq (by omega),show sa+k+0 - pre.length=k by omega,uu (by omega)]
   have d2:ar.toList.drop (sa+k+0+l.toList.length)=lb.drop nb++post:=by
    rw[ea,←aj,show sa+k+0+l.toList.length=(pre++la).length+nb by rw[c8];omega,List.drop_append,av (by omega),f6,show(pre++la).length+nb -(pre++la).length=nb by omega,yn (by omega)]
   rw[d1,d2];simp only[aj]
  refine h _ _ e1 ?_ ?_ rfl rfl rfl
  ·refine((l7 _ hl.1).append_right _).trans (xf ?_);rw[←aj,ip,aj,ip]
  ·skip
   have s1:(la.take k++la.drop k).Pairwise (Le r):=by rw[ip];exact sl
   have s2:(lb.take nb++lb.drop nb).Pairwise (Le r):=by rw[ip];exact sb
   have hlm:∀z∈l.toList,z∈la.drop k\/z∈lb.take nb:=λz hz=>d8.mp (hl.1.mem_iff.mp hz);have allb:∀x,Le r x b0->∀y∈lb,Le r x y:=λx hx y hy=>kX tr sb eb0 hx y (by rw[ax];exact hy);refine gq.mpr ⟨gq.mpr ⟨(gq.mp s1).1,hl.2,λx hx z hz=> ?_⟩,(gq.mp s2).2.1,λx hx z hz=> ?_⟩
   ·rcases hlm z hz with hz|hz
    ·exact(gq.mp s1).2.2 x hx z hz
    ·exact allb x (lowk x hx) z (fu hz)
   ·rcases d8.mp hx with hx|hx
    ·exact allb x (lowk x hx) z (ft hz)
    ·rcases hlm x hx with hx|hx
     ·exact(allk x (ft hx)).elim (λq=>tr _ _ _ q (upb z hz)) λq=>by rw[q];exact upb z hz
     ·exact(gq.mp s2).2.2 x hx z hz
 by_cases f3:n1 - k<=nb
 ·rw[if_pos f3];exact j8 (A91 O hk.symm mi λl g hl=>j8 (uf (j8 (yi (ka (fin l g hl))))))
 ·rw[if_neg f3];exact j8 (A8p O hk.symm mi λl g hl=>j8 (uf (j8 (yi (ka (fin l g hl))))))
noncomputable def Ne (r:lg->lg->Bool)(x y:lg):Prop:=r x y=true\/r y x=true
theorem lO (h:i<a.toList.length):a.toList[i]=at' a i:=by
 have h':i<a.size:=by rw[←k5];exact h
 unfold at';simp[h']
theorem A64 (h:a.toList.Pairwise (Ne r)):Di r a:=λi j hij hj=>by
 have hl:a.toList.length=a.size:=k5;have q:=gu.mp h i j (by omega) (by omega) hij;rw[lO,lO]at q;exact q
theorem B00 {a':Array lg}(h:a.toList.Pairwise (Ne r))(p:a'.Perm a):a'.toList.Pairwise (Ne r):=
 (m7.pairwise_iff (fun{x y} (q:Ne r x y)=>q.symm) p.toList).mpr h
theorem Up.pw (tr:∀x y z,Le r x y->Le r y z->Le r x z)(U:Up r a l0 n)(hz:l0+n<=a.size):((a.toList.drop l0).take n).Pairwise (Le r):=by refine gu.mpr λi j hi hj hij=> ?_;rw[du]at hi hj;rw[c7,c7,cz,cz,lO,lO];exact Up.le' tr U (by omega) (by omega) (by omega)
theorem Up.of (U:Up r a l0 n)(h:∀i,l0<=i->i<l0+n->a'[i]?=a[i]?):Up r a' l0 n:=λi h1 h2=>by
 have e:∀i,l0<=i->i<l0+n->at' a' i=at' a i:=λi h1 hi=>by unfold at';rw[h i h1 hi]
 rw[e i (by omega) (by omega),e (i - 1) (by omega) (by omega)];exact U i h1 h2
theorem Up.to (e:a'.toList=pre++(m++post))(sm:m.Pairwise (Le r)):Up r a' pre.length m.length:=λi h1 h2=>by
 have g:∀k,pre.length<=k->k<pre.length+m.length->some (at' a' k)=m[k - pre.length]?:=λk h1 h2=>by
  have hl:k<a'.toList.length:=by rw[e,c8,c8];omega
  rw[←lO hl,←cx hl,e,cq h1,cp (by omega)]
 have g1:=g i (by omega) (by omega);have g2:=g (i - 1) (by omega) (by omega);rw[cx (by omega)]at g1 g2;rw[j7 g1,j7 g2];exact gu.mp sm (i - 1 - pre.length) (i - pre.length) (by omega) (by omega) (by omega)
noncomputable def Runs (r:lg->lg->Bool)(a:Array lg):Nat->List (Nat×Nat×Nat)->Nat->Prop
 |l0,[],hi=>l0=hi
 |l0,z::t,hi=>z.1=l0/\1<=z.2.1/\Up r a l0 z.2.1/\Runs r a (l0+z.2.1) t hi
theorem Runs.len:∀{l:List (Nat×Nat×Nat)}{l0 hi:Nat},Runs r a l0 l hi->l0+l.length<=hi
 | [],l0,hi,h=>by have h:l0=hi:=h;rw[dk];omega
 |z::t,l0,hi,h=>by
  have:=Runs.len h.2.2.2;have:=h.2.1;rw[c9];omega
theorem Runs.of:∀{l:List (Nat×Nat×Nat)}{l0 hi:Nat},Runs r a l0 l hi->(∀i,l0<=i->i<hi->a'[i]?=a[i]?)->Runs r a' l0 l hi
 | [],l0,hi,h,_=>h
 |z::t,l0,hi,h,g=>by
  have:=Runs.len h.2.2.2;exact⟨h.1,h.2.1,h.2.2.1.of λi h1 h2=>g i h1 (by omega),Runs.of h.2.2.2 λi h1 h2=>g i (by omega) h2⟩
theorem Runs.split:∀{l:List (Nat×Nat×Nat)}{t:List (Nat×Nat×Nat)}{l0 hi:Nat},Runs r a l0 (l++t) hi->∃mid,Runs r a l0 l mid/\Runs r a mid t hi
 | [],t,l0,hi,h=> ⟨l0,rfl,h⟩
 |z::l,t,l0,hi,h=>by
  obtain⟨mid,h1,h2⟩:=Runs.split (l:=l) h.2.2.2;exact⟨mid,⟨h.1,h.2.1,h.2.2.1,h1⟩,h2⟩
theorem Runs.join:∀{l:List (Nat×Nat×Nat)}{t:List (Nat×Nat×Nat)}{l0 mid hi:Nat},Runs r a l0 l mid->Runs r a mid t hi->Runs r a l0 (l++t) hi
 | [],t,l0,mid,hi,h,h2=>by have h:l0=mid:=h;subst h;exact h2
 |z::l,t,l0,mid,hi,h,h2=> ⟨h.1,h.2.1,h.2.2.1,Runs.join h.2.2.2 h2⟩
theorem Runs.cg:∀{l t:List (Nat×Nat×Nat)}{l0 hi:Nat},l.map (λz=>(z.1,z.2.1))=t.map (λz=>(z.1,z.2.1))->Runs r a l0 l hi->Runs r a l0 t hi
 | [],[],_,_,_,h=>h
 | [],_::_,_,_,e,_=>by cases e
 |_::_,[],_,_,e,_=>by cases e
 |z::l,y::t,l0,hi,e,h=>by
  rw[d6,d6]at e;injection e with e1 e2
  injection e1 with e3 e4;refine⟨by rw[←e3];exact h.1,by rw[←e4];exact h.2.1,by rw[←e4];exact h.2.2.1,?_⟩;rw[←e4];exact Runs.cg e2 h.2.2.2
theorem A6o {α:Type}{pd:Array α}{i:Nat}(h:i+1<pd.size):∃x y l1 l2,pd.toList=l1++x::y::l2/\l1.length=i/\pd[i]?=some x/\pd[i+1]?=some y/\∀z,((pd.setIfInBounds i z).eraseIdxIfInBounds (i+1)).toList=l1++z::l2:=by
 have hl:i+1<pd.toList.length:=by rw[k5];exact h
 have e:pd.toList=pd.toList.take i++pd.toList[i]::pd.toList[i+1]::pd.toList.drop (i+2):=by
  rw[←sk hl,←sk (by omega),ip]
 refine⟨pd.toList[i],pd.toList[i+1],pd.toList.take i,pd.toList.drop (i+2),e,by rw[du];omega,?_,?_,λz=> ?_⟩
 ·rw[←kh,cx]
 ·rw[←kh,cx]
 ·have e2:((pd.setIfInBounds i z).eraseIdxIfInBounds (i+1)).toList=(pd.toList.set i z).eraseIdx (i+1):=by
   unfold Array.eraseIdxIfInBounds;rw[dif_pos (by rw[Ax];exact h),Array.toList_eraseIdx];simp
  rw[e2];generalize pd.toList[i]=x at e;generalize pd.toList[i+1]=y at e;have hi:(pd.toList.take i).length=i:=by rw[du];omega
  generalize pd.toList.take i=l1 at e hi⊢;generalize pd.toList.drop (i+2)=l2 at e⊢;rw[e];rw[List.set_append_right _ _ (by omega),hi,Nat.sub_self,List.set_cons_zero,List.eraseIdx_append_of_length_le (by omega),hi,show i+1 - i=1 by omega];rfl
theorem vI {Q:Bool->mf->Prop}{pd:Array (Nat×Nat×Nat)}{g i hi:Nat}(O:Oc M A E s κ S r)(tr:∀x y z,Le r x y->Le r y z->Le r x z)(as:∀x y,r x y=true->Le r x y)(hS:∀x∈a.toList,S x)(hz:hi<=a.size)(R:Runs r a 0 pd.toList hi)(hi':i+1<pd.size)
  (h:∀a' pd' g',a'.Perm a->(∀k,hi<=k->a'[k]?=a[k]?)->Runs r a' 0 pd'.toList hi->pd'.size+1=pd.size->Q true (n6 κ a' pd' g' none)):wpS M A E s (mga i) Q (n6 κ a pd g none):=by
 obtain⟨⟨sa,n1,p⟩,⟨sb,n2,q⟩,l1,l2,e,hl,e1,e2,e3⟩:=A6o hi';rw[e]at R;obtain⟨mid,R1,R2⟩:=R.split;have R2:sa=mid/\1<=n1/\Up r a mid n1/\sb=mid+n1/\1<=n2/\Up r a (mid+n1) n2/\Runs r a (mid+n1+n2) l2 hi:=R2;obtain⟨rfl,x2,x3,rfl,y2,y3,R3⟩:=R2;have R3l:=R3.len;have al:a.toList.length=a.size:=k5;have ea:a.toList=a.toList.take sa++((a.toList.drop sa).take n1++((a.toList.drop (sa+n1)).take n2++a.toList.drop (sa+n1+n2))):=by
  have d1:(a.toList.drop (sa+n1)).take n2++a.toList.drop (sa+n1+n2)=a.toList.drop (sa+n1):=by rw[←List.drop_drop (i:=n2),ip]
  have d2:(a.toList.drop sa).take n1++a.toList.drop (sa+n1)=a.toList.drop sa:=by rw[←List.drop_drop (i:=n1),ip]
  rw[d1,d2,ip]
 have hl0:(a.toList.take sa).length=sa:=by rw[du];omega
 refine A7e (i:=i) O rfl e1 e2 rfl ea hl0 (by rw[du,de];omega) (by rw[du,de];omega) x2 y2 tr as (x3.pw tr (by omega)) (y3.pw tr (by omega)) hS λsx' m a1 a2 a3 a4 a5 a6=> ?_;obtain⟨kd,ar',pd',g',fl⟩:=sx';replace a1:ar'.toList=a.toList.take sa++(m++a.toList.drop (sa+n1+n2)):=a1;replace a4:kd=κ:=a4;replace a5:pd'=(pd.setIfInBounds i (sa,n1+n2,p)).eraseIdxIfInBounds (i+1):=a5;replace a6:fl=none:=a6;subst a4 a6;have ml:m.length=n1+n2:=by rw[a2.length_eq,c8,du,du,de,de];omega
 have hpd:pd'.toList=l1++(sa,n1+n2,p)::l2:=by rw[a5];exact e3 _
 have low:∀k,k<sa->ar'[k]?=a[k]?:=λk hk=>by
  rw[←kh,←kh,a1,cp (by omega),uc hk]
 have up:∀k,sa+n1+n2<=k->ar'[k]?=a[k]?:=λk hk=>by
  rw[←kh,←kh,a1,cq (by omega),cq (by omega),cv];congr 1;omega
 refine h ar' pd' g' ?_ (λk hk=>up k (by omega)) ?_ ?_
 ·rw[oy,a1];have pm:a.toList.Perm (a.toList.take sa++(((a.toList.drop sa).take n1++(a.toList.drop (sa+n1)).take n2)++a.toList.drop (sa+n1+n2))):=by
   rw[aj,←ea]
  exact(l7 _ (a2.append_right _)).trans pm.symm
 ·rw[hpd];refine Runs.join (mid:=sa) (R1.of λk _ hk=>low k hk) ⟨rfl,by show 1<=n1+n2;omega,?_,?_⟩
  ·have:=Up.to (r:=r) a1 a3;rw[hl0,ml]at this;exact this
  ·show Runs r ar' (sa+(n1+n2)) l2 hi;rw[←add_assoc];exact R3.of λk hk _=>up k hk
 ·have z1:=congrArg pk hpd;have z2:=congrArg pk e;simp only[c8,c9,k5]at z1 z2;omega
theorem wp_runs {Q:Unit->mf->Prop}(O:Oc M A E s κ S r)(hk:qp sx=κ)(ha:qt sx=a)(hp:xm sx= #[])(hf:w6 sx=none)(hS:∀x∈a.toList,S x)(D:a.toList.Pairwise (Ne r))(tr:∀x y z,Le r x y->Le r y z->Le r x z)(as:∀x y,r x y=true->Le r x y)(hn:a.size=n)
  (h:∀sx',(qt sx').toList.Perm a.toList->w6 sx'=none->(qt sx').toList.Pairwise (Le r)->Q () sx'):wpS M A E s sortRuns' Q sx:=by
 obtain⟨kd,ar,pd,gp,fl⟩:=sx;have hp:pd= #[]:=hp;have hf:fl=none:=hf;have hk:kd=κ:=hk;have ha:ar=a:=ha;subst hp hf hk ha;rw[sortRuns'_eq];refine j8 (yi ?_);dsimp only
 simp only[hn];generalize minRun' n n 0=mr;refine j8 (r8 (n5
  (I:=λx c sx'=> ∃(l0:Nat)(a':Array lg)(pd:Array (Nat×Nat×Nat))(g:Nat),c=(none,l0)/\l0<=n/\(x<=l0\/l0=n)/\a'.Perm ar/\Runs r a' 0 pd.toList l0/\sx'=n6 kd a' pd g none)
  (Q:=λc sx'=> ∃(a':Array lg)(pd:Array (Nat×Nat×Nat))(g:Nat),c=(none,n)/\a'.Perm ar/\Runs r a' 0 pd.toList n/\sx'=n6 kd a' pd g none) ?_ ?_ ⟨0,ar,#[],gp,rfl,js _,.inl (CT _),ve _,rfl,rfl⟩) ?_)
 ·rintro x c sx' _ hx ⟨l0,a',pd,g,rfl,lo1,lo2,pa,R,rfl⟩;dsimp only
  by_cases f1:l0≥n
  ·rw[if_pos f1];obtain rfl:l0=n:=by omega
   exact ka ⟨a',pd,g,rfl,pa,R,rfl⟩
  rw[if_neg f1];have hS':∀x∈a'.toList,S x:=λx hx=>hS x (pa.toList.mem_iff.mp hx);refine j8 (A9g (sx:=n6 kd a' pd g none) (a:=a') O hk rfl hS' (A64 (B00 D pa)) tr as (by omega) (by rw[pa.size_eq,hn];omega) λk a1 k1 k2 p1 q1 U1=> ?_);dsimp only
  by_cases f2:k<mr
  case' pos=>
   rw[if_pos f2];generalize hq:min (n - l0) mr=q;refine j8 (AO (pj ⟨rfl,?_⟩));refine j8 (A6s (sx:=xj (n6 kd a' pd g none) a1) (a:=a1) O hk rfl (λx hx=>hS' x (p1.toList.mem_iff.mp hx)) tr as (by omega) (by omega) (by rw[p1.size_eq,pa.size_eq,hn];omega) U1 λa2 p2 q2 U2=> ?_);have pz:a2.Perm ar:=(p2.trans p1).trans pa;have V:Runs r a2 0 pd.toList l0:=R.of λi _ hi=>(q2 i hi).trans (q1 i hi);have kq:1<=q/\q<=n - l0:=by omega
   simp only[qj,km,if_false]
  case' neg=>
   rw[if_neg f2];obtain⟨q,rfl⟩:∃q,q=k:=⟨_,rfl⟩;have pz:a1.Perm ar:=p1.trans pa;have V:Runs r a1 0 pd.toList l0:=R.of λi _ hi=>q1 i hi;have U2:=U1;have kq:1<=q/\q<=n - l0:=⟨k1,k2⟩;obtain⟨a2,rfl⟩:∃a2,a2=a1:=⟨_,rfl⟩
  all_goals
   refine j8 (yi ?_);have fin:∀(a3:Array lg)(pd3:Array (Nat×Nat×Nat))(g3:Nat),a3.Perm ar->Runs r a3 0 pd3.toList l0->Up r a3 l0 q->∃(l0':Nat)(a':Array lg)(pd:Array (Nat×Nat×Nat))(g:Nat),((none,l0+q):Option Unit×Nat)=(none,l0')/\l0'<=n/\(x+1<=l0'\/l0'=n)/\a'.Perm ar/\Runs r a' 0 pd.toList l0'/\n6 kd a3 (pd3.push (l0,q,0)) g3 none=n6 kd a' pd g none:=λa3 pd3 g3 pz R U=>
    ⟨l0+q,a3,pd3.push (l0,q,0),g3,rfl,by omega,.inl (by omega),pz,by rw[qa];exact R.join ⟨rfl,kq.1,U,rfl⟩,rfl⟩
   cases hb:(xm (xj (n6 kd a' pd g none) a2)).back? with
   |none=>exact j8 (uf (ka (fin a2 pd g pz V U2)))
   |some z=>
    obtain⟨s1,n1,pp⟩:=z;dsimp only
    generalize power' n (2*s1+n1) (2*s1+n1+n1+q) n=pw;refine j8 (r8 (n5 (I:=λ_ c sx'=>c=(none,())/\∃(a3:Array lg)(pd3:Array (Nat×Nat×Nat))(g3:Nat),sx'=n6 kd a3 pd3 g3 none/\a3.Perm ar/\Runs r a3 0 pd3.toList l0/\Up r a3 l0 q)
     (Q:=λc sx'=>c=(none,())/\∃(a3:Array lg)(pd3:Array (Nat×Nat×Nat))(g3:Nat),sx'=n6 kd a3 pd3 g3 none/\a3.Perm ar/\Runs r a3 0 pd3.toList l0/\Up r a3 l0 q) ?_ (λ_ _ hh=>hh) ⟨rfl,a2,pd,g,rfl,pz,V,U2⟩) ?_)
    ·rintro x c _ _ _ ⟨rfl,a3,pd3,g3,rfl,p3,R3,U3⟩;refine j8 (yi ?_);have ep:xm (n6 kd a3 pd3 g3 none)=pd3:=rfl;rw[ep];by_cases f3:pd3.size>1
     ·rw[if_pos f3,ph (by omega)];generalize pd3[pd3.size - 2]=zz;obtain⟨w1,w2,ol⟩:=zz;dsimp only
      by_cases f4:ol<=pw
      ·rw[if_pos f4];exact ka ⟨rfl,a3,pd3,g3,rfl,p3,R3,U3⟩
      ·rw[if_neg f4];refine j8 (vI O tr as (λx hx=>hS x (p3.toList.mem_iff.mp hx)) (by rw[p3.size_eq,show ar.size=n from hn];omega) R3 (i:=pd3.size - 2) (by omega) λa4 pd4 g4 p4 k4 R4 _=> ?_);simp only[qj,km,if_false];exact ka ⟨rfl,a4,pd4,g4,rfl,p4.trans p3,R4,U3.of λi h1 _=>k4 i h1⟩
     ·rw[if_neg f3];exact ka ⟨rfl,a3,pd3,g3,rfl,p3,R3,U3⟩
    ·rintro c _ ⟨rfl,a3,pd3,g3,rfl,p3,R3,U3⟩;refine j8 (uf (j8 (uf (ka (fin a3 _ g3 p3 (R3.cg ?_) U3)))));refine List.ext_getElem? λi=> ?_;rw[cy,cy,kh,kh];show _=Option.map _ (Array.modify pd3 (pd3.size - 1) _)[i]?;rw[Array.getElem?_modify]
     split
     ·cases pd3[i]?<;>rfl
     ·rfl
 ·rintro c sx' ⟨l0,a',pd,g,rfl,lo1,lo2,pa,R,rfl⟩;obtain rfl:l0=n:=by omega
  exact⟨a',pd,g,rfl,pa,R,rfl⟩
 ·rintro c _ ⟨a',pd,g,rfl,pa,R,rfl⟩;dsimp only
  have fin:∀(a3:Array lg)(pd3:Array (Nat×Nat×Nat))(g3:Nat),a3.Perm ar->Runs r a3 0 pd3.toList n->pd3.size<=1->Q () (n6 kd a3 pd3 g3 none):=λa3 pd3 g3 p3 R3 hz=>by
   refine h _ p3.toList rfl ?_;have za:a3.size=n:=by rw[p3.size_eq];exact hn
   show a3.toList.Pairwise _;have hl:pd3.toList.length<=1:=by rw[k5];exact hz
   generalize pd3.toList=l at R3 hl
   match l,hl,R3 with
   | [],_,R3=>
    have R3:0=n:=R3;rw[ay (l:=a3.toList) (by rw[k5];omega)];exact .nil
   | [z],_,R3=>
    have R4:0+z.2.1=n:=R3.2.2.2;have q:=Up.pw tr R3.2.2.1 (by omega);rw[ax,iq (by rw[k5];omega)]at q;exact q
  refine j8 (r8 (n5 (I:=λx c sx'=>c=(none,())/\∃(a3:Array lg)(pd3:Array (Nat×Nat×Nat))(g3:Nat),sx'=n6 kd a3 pd3 g3 none/\a3.Perm ar/\Runs r a3 0 pd3.toList n/\(pd3.size<=1\/pd3.size+x<=n))
   (Q:=λc sx'=>c=(none,())/\∃(a3:Array lg)(pd3:Array (Nat×Nat×Nat))(g3:Nat),sx'=n6 kd a3 pd3 g3 none/\a3.Perm ar/\Runs r a3 0 pd3.toList n/\pd3.size<=1) ?_ ?_ ⟨rfl,a',pd,g,rfl,pa,R,.inr (by have:=R.len;rw[k5]at this;omega)⟩) ?_)
  ·rintro x c _ _ hx ⟨rfl,a3,pd3,g3,rfl,p3,R3,hz⟩;refine j8 (yi ?_);have ep:xm (n6 kd a3 pd3 g3 none)=pd3:=rfl;rw[ep];by_cases f3:pd3.size<=1
   ·rw[if_pos f3];exact ka ⟨rfl,a3,pd3,g3,rfl,p3,R3,f3⟩
   ·rw[if_neg f3];have hi:∀c:Prop,[Decidable c]->(if c then pd3.size - 2 - 1 else pd3.size - 2)+1<pd3.size:=λc _=>by split<;>omega
    refine j8 (vI O tr as (λx hx=>hS x (p3.toList.mem_iff.mp hx)) (by rw[p3.size_eq];exact ja hn.symm) R3 (hi _) λa4 pd4 g4 p4 k4 R4 z4=> ?_);simp only[qj,km,if_false];exact ka ⟨rfl,a4,pd4,g4,rfl,p4.trans p3,R4,by omega⟩
  ·rintro c _ ⟨rfl,a3,pd3,g3,rfl,p3,R3,hz⟩;exact⟨rfl,a3,pd3,g3,rfl,p3,R3,by omega⟩
  ·rintro c _ ⟨rfl,a3,pd3,g3,rfl,p3,R3,hz⟩;exact ka (fin a3 pd3 g3 p3 R3 hz)
end Tms
namespace Srt
open PySem PySem.W PyProof.Rows
theorem B4z {vs:List jt}{Q:mf->jw->Prop}(hd:∀i j,i<j->j<vs.length->r i≠r j/\vs.getD i ke≠vs.getD j ke)(ask:fV (kas_ask prog w A κ vs) vs.length r s)
  (h:∀sx' p,Pm vs.length p->Up r p vs.length->qt sx'=p.map (kas_item (vs.toArray.zip vs.toArray))->w6 sx'=none->Q sx' s):
  jy (kg prog w) A ((sortRuns').run (n6 κ (vs.toArray.zip vs.toArray) #[] 7 none)) (λr s'=>Q r.2 s') E s:=by
 have it:∀i,i<vs.length->kas_item (vs.toArray.zip vs.toArray) i=(vs.getD i ke,vs.getD i ke):=λi hi=>by
  unfold kas_item;simp[wa,hi]
 generalize hg:vs.toArray.zip vs.toArray=a at h it⊢;have az:a.size=vs.length:=by rw[←hg];simp
 have al:a.toList=(kz vs.length).map (kas_item a):=by
  refine ba (by simp[az]) λi u v=> ?_;have:i<a.size:=by simpa using u
  simp[kas_item,wa,this]
 let ix:lg->Nat:=λx=>Classical.epsilon λi=>i<vs.length/\kas_item a i=x;have sp:∀i,i<vs.length->ix (kas_item a i)<vs.length/\kas_item a (ix (kas_item a i))=kas_item a i:=λi hi=>Classical.epsilon_spec (p:=λj=>j<vs.length/\kas_item a j=kas_item a i) ⟨i,hi,rfl⟩;have ixe:∀i,i<vs.length->ix (kas_item a i)=i:=λi hi=>by
  obtain⟨u,v⟩:=sp i hi;generalize ix (kas_item a i)=j at u v;rw[it i hi,it j u,yj]at v;rcases Nat.lt_trichotomy i j with e|e|e
  ·exact((hd i j e u).2 v.1.symm).elim
  ·exact e.symm
  ·exact((hd j i e hi).2 v.1).elim
 have O:Tms.Oc (kg prog w) A E s κ (λx=> ∃i,i<vs.length/\x=kas_item a i) λx y=>decide (r (ix x)<r (ix y)):=by
  rintro x y sx R ⟨i,hi,rfl⟩ ⟨j,hj,rfl⟩ hk hR;rw[lt'_eq];refine j8 (yi ?_);have q:=ask i j (λb s'=>s'=s/\b=decide (r i<r j)) hi hj ⟨rfl,rfl⟩;unfold kas_ask at q;rw[hk,it i hi,it j hj];refine j8 (AO (wz (rl q ?_ λ_ _ hF=>hF.elim)));rintro b s' ⟨rfl,rfl⟩;refine⟨rfl,ka ?_⟩;have hR:R (some (decide (r (ix (kas_item a i))<r (ix (kas_item a j))))) sx:=hR;rw[ixe i hi,ixe j hj]at hR;exact hR
 refine rl (Tms.wp_runs (n:=vs.length) (a:=a) (Q:=λ_ sx'=>Q sx' s) O rfl rfl rfl rfl (λx hx=> ?_) ?_ (λx y z h1 h2=> ?_) (λx y h=> ?_) az λsx' p1 p2 p3=> ?_) (λx s' q=>by obtain⟨rfl,q⟩:=q;exact q) λ_ _ e=>e
 ·rw[al]at hx;obtain⟨i,hi,rfl⟩:=fm.mp hx;exact⟨i,fw.mp hi,rfl⟩
 ·rw[al,gv,gu];intro i j hi hj hij;rw[dm]at hi hj;simp only[List.getElem_range];have:=(hd i j hij hj).1;show decide (r (ix (kas_item a i))<r (ix (kas_item a j)))=true\/decide (r (ix (kas_item a j))<r (ix (kas_item a i)))=true;rw[ixe i hi,ixe j hj];simp only[decide_eq_true_eq];omega
 ·have h1:=of_decide_eq_false h1;have h2:=of_decide_eq_false h2;exact CN (by omega)
 ·have h:=of_decide_eq_true h;exact CN (by omega)
 ·have me:∀x∈(qt sx').toList,kas_item a (ix x)=x:=λx hx=>by
   have:=p1.mem_iff.mp hx;rw[al]at this;obtain⟨i,hi,rfl⟩:=fm.mp this;rw[ixe i (fw.mp hi)]
  refine h sx' ((qt sx').map ix) (oy.mpr ?_) (λi j hij hj=> ?_) ?_ p2
  ·rw[Array.toList_map];refine(p1.map ix).trans ?_;rw[al,d7];show m7 _ (kz vs.length);rw[d5 (f:=ix∘kas_item a) (g:=id) λi hi=>ixe i (fw.mp hi),map_id]
  ·have zz:(qt sx').toList.length=vs.length:=by rw[p1.length_eq,k5,az]
   have zs:(qt sx').size=vs.length:=by simpa using zz
   by_cases e:i=j
   ·subst e;exact ur _
   ·have:=of_decide_eq_false (gu.mp p3 i j (by omega) (by omega) (by omega));unfold R at';have gi:∀k (hk:k<vs.length),((qt sx').map ix).getD k 0=ix ((qt sx').toList[k]'(by omega)):=λk hk=>by
     simp[wa,zs,hk]
    rw[gi i (by omega),gi j hj];omega
  ·rw[Array.map_map];apply Array.toList_inj.mp;rw[Array.toList_map]
   conv=>lhs;rw[←map_id (qt sx').toList]
   exact d5 λx hx=>(me x hx).symm
noncomputable def But (a:ju)(h h':kj):Prop:=∀b o,b≠a->h.get? b=some o->h'.get? b=some o
theorem A5u (n:Nat):Pm n (toArray (kz n)):=ve _
theorem B0s (h:n<2):Up r p n:=λi j hij hj=>by
 have:i=j:=by omega
 subst this;exact ur _
theorem A2m (vs:List jt):(toArray (kz vs.length)).toList.map (λi=>vs.getD i ke)=vs:=by refine ba (by simp) λi h1 h2=> ?_;simp[h2]
theorem B2t (ho:s.heap.get? a=some (wm "list" vs.toArray n))(h64:vs.length<=1000000)(hd:64<=vs.length->∀i j,i<j->j<vs.length->r i≠r j/\vs.getD i ke≠vs.getD j ke)
  (hk:2<=vs.length->∀h',But a s.heap h'->(∀Q:SortKind->jw->Prop,Q κ {s with heap:=h'}->jy (kg prog w) A (keyKind' vs.toArray) Q E {s with heap:=h'})/\fV (kas_ask prog w A κ vs) vs.length r {s with heap:=h'})
  (h:∀h' c p,Pm vs.length p->Up r p vs.length->h'.get? a=some (wm "list" (p.toList.map λi=>vs.getD i ke).toArray c)->But a s.heap h'->P (.done (.ret .none)) {s with heap:=h'}):
  jy (kg prog w) A (j6.«list.sort» ⟨[.ref a],[]⟩) P E s:=by
 have la:=CO ho;obtain⟨c1,o1⟩:∃c1,(s.heap.update a (m8 λ_=>(#[]:Array jt))).get? a=some (wm "list" #[] c1):=⟨_,get?_update_seq ho λ_=> #[]⟩;have b1:But a s.heap (s.heap.update a (m8 λ_=>(#[]:Array jt))):=λb o hb e=>by rw[yx _ _ _ _ hb];exact e
 generalize hg1:s.heap.update a (m8 λ_=>(#[]:Array jt))=g1 at o1 b1;have o3:((g1.push (wm "tuple" vs.toArray 0)).push (wm "list" #[] 0)).get? a=some (wm "list" #[] c1):=CK _ (CK _ o1);have b3:But a s.heap ((g1.push (wm "tuple" vs.toArray 0)).push (wm "list" #[] 0)):=λb o hb e=>CK _ (CK _ (b1 b o hb e));rw[list_sort_plain];refine CI (listItems_at ho rfl ?_);refine CI (listUpdate_at ho rfl ?_ (by rw[ic,ko];omega) (js _));rw[hg1];refine CI (seqEpoch_at o1 rfl ?_);refine CI (BK ?_ (by show vs.length<=_;rw[ko];omega));refine CI (wpAny_newList ?_ (js _));refine l8 ?_;show jy (kg prog w) A _ P E {s with heap:=(g1.push (wm "tuple" vs.toArray 0)).push (wm "list" #[] 0)};generalize (g1.push (wm "tuple" vs.toArray 0)).push (wm "list" #[] 0)=g3 at o3 b3;dsimp only
 have fin:∀(st:mf)(p:Array Nat),Pm vs.length p->Up r p vs.length->(qt st).map (·.2)=(p.toList.map λi=>vs.getD i ke).toArray->w6 st=none->
   jy (kg prog w) A (do
    let touched:=(←seqEpoch a) !=c1
    j6.List.listUpdate (.ref a) λ_=>(qt st).map (·.2)
    if let some e:=w6 st then rule "list.sort.comparison-raised";throw e
    if touched then rule "list.sort.modified";raiseError "ValueError" "list modified during sort"
    ret .none) P E {s with heap:=g3}:=λst p hp hu hout hf=>by
  rw[hout,hf];have hz:(p.toList.map λi=>vs.getD i ke).toArray.size=vs.length:=by rw[ic,di,k5,hp.size]
  obtain⟨c4,o4⟩:∃c4,(g3.update a (m8 λ_=>(p.toList.map λi=>vs.getD i ke).toArray)).get? a=some (wm "list" (p.toList.map λi=>vs.getD i ke).toArray c4):=⟨_,get?_update_seq o3 λ_=>(p.toList.map λi=>vs.getD i ke).toArray⟩;refine CI (seqEpoch_at o3 rfl ?_);refine CI (listUpdate_at o3 rfl ?_ (js _) (jd (ja hz) (by rw[ko];omega)));simp only[bne_self_eq_false,km,if_false];exact CJ (h _ c4 p hp hu o4 λb o hb e=>by rw[yx _ _ _ _ hb];exact b3 b o hb e)
 by_cases h2:vs.toArray.size<2
 ·rw[if_pos h2,if_pos h2];refine CI (CJ ?_);rw[StateT.run_pure];refine CI (CJ ?_);refine fin _ _ (A5u _) (B0s (by rw[ic]at h2;exact h2)) ?_ rfl;rw[A2m];show(vs.toArray.zip vs.toArray).map (·.2)=_;apply Array.toList_inj.mp;simp[List.map_snd_zip]
 ·rw[if_neg h2,if_neg h2];rw[ic]at h2;obtain⟨kk,ask⟩:=hk (by omega) g3 b3;refine CI (kk _ ?_);refine CI (rl (Q:=λr' s'=>s'={s with heap:=g3}/\∃p,Pm vs.length p/\Up r p vs.length/\qt r'.2=p.map (kas_item (vs.toArray.zip vs.toArray))/\w6 r'.2=none) ?_ ?_ λ_ _ e=>e)
  ·by_cases c:vs.length<64
   ·exact kat_run (Q:=λyf s'=>s'={s with heap:=g3}/\∃p,Pm vs.length p/\Up r p vs.length/\qt yf=p.map (kas_item (vs.toArray.zip vs.toArray))/\w6 yf=none) (G:=λp s'=>s'={s with heap:=g3}/\Pm vs.length p/\Up r p vs.length)
     rfl (by omega) c (λp yf s' a1 a2 a3 a4=> ⟨a4.1,p,a4.2.1,a4.2.2,a2,a3⟩) (A68 ask (by omega) λp hp hu=> ⟨rfl,hp,hu⟩)
   ·exact B4z (Q:=λyf s'=>s'={s with heap:=g3}/\∃p,Pm vs.length p/\Up r p vs.length/\qt yf=p.map (kas_item (vs.toArray.zip vs.toArray))/\w6 yf=none) (hd (by omega)) ask λyf p a1 a2 a3 a4=> ⟨rfl,p,a1,a2,a3,a4⟩
  rintro⟨⟨⟩,yf⟩ s' ⟨rfl,p,hp,hu,har,hf⟩;exact fin yf p hp hu (kat_snds rfl har) hf
theorem yL (h64:vs.length<=1000000)(hd:64<=vs.length->∀i j,i<j->j<vs.length->r i≠r j/\vs.getD i ke≠vs.getD j ke)
  (hc:∀Q':List jt->jw->Prop,(∀h1 tk,(∀b o,s.heap.get? b=some o->h1.get? b=some o)->s.heap.objs.size<=h1.objs.size->Q' vs {s with heap:=h1,toks:=tk})->jy (kg prog w) A.in1 (collect x) Q' E s)
  (hr:∀h1 tk,(∀b o,s.heap.get? b=some o->h1.get? b=some o)->2<=vs.length->(∀Q:SortKind->jw->Prop,Q κ {s with heap:=h1,toks:=tk}->jy (kg prog w) A.in1.in1 (keyKind' vs.toArray) Q E {s with heap:=h1,toks:=tk})/\fV (kas_ask prog w A.in1.in1 κ vs) vs.length r {s with heap:=h1,toks:=tk})
  (h:∀D h' tk c p,s.heap.objs.size<=D->Pm vs.length p->Up r p vs.length->h'.get? D=some (wm "list" (p.toList.map λi=>vs.getD i ke).toArray c)->(∀b o,s.heap.get? b=some o->h'.get? b=some o)->Q (.ref D) {s with heap:=h',toks:=tk}):
  jy (kg prog w) A (call (.builtin "sorted") [x]) Q E s:=by
 refine Calls.call_function_entry kind_sorted plain_sorted entry_sorted (args_sorted1 _) ?_;unfold j6.«sorted»;refine CI (m:=checkCount "sorted" 1 1 _) (CJ ?_);refine CI (hc _ λh1 tk k1 z1=> ?_);refine CI (wpAny_newList ?_ (by rw[ko];omega));have oL:(h1.push (wm "list" vs.toArray 0)).get? h1.objs.size=some (wm "list" vs.toArray 0):=iy _ rfl;have kL:∀b o,s.heap.get? b=some o->(h1.push (wm "list" vs.toArray 0)).get? b=some o/\b≠h1.objs.size:=λb o e=> ⟨CK _ (k1 b o e),jo (jf (CO e) z1)⟩;refine CI (l8 (ly slot_list_sort ⟨_,oL,rfl⟩ entry_list_sort ?_ (args_list_sort _)));refine B2t (κ:=κ) (r:=r) oL h64 hd (λh2 h' b'=>hr h' tk (λb o e=>b' b o (kL b o e).2 (kL b o e).1) h2) λh' c p hp hu o' b'=> ⟨_,rfl,?_⟩;exact CJ ⟨_,rfl,h h1.objs.size h' tk c p z1 hp hu o' λb o e=>b' b o (kL b o e).2 (kL b o e).1⟩
end Srt
namespace Srt
theorem gL:∀xs:List Int,HT.lexLt xs xs=false
 | []=>rfl
 |x::xs=>by rw[HT.lexLt_cons,if_pos rfl];exact gL xs
theorem lF:∀{xs ys zs:List Int},HT.lexLt xs ys=true->HT.lexLt ys zs=true->HT.lexLt xs zs=true
 | [],[],_,h,_=>by cases h
 | [],_::_,[],_,h=>by cases h
 | [],_::_,_::_,_,_=>rfl
 |_::_,[],_,h,_=>by cases h
 |_::_,_::_,[],_,h=>by cases h
 |x::xs,y::ys,z::zs,h1,h2=>by
  rw[HT.lexLt_cons]at h1 h2⊢;by_cases e1:x=y
  ·subst e1;rw[if_pos rfl]at h1;by_cases e2:x=z
   ·subst e2;rw[if_pos rfl]at h2⊢;exact lF h1 h2
   ·rw[if_neg e2]at h2⊢;exact h2
  ·rw[if_neg e1,decide_eq_true_eq]at h1;by_cases e2:y=z
   ·subst e2;rw[if_neg e1,decide_eq_true_eq];exact h1
   ·rw[if_neg e2,decide_eq_true_eq]at h2;rw[if_neg (by omega),decide_eq_true_eq];omega
theorem kI:∀{xs ys:List Int},HT.lexLt xs ys=false->HT.lexLt ys xs=false->xs=ys
 | [],[],_,_=>rfl
 | [],_::_,h,_=>by cases h
 |_::_,[],_,h=>by cases h
 |x::xs,y::ys,h1,h2=>by
  rw[HT.lexLt_cons]at h1 h2;by_cases e:x=y
  ·subst e;rw[if_pos rfl]at h1 h2;rw[kI h1 h2]
  ·rw[if_neg e,decide_eq_false_iff_not]at h1;rw[if_neg (λz=>e z.symm),decide_eq_false_iff_not]at h2;omega
noncomputable def rank (rows:List (List Int))(x:List Int):Int:=(rows.countP λz=>HT.lexLt z x:Nat)
theorem qQ:∀{l:List α},(∀a∈l,p a=true->q a=true)->l.countP p<=l.countP q
 | [],_=>by simp
 |a::l,h=>by
  have ih:=qQ (p:=p) (q:=q) (l:=l) λb hb=>h b (CP _ hb);rw[au,au];have:=h a CQ;cases hp:p a<;>cases hq:q a<;>simp_all<;>omega
theorem xJ:∀{l:List α},(∀a∈l,p a=true->q a=true)->x∈l->p x=false->q x=true->l.countP p<l.countP q
 | [],_,hx,_,_=>by cases hx
 |a::l,h,hx,hp,hq=>by
  have hl:∀b∈l,p b=true->q b=true:=λb hb=>h b (CP _ hb);rw[au,au];rcases fe.mp hx with e|e
  ·subst e;have:=qQ hl;rw[hp,hq];simp;omega
  ·have ih:=xJ hl e hp hq;have:=h a CQ;cases hp':p a<;>cases hq':q a<;>simp_all<;>omega
theorem oH (hx:x∈rows)(hy:y∈rows):decide (rank rows x<rank rows y)=HT.lexLt x y:=by
 unfold rank;cases h:HT.lexLt x y with
 |true=>
  rw[decide_eq_true_eq];have:=xJ (l:=rows) (p:=λz=>HT.lexLt z x) (q:=λz=>HT.lexLt z y) (λa _ ha=>lF ha h) hx (gL x) h;omega
 |false=>
  rw[decide_eq_false_iff_not];have:rows.countP (λz=>HT.lexLt z y)<=rows.countP (λz=>HT.lexLt z x):=by
   refine qQ λa _ ha=> ?_;cases h2:HT.lexLt y x with
   |true=>exact lF ha h2
   |false=>rw[kI h h2];exact ha
  omega
end Srt
namespace L2
open PySem PySem.Spec PyProof.Rows Srt
theorem A74 (i:Nat)(h1:Vals (xs.map V.int) us)(h2:Vals (ys.map V.int) ws)(h:C (HT.lexLt xs ys) s):
  W.KatLex prog w A b (decide (xs.length<ys.length)) C (us.zip ws) i s:=by
 induction xs generalizing ys us ws i with
 |nil=>
  cases h1;cases ys with
  |nil=>exact h
  |cons y ys=>show C (decide (0<ys.length+1)) s;rw[CM (by omega)];exact h
 |cons x xs ih=>
  cases h1 with|cons r1 t1=> ?_;cases ys with
  |nil=>cases h2;show C (decide (xs.length+1<0)) s;rw[CN (by omega)];exact h
  |cons y ys=>
   cases h2 with|cons r2 t2=> ?_;obtain⟨t,rfl⟩:=r1;obtain⟨u,rfl⟩:=r2;rw[HT.lexLt_cons]at h;refine W.kat_cons (wpAny_eqBool_int ?_);by_cases e:x=y
   ·subst e;rw[if_pos rfl]at h;rw[show(x==x)=true by simp];refine W.kat_yes ?_;have:=ih (i+1) t1 t2 h;rw[show decide ((x::xs).length<(x::ys).length)=decide (xs.length<ys.length) by simp];exact this
   ·rw[if_neg e]at h;rw[show(x==y)=false by simpa using e];refine W.kat_no ?_;cases b&&i==0 with
    |true=>exact oneLt_int h
    |false=>exact W.kat_one _ _ (PyProof.Rows.lt_int (show W.BoolBack C (rj (decide (x<y))) s from h))
theorem jB:∀{as:List ju}{us:List jt},Vals (as.map V.ref) us->us=as.map jx
 | [],_,.nil=>rfl
 |a::as,_,.cons r t=>by rw[jB t];cases (show _=jx a from r);rfl
noncomputable def B3v {β:Type}(key:β->List Int)(zs Cv:List (ju×β)):Prop:=Cv.Perm zs/\Cv.Pairwise λa b=>HT.lexLt (key b.2) (key a.2)=false
noncomputable def oC (zs Cv:List (ju×List Int)):Prop:=Cv.Perm zs/\Cv.Pairwise λa b=>HT.lexLt b.2 a.2=false
theorem B51 (z0:β)(key:β->List Int)(hp:Pm zs.length p)(hu:Up (λi=>rank (zs.map key) (key (zs.getD i z0))) p zs.length):
  (p.toList.map λi=>zs.getD i z0).Perm zs/\(p.toList.map λi=>zs.getD i z0).Pairwise λa b=>HT.lexLt (key b) (key a)=false:=by
 have hperm:=oy.mp hp;have inz:∀k (hk:k<p.toList.length),p.toList[k]<zs.length:=λk hk=>by
  have:=hperm.mem_iff.mp (c5 hk);simpa using this
 refine⟨(hperm.map λi=>zs.getD i z0).trans (xf (ba (by simp) λi a b=>by simp[b])),?_⟩;rw[gv,gu];intro i j hi hj hij;have hsz:p.toList.length=zs.length:=by rw[k5,hp.size]
 have h1:=hu i j (by omega) (by omega);have mem:∀k (hk:k<p.toList.length),key (zs.getD (p.toList[k]'hk) z0)∈zs.map key:=λk hk=>by
  have e:zs.getD p.toList[k] z0=zs[p.toList[k]]'(inz k hk):=by rw[cm,cx (inz k hk)];rfl
  rw[e];exact fo (c5 _)
 have e:∀k (hk:k<p.toList.length),at' p k=p.toList[k]:=λk hk=>by
  have:k<p.size:=by simpa using hk
  unfold at';simp[wa,this]
 unfold R at h1;rw[e i hi,e j hj]at h1;rw[←oH (mem j hj) (mem i hi),decide_eq_false_iff_not];exact zx.mpr h1
theorem A0z (b0:β)(key:β->List Int)(I:Inv X kb σ H s)(hq:CW X.K H p (zs.map λz=>V.ref z.1))(h64:zs.length<=1000000)(hd:64<=zs.length->zs.Pairwise λz z'=>z.1≠z'.1/\key z.2≠key z'.2)
  (hr:∀h1 tk,(∀b o,s.heap.get? b=some o->h1.get? b=some o)->2<=zs.length->(∀Q2:SortKind->jw->Prop,Q2 κ {s with heap:=h1,toks:=tk}->jy (kg X.prog X.w) X.A.in1.in1 (keyKind' (zs.map λz=>jx z.1).toArray) Q2 X.xe {s with heap:=h1,toks:=tk})/\
   ∀z∈zs,∀z'∈zs,∀C:Bool->jw->Prop,C (HT.lexLt (key z.2) (key z'.2)) {s with heap:=h1,toks:=tk}->jy (kg X.prog X.w) X.A.in1.in1 (keyLt' κ (.ref z.1) (.ref z'.1)) C (λ_ _=>False) {s with heap:=h1,toks:=tk})
  (q:∀l Cv,H l=none->B3v key zs Cv->Q (.ref l) (upd H l (.lst (Cv.map λz=>V.ref z.1)))):jy (kg X.prog X.w) X.A (call (.builtin "sorted") [.ref p]) (EP X kb σ Q) X.xe s:=by
 obtain⟨lu,rv,pl,_⟩:=I.list hq;have hits:lu=zs.map λz=>jx z.1:=by
  have:=jB (as:=zs.map (·.1)) (us:=lu) (by rw[d7];exact rv);rw[this,d7];rfl
 subst hits;have gd:∀i,i<zs.length->(zs.map λz=>jx z.1).getD i ke= .ref (zs.getD i (0,b0)).1/\zs.getD i (0,b0)∈zs:=λi hi=>by
  constructor
  ·simp[hi]
  ·rw[show zs.getD i (0,b0)=zs[i] by simp[hi]];exact c5 _
 refine yL (κ:=κ) (r:=λi=>rank (zs.map λz=>key z.2) (key (zs.getD i (0,b0)).2)) (vs:=zs.map λz=>jx z.1) (by rw[di];exact h64) (λh6 i j hij hj=> ?_) (λQ' k=> ?_) (λh1 tk k1 h2=> ?_) λD h' tk c pp hD hp hu o' k'=> ?_
 ·rw[di]at h6 hj;obtain⟨ei,mi⟩:=gd i (by omega);obtain⟨ej,mj⟩:=gd j hj;have:=gu.mp (hd h6) i j (by omega) hj hij;have g:∀k (hk:k<zs.length),zs.getD k (0,b0)=zs[k]:=λk hk=>by simp[hk]
  rw[←g i (by omega),←g j hj]at this;rw[ei,ej];refine⟨λe=>this.2 (kI ?_ ?_),λe=>this.1 (jx.inj e)⟩
  ·rw[←oH (rows:=zs.map λz=>key z.2) (fm.mpr ⟨_,mi,rfl⟩) (fm.mpr ⟨_,mj,rfl⟩),decide_eq_false_iff_not];omega
  ·rw[←oH (rows:=zs.map λz=>key z.2) (fm.mpr ⟨_,mj,rfl⟩) (fm.mpr ⟨_,mi,rfl⟩),decide_eq_false_iff_not];omega
 ·refine collect_list pl.isList ?_ (by rw[di,ko];omega);refine k _ s.toks (λb o e=> ?_) (by rw[i7,size_push'];exact jc _);rw[yx _ _ _ _ (jo (CO e))];exact CK _ e
 ·rw[di]at h2;obtain⟨hk,CA⟩:=hr h1 tk k1 h2;refine⟨hk,λi j C hi hj hC=> ?_⟩;rw[di]at hi hj;obtain⟨ei,mi⟩:=gd i hi;obtain⟨ej,mj⟩:=gd j hj;show jy _ _ (keyLt' κ ((zs.map λz=>jx z.1).getD i ke) ((zs.map λz=>jx z.1).getD j ke)) C (λ_ _=>False) _;rw[ei,ej];rw[oH (fm.mpr ⟨_,mi,rfl⟩) (fm.mpr ⟨_,mj,rfl⟩)]at hC;exact CA _ mi _ mj C hC
 ·rw[di]at hp hu;have so:=B51 (0,b0) (λz:ju×β=>key z.2) hp hu;have eo:(pp.toList.map λi=>(zs.map λz=>jx z.1).getD i ke)=(pp.toList.map λi=>zs.getD i (0,b0)).map λz=>jx z.1:=by
   rw[d7];refine d5 λi hi=> ?_;have:i<zs.length:=by
    have:=(oy.mp hp).mem_iff.mp hi;simpa using this
   exact(gd i this).1
  rw[eo]at o';have ue:=so.1.length_eq;have vf:∀zs:List (ju×β),Vals (zs.map λz=>V.ref z.1) (zs.map λz=>jx z.1):=λzs=>by
   induction zs with
   |nil=>exact .nil
   |cons z zs ih=>exact .cons rfl ih
  exact⟨.ref D,_,I.laid (t':=tk) (o:=.lst ((pp.toList.map λi=>zs.getD i (0,b0)).map λz=>V.ref z.1)) k' hD ⟨by rw[di,ue,ko];omega,_,c,vf _,o'⟩,rfl,q _ _ (I.hok.fresh hD) so⟩
theorem uU {s:jw}{kb:List (ju×Obj)}{σ:St}{H:Hp}(I:Inv X kb σ H s){h':kj}(k:∀b o,s.heap.get? b=some o->h'.get? b=some o){z:ju}{ns:List Int}(hz:H z=some (.tup (ns.map V.int))):∃it:List jt,Vals (ns.map V.int) it/\∃o n,h'.get? z=some o/\o.cls= .type "tuple"/\o.data= .seq it.toArray n:=by obtain⟨_,it,rt,o,ho,hc,n,hd⟩:=(show ObjOk X.prog X.w H s.heap z (.tup _)from I.hok _ _ hz);exact⟨it,rt,o,n,k _ _ ho,hc,hd⟩
theorem A0a:∀{a b:List Int},a.map V.int=b.map V.int->a=b
 | [],[],_=>rfl
 | [],_::_,h=>by cases h
 |_::_,[],h=>by cases h
 |x::a,y::b,h=>by
  injection h with h1 h2;injection h1 with h1;rw[h1,A0a h2]
theorem wC:cV X (.builtin "sorted") (λxs H Q=> ∃(p:ju)(zs:List (ju×List Int)),xs=[.ref p]/\CW X.K H p (zs.map λz=>V.ref z.1)/\(∀z∈zs,H z.1=some (.tup (z.2.map V.int))/\z.2≠[])/\zs.length<=1000000/\(64<=zs.length->(zs.map (·.2)).Pairwise (· ≠ ·))/\
  ∀l Cv,H l=none->oC zs Cv->Q (.ref l) (upd H l (.lst (Cv.map λz=>V.ref z.1)))):=by
 intro kb s σ H xs us Q I r h;obtain⟨p,zs,rfl,hq,hz,h64,h6,q⟩:=h;obtain⟨u,rfl,rx⟩:=dR r;cases rx;refine A0z [] id (κ:=tuples' true) I hq h64 (λh=>(yb.mp (gv.mp (h6 h))).imp fun{x y} q=> ⟨λe=>q.2.2 (A0a (HO.tup.inj (j7 ((hz x q.1).1.symm.trans (e▸(hz y q.2.1).1))))),q.2.2⟩) (λh1 tk k1 h2=> ⟨λQ2 q2=> ?_,λz hm z' hm' C hC=> ?_⟩) q
 ·have key:∀ys:List (ju×List Int),(∀z∈ys,z∈zs)->∃fs:List jt,W.KatTups h1 (ys.map λz=>jx z.1) fs/\fs.length=ys.length/\∀v∈fs,∃n t,v= .int n t:=λys=>by
   induction ys with
   |nil=>intro _;exact⟨[],trivial,rfl,λv hv=>by cases hv⟩
   |cons z ys ih=>
    intro hm;obtain⟨fs,g1,g2,g3⟩:=ih λy hy=>hm y (CP _ hy);obtain⟨it,rt,o,n,ho,hc,hd⟩:=uU I k1 (hz z (hm z CQ)).1;obtain⟨x,xs',ex⟩:=a9 (hz z (hm z CQ)).2;rw[ex]at rt;cases rt with
    |cons r0 t0=>
     obtain⟨t,rfl⟩:=r0;exact⟨.int x t::fs,W.KatTups.cons ho hc hd (by simp) g1,by simp[g2],λv hv=>by
      rcases fe.mp hv with e|e
      ·exact⟨x,t,e⟩
      ·exact g3 v e⟩
  obtain⟨fs,g1,g2,g3⟩:=key zs λz hz=>hz;refine W.kat_kind (T:=.type "int") (s:={s with heap:=h1,toks:=tk}) g1 (by omega) (λv hv=> ?_) rfl q2;obtain⟨n,t,rfl⟩:=g3 v hv;exact W.Looks.of_pure rfl
 ·obtain⟨it,rt,o,n,ho,hc,hd⟩:=uU I k1 (hz z hm).1;obtain⟨it2,rt2,o2,n2,ho2,hc2,hd2⟩:=uU I k1 (hz z' hm').1;refine W.kat_lt (s:={s with heap:=h1,toks:=tk}) ho hd ho2 hd2 ?_;have l1:=rt.length;have l2:=rt2.length;rw[di]at l1 l2;rw[ic,ic,←l1,←l2];exact A74 0 rt rt2 hC
theorem wN:cV X (.builtin "sorted") (λxs H Q=> ∃(p:ju)(zs:List (ju×List Int)),xs=[.ref p]/\CW X.K H p (zs.map λz=>V.ref z.1)/\(∀z∈zs,H z.1=some (.tup (z.2.map V.int))/\z.2≠[])/\zs.length<64/\
  ∀l Cv,H l=none->oC zs Cv->Q (.ref l) (upd H l (.lst (Cv.map λz=>V.ref z.1)))):=λ_ _ _ _ _ _ _ I r h=>let ⟨p,zs,a,b,c,d,q⟩:=h;wC _ _ _ _ _ _ _ I r ⟨p,zs,a,b,c,by omega,λh=>absurd d (by omega),q⟩
end L2
namespace Wlk
noncomputable abbrev Pl:=Int×Int
noncomputable abbrev gZ:=Pl×Pl
noncomputable def cout (nw ne sw se:Bool):Fin 4->Bool
 |0=>se&& !ne
 |1=>sw&& !se
 |2=>nw&& !sw
 |3=>ne&& !nw
noncomputable def nx (nw ne sw se:Bool)(d:Fin 4):Fin 4:=if cout nw ne sw se (d+1)=true then d+1 else if cout nw ne sw se d=true then d else d+3
noncomputable def rtS (s:gZ):Pl:=(s.2.1+s.2.2 - s.1.2,s.2.2+s.1.1 - s.2.1)
noncomputable def B4j (ss:List gZ)(b:Pl):List gZ:=ss.filter λo=>decide (o.1=b)
noncomputable def nxt (ss:List gZ)(s:gZ):gZ:=if (s.2,rtS s)∈ss then(s.2,rtS s)else(B4j ss s.2).headD s
end Wlk
namespace Cyc
section
variable {α:Type} [DecidableEq α]
noncomputable def it (f:α->α):Nat->α->α
 |0,s=>s
 |n+1,s=>f (it f n s)
theorem gE:∀{xs ys:List α},xs.Nodup->(∀x∈xs,x∈ys)->xs.length<=ys.length
 | [],_,_,_=>js _
 |x::xs,ys,hn,h=>by
  have hx:=h x CQ;have hn':=f9.mp hn;have ih:=gE (ys:=ys.erase x) hn'.2 λy hy=>by
   refine(List.mem_erase_of_ne λz=> ?_).mpr (h y (CP _ hy));subst z;exact hn'.1 hy
  rw[List.length_erase_of_mem hx]at ih;have:=Bd hx;rw[c9];omega
end
end Cyc
namespace Srt
open PySem PySem.W PyProof.Rows L2
noncomputable def fl:List (Int×Int)->List Int
 | []=> []
 |c::cs=>c.1::c.2::fl cs
theorem rH:∀{a b:List (Int×Int)},fl a=fl b->a=b
 | [],[],_=>rfl
 | [],_::_,h=>by cases h
 |_::_,[],h=>by cases h
 |c::a,d::b,h=>by
  injection h with h1 h2;injection h2 with h2 h3;rw[rH h3,AH h1 h2]
end Srt
namespace L2
open PySem PySem.Spec PyProof.Rows Srt
noncomputable def C1 (H:Hp)(a:ju)(cs:List (Int×Int)):Prop:=∃ps:List ju,H a=some (.tup (ps.map V.ref))/\PlAt H ps cs
theorem C1.same (h:C1 H a cs)(s:Same H H'):C1 H' a cs:=let ⟨ps,h1,h2⟩:=h;⟨ps,s _ _ h1,h2.same s⟩
theorem A01:∀{ps qs:List ju},ps.map V.ref=qs.map V.ref->ps=qs
 | [],[],_=>rfl
 | [],_::_,h=>by cases h
 |_::_,[],h=>by cases h
 |p::ps,q::qs,h=>by
  injection h with h1 h2;injection h1 with h1;rw[h1,A01 h2]
theorem PlAt.val (h1:PlAt H ps cs)(h2:PlAt H ps ds):cs=ds:=by
 unfold PlAt at h1
 induction h1 generalizing ds with
 |nil=>cases h2;rfl
 | @cons p c ps cs r1 t1 ih=>
  cases h2 with
  | @cons _ d _ ds r2 t2=>
   rw[ih t2];have e:=(show H p=_ from r1).symm.trans r2;obtain⟨c1,c2⟩:=c;obtain⟨d1,d2⟩:=d;cases e;rfl
theorem C1.val (h:C1 H a cs)(h':C1 H a ds):cs=ds:=by
 obtain⟨ps,h1,h2⟩:=h;obtain⟨qs,h3,h4⟩:=h';have e:=h1.symm.trans h3;injection e with e
 injection e with e;rw[←A01 e]at h4;exact h2.val h4
noncomputable def sM (zs Cv:List (ju×List (Int×Int))):Prop:=Cv.Perm zs/\Cv.Pairwise λa b=>HT.lexLt (fl b.2) (fl a.2)=false
theorem B4o (I:Inv X kb σ H s)(hu:A.units<nj)(i:Nat)(h1:PlAt H ps cs)(h2:PlAt H qs ds)(h:C (HT.lexLt (fl cs) (fl ds)) s):
  W.KatLex X.prog X.w A false (decide (ps.length<qs.length)) C ((ps.map jx).zip (qs.map jx)) i s:=by
 unfold PlAt at h1
 induction h1 generalizing qs ds i with
 |nil=>
  cases h2 with
  |nil=>exact h
  | @cons _ _ qs _ _ _=>show C (decide (0<qs.length+1)) s;rw[CM (by omega)];exact h
 | @cons p c ps cs r1 t1 ih=>
  cases h2 with
  |nil=>show C (decide (ps.length+1<0)) s;rw[CN (by omega)];exact h
  | @cons q d qs ds r2 t2=>
   show W.KatLex X.prog X.w A false (decide (ps.length+1<qs.length+1)) C ((jx p,jx q)::(ps.map jx).zip (qs.map jx)) i s;refine W.kat_cons (zR I hu r1 r2 X.prog X.w _ _ ?_);have e0:HT.lexLt (fl (c::cs)) (fl (d::ds))=if c=d then HT.lexLt (fl cs) (fl ds)else HT.lexLt [c.1,c.2] [d.1,d.2]:=by
    obtain⟨c1,c2⟩:=c;obtain⟨d1,d2⟩:=d;show HT.lexLt (c1::c2::fl cs) (d1::d2::fl ds)=_;rw[HT.lexLt_cons,HT.lexLt_cons,HT.lexLt_cons,HT.lexLt_cons];by_cases e1:c1=d1
    ·subst e1;by_cases e2:c2=d2
     ·subst e2;simp
     ·simp[e2]
    ·simp[e1]
   rw[e0]at h;by_cases e:c=d
   ·rw[CM e];rw[if_pos e]at h;refine W.kat_yes ?_;rw[show decide (ps.length+1<qs.length+1)=decide (ps.length<qs.length) by simp];exact ih (i+1) t2 h
   ·rw[CN e];rw[if_neg e]at h;refine W.kat_no (W.kat_one _ _ ?_);obtain⟨lu,s1,p1,_⟩:=I.tuple (CY.of (K:=X.K) r1);obtain⟨its2,s2,p2,_⟩:=I.tuple (CY.of (K:=X.K) r2);have i1:qv lu.toArray.toList [c.1,c.2]:=jO s1;have i2:qv its2.toArray.toList [d.1,d.2]:=jO s2;exact HT.lt_tupInts p1 p2 i1 i2 hu h
theorem A84 (hu:X.A.units+2<nj):cV X (.builtin "sorted") (λxs H Q=> ∃(p:ju)(zs:List (ju×List (Int×Int))),xs=[.ref p]/\H p=some (.lst (zs.map λz=>V.ref z.1))/\(∀z∈zs,C1 H z.1 z.2/\z.2≠[])/\zs.length<128/\(64<=zs.length->(zs.map (·.2)).Pairwise (· ≠ ·))/\
  ∀l Cv,H l=none->sM zs Cv->Q (.ref l) (upd H l (.lst (Cv.map λz=>V.ref z.1)))):=by
 intro kb s σ H xs us Q I r h;obtain⟨p,zs,rfl,hq,hz,h64,h6,q⟩:=h;obtain⟨u,rfl,rx⟩:=dR r;cases rx;refine A0z [] fl (κ:=tuples' false) I (CW.of (K:=X.K) hq) (by omega) (λh=>(yb.mp (gv.mp (h6 h))).imp fun{x y} q=> ⟨λe=>q.2.2 ((hz x q.1).1.val (e▸(hz y q.2.1).1)),λe=>q.2.2 (rH e)⟩) (λh1 tk k1 h2=> ?_) q;have I1:Inv X kb σ H {s with heap:=h1,toks:=tk}:=I.kept k1;refine⟨λQ2 q2=> ?_,λz hm z' hm' C hC=> ?_⟩
 ·have key:∀ys:List (ju×List (Int×Int)),(∀z∈ys,z∈zs)->∃fs:List jt,W.KatTups h1 (ys.map λz=>jx z.1) fs/\fs.length=ys.length/\∀v∈fs,∃a o,v= .ref a/\h1.get? a=some o/\o.cls= .type "tuple":=λys=>by
   induction ys with
   |nil=>intro _;exact⟨[],trivial,rfl,λv hv=>by cases hv⟩
   |cons z ys ih=>
    intro hm;obtain⟨fs,g1,g2,g3⟩:=ih λy hy=>hm y (CP _ hy);obtain⟨⟨ps,hz1,hP⟩,hne⟩:=hz z (hm z CQ);obtain⟨cs0,cs1,ec⟩:=a9 hne;rw[ec]at hP;cases hP with
    |cons r0 t0=>
     rename_i p0 ps0;obtain⟨_,it,rt,o,ho,hc,n,hd⟩:=(show ObjOk X.prog X.w H h1 z.1 (.tup _)from I1.hok _ _ hz1);obtain⟨_,it2,rt2,o2,ho2,hc2,_⟩:=(show ObjOk X.prog X.w H h1 p0 (.tup _)from I1.hok _ _ r0);have ei:=jB rt;subst ei;exact⟨.ref p0::fs,W.KatTups.cons ho hc hd (by simp) g1,by simp[g2],λv hv=>by
      rcases fe.mp hv with e|e
      ·exact⟨p0,o2,e,ho2,hc2⟩
      ·exact g3 v e⟩
  obtain⟨fs,g1,g2,g3⟩:=key zs λz hz=>hz;refine W.kat_kind (T:=.type "tuple") (s:={s with heap:=h1,toks:=tk}) g1 (by omega) (λv hv=> ?_) rfl q2;obtain⟨a,o,rfl,ho,hc⟩:=g3 v hv;have lk:W.Looks (kg X.prog X.w) h1 (typeOf (.ref a)) o.cls:=(W.Looks.ld ho).andThen .now;rw[hc]at lk;exact lk
 ·obtain⟨⟨ps,hz1,hP⟩,_⟩:=hz z hm;obtain⟨⟨qs,hz2,hP2⟩,_⟩:=hz z' hm';obtain⟨_,it,rt,o,ho,hc,n,hd⟩:=(show ObjOk X.prog X.w H h1 _ (.tup _)from I1.hok _ _ hz1);obtain⟨_,it2,rt2,o2,ho2,hc2,n2,hd2⟩:=(show ObjOk X.prog X.w H h1 _ (.tup _)from I1.hok _ _ hz2);have e1:=jB rt;have e2:=jB rt2;subst e1 e2;refine W.kat_lt (s:={s with heap:=h1,toks:=tk}) ho hd ho2 hd2 ?_;rw[ic,ic,di,di];exact B4o I1 (show X.A.units+1+1<nj by omega) 0 hP hP2 hC
theorem B5w (hu:X.A.units+2<nj):cV X (.builtin "sorted") (λxs H Q=> ∃(p:ju)(zs:List (ju×List (Int×Int))),xs=[.ref p]/\H p=some (.lst (zs.map λz=>V.ref z.1))/\(∀z∈zs,C1 H z.1 z.2/\z.2≠[])/\zs.length<64/\
  ∀l Cv,H l=none->sM zs Cv->Q (.ref l) (upd H l (.lst (Cv.map λz=>V.ref z.1)))):=λ_ _ _ _ _ _ _ I r h=>let ⟨p,zs,a,b,c,d,q⟩:=h;A84 hu _ _ _ _ _ _ _ I r ⟨p,zs,a,b,c,by omega,λh=>absurd d (by omega),q⟩
end L2
namespace PySem
theorem zJ (ho:s.heap.get? d=some o)(hx:o.ExactDict)(hd:(d==n4)=false)(h:Q (.ref s.heap.objs.size) {s with heap:=s.heap.push {cls:=.type "dict_items",data:=.fields #[.ref d]}}):
  jy (kg prog w) A (call (.builtin "dict.items") [.ref d]) Q E s:=by
 have hT:s.TypeIs (.ref d) "dict":=⟨o,ho,hx.1⟩;refine ly F.slot_dict_items hT F.entry_dict_items ?_ (F.args_dict_items_1 _);unfold j6.«dict.items»;refine CI ?_;unfold j6.Dict.noArgs;refine CI (By hT ?_);show jy _ _ (pure d) _ _ s;refine CJ ?_;show jy _ _ (Bz d>>=_) _ _ s;unfold Bz;rw[if_neg (by rw[hd];exact ki)];refine CI (CJ ?_);exact CI (k8 (CJ ⟨_,rfl,h⟩))
theorem yZ (hv:s.heap.IsItemsView v d)(ho:s.heap.get? d=some o)(hd:o.data= .dict es ep)
  (hQ:Q (.ref s.heap.objs.size) {s with heap:=s.heap.push {cls:=.type "dict_itemiterator",data:=.fields #[.none,.bool false,.ref d,.int 0 0,.int es.size 0,.int ep 0,.none,.none]}}):
  jy (kg prog w) A (A7 (.ref v)) Q E s:=by
 obtain⟨ov,hov,hcv,hdv⟩:=id hv;refine vm hv.typeIs Be (ly Be hv.typeIs F.entry_dict_items_iter ?_ (F.args_dict_items_iter_1 _));unfold j6.«dict_items.__iter__»;refine CI (CJ ?_);refine CI ?_;unfold j6.Dict_items.dictOf;refine CI (oi hov hdv (x:=.ref d) rfl (CJ ?_));refine CI ?_;unfold j6.Dict_items.newIterator;refine CI (Ap ho hd (CI (Bo ho hd ?_)));simp only[show vg "dict_itemiterator" =true by decide,if_true];refine k8 (CJ ⟨_,rfl,"dict_itemiterator",_,⟨_,iy _ rfl,rfl⟩,ny.lookup,?_⟩) (by simp only[sizeOk,w8,ic,c8,c9,dk,ko];omega);simpa[vh,w8]using hQ
noncomputable abbrev ItF (h:kj)(it d:ju)(i n ep:Nat)(ok ov x0 x1:jt):Prop:=
 h.get? it=some {cls:=.type "dict_itemiterator",dict:=none,data:=.fields #[x0,x1,.ref d,.int i 0,.int n 0,.int ep 0,ok,ov],slots:=#[]}
noncomputable abbrev ItQ (s:jw)(it:ju)(k v:jt)(Q:Option jt->jw->Prop)(R:kj->Prop):Prop:=
 ∀h',R h'->h'.get? s.heap.objs.size=some {cls:=.type "tuple",data:=.seq #[k,v]}->h'.objs.size=s.heap.objs.size+1->
   (∀b o,b≠it->s.heap.get? b=some o->h'.get? b=some o)->Q (some (.ref s.heap.objs.size)) {s with heap:=h'}
theorem qN (hit:ItF s.heap it d i es.size ep ok ov x0 x1)(ho:s.heap.get? d=some o)(hd:o.data= .dict es ep)(hi:i<es.size)
  (hQ:(x0= .none/\x1= .bool false/\ItQ s it es[i].key es[i].val Q λh'=>B4 h' it d (i+1) es.size ep es[i].key es[i].val s.heap.objs.size)\/
   ∃(a:ju)(f:Bool)(oa:Obj),x0=vh a/\x1= .bool f/\s.heap.get? a=some oa/\a≠it/\ItQ s it es[i].key es[i].val Q λh'=>W.KdxIt h' it d (i+1) es.size ep ok ov a true):jy (kg prog w) A (ub (.ref it)) Q E s:=by
 obtain⟨hp,g,dr,tk,os⟩:=s;have hT:w9 ⟨hp,g,dr,tk,os⟩ (.ref it) "dict_itemiterator":=⟨_,hit,rfl⟩;unfold ub;refine CI (wz (nc (name:=qi "__next__") hT ny (ly ny hT ye ?_ (x9 _))));refine CI (CJ ?_);refine CI ?_;refine CI ?_
 first| (refine CI (qf hT (CJ ?_));skip)| (refine CI (sr hT (CJ ?_));skip)
 refine CI (zy hit rfl ?_);simp only[show vg "dict_itemiterator" =true by decide,if_true];show jy _ _ (if (jx d==ke)=true then _ else _) _ _ _;rw[if_neg (show¬((jx d==ke)=true)from ki)];refine CI (CJ ?_);refine CI (Ap ho hd ?_);rw[if_neg (by simp)];refine CI (CJ ?_);refine CI (Bo ho hd ?_);rw[if_neg (by simp)];refine CJ ?_;simp only[show¬((i:Int)<0) by omega,if_false,lq,ph hi];refine CI ?_
 first| (refine CI (qf hT (CJ ?_));skip)| (refine CI (sr hT (CJ ?_));skip)
 refine CI (xw hT ?_);show jy _ _ (setField (.ref it) 3 (vh ((i:Int)+1))>>=_) _ _ ⟨hp,g,dr,tk,os⟩;refine CI (m5 hit (by simp) λh₁ he₁ hs₁=> ?_);replace hs₁:my it hp h₁:=hs₁;replace he₁:ItF h₁ it d (i+1) es.size ep ok ov x0 x1:=by
  have e:((i+1:Nat):Int)=(i:Int)+1:=by omega
  unfold ItF;rw[e];simpa[vh]using he₁
 have hT₁:w9 ⟨h₁,g,dr,tk,os⟩ (.ref it) "dict_itemiterator":=⟨_,he₁,rfl⟩;refine CI (l8 ?_);refine CI (xw hT₁ (CI (xw hT₁ ?_)));show jy _ _ (xx (.ref it) 6 es[i].key es[i].val) _ _ ⟨h₁,g,dr,tk,os⟩;unfold xx;refine CI (BK ?_);have he₂:ItF (h₁.push {cls:=.type "tuple",data:=.seq #[es[i].key,es[i].val]}) it d (i+1) es.size ep ok ov x0 x1:=CK _ he₁;generalize hh₂:h₁.push {cls:=.type "tuple",data:=.seq #[es[i].key,es[i].val]}=h₂ at he₂;have hz₁:h₁.objs.size=hp.objs.size:=hs₁.1;have hil:=CO hit;have ht₂:h₂.get? hp.objs.size=some {cls:=.type "tuple",data:=.seq #[es[i].key,es[i].val]}:=by rw[←hh₂,←hz₁];exact iy _ rfl
 have hz₂:h₂.objs.size=hp.objs.size+1:=by rw[←hh₂,i6,hz₁]
 have hk₂:∀b o,b≠it->hp.get? b=some o->h₂.get? b=some o:=λb o hb e=>by rw[←hh₂];exact CK _ (hs₁.extBut b o hb e)
 show jy _ _ (qz (.ref it)>>=_) _ _ ⟨h₂,g,dr,tk,os⟩;rw[hz₁];clear hh₂ he₁ hs₁ hT₁ hz₁ h₁;rcases hQ with⟨rfl,rfl,hQ⟩| ⟨a,f,oa,rfl,rfl,ha,hai,hQ⟩
 ·refine CI ?_;unfold qz;refine CI (oi he₂ rfl (x:=.none) rfl (CJ ?_));simp only[if_true];refine CI (oi he₂ rfl (x:=ok) rfl (CI (oi he₂ rfl (x:=ov) rfl ?_)));refine CI (m5 he₂ (by simp) λh₃ he₃ hs₃=> ?_);replace hs₃:my it h₂ h₃:=hs₃;replace he₃:Cc h₃ it d (i+1) es.size ep es[i].key ov:=he₃;refine CI (m5 he₃ (by simp) λh₄ he₄ hs₄=> ?_);replace hs₄:my it h₃ h₄:=hs₄;replace he₄:Cc h₄ it d (i+1) es.size ep es[i].key es[i].val:=he₄;refine CI (m5 he₄ (by simp) λh₅ he₅ hs₅=> ?_);replace hs₅:my it h₄ h₅:=hs₅;replace he₅:B4 h₅ it d (i+1) es.size ep es[i].key es[i].val hp.objs.size:=he₅;refine CI (m5 he₅ (by simp) λh₆ he₆ hs₆=> ?_);replace hs₆:my it h₅ h₆:=hs₆;replace he₆:B4 h₆ it d (i+1) es.size ep es[i].key es[i].val hp.objs.size:=he₆;refine CI (vw (CJ (CJ ⟨_,rfl,CJ (hQ h₆ he₆ ?_ ?_ ?_)⟩)))
  ·have ne:=jn hil;exact hs₆.extBut _ _ ne (hs₅.extBut _ _ ne (hs₄.extBut _ _ ne (hs₃.extBut _ _ ne ht₂)))
  ·show h₆.objs.size=_;rw[hs₆.1,hs₅.1,hs₄.1,hs₃.1,hz₂]
  ·exact λb o hb e=>hs₆.extBut b o hb (hs₅.extBut b o hb (hs₄.extBut b o hb (hs₃.extBut b o hb (hk₂ b o hb e))))
 ·have ha₂:h₂.get? a=some oa:=hk₂ a oa hai ha;refine CI ?_;unfold qz;refine CI (oi he₂ rfl (x:=vh a) rfl ?_);show jy _ _ (loadIfAlive ((a:Int).toNat)>>=_) _ _ _;rw[lq];refine CI (W.kdx_alive ha₂ ?_);simp only[Option.isNone_some,km,if_false];refine CI (oi he₂ rfl (x:=.bool f) rfl ?_);have ne:=jn hil;cases f with
  |true=>
   rw[if_neg (show¬((rj true !=rj true)=true)from ki)];refine CJ ?_;simp only[km,if_false];exact CJ (CJ ⟨_,rfl,CJ (hQ h₂ he₂ ht₂ hz₂ hk₂)⟩)
  |false=>
   rw[if_pos (show(rj false !=rj true)=true from rfl)];refine CI (m5 he₂ (by simp) λh₃ he₃ hs₃=> ?_);replace hs₃:my it h₂ h₃:=hs₃;replace he₃:W.KdxIt h₃ it d (i+1) es.size ep ok ov a true:=he₃;refine CJ ?_;simp only[km,if_false];exact CJ (CJ ⟨_,rfl,CJ (hQ h₃ he₃ (hs₃.extBut _ _ ne ht₂) (by show h₃.objs.size=_;rw[hs₃.1,hz₂]) λb o hb e=>hs₃.extBut b o hb (hk₂ b o hb e))⟩)
theorem qL (hh:A.handled=none)(hit:ItF s.heap it d i es.size ep ok ov x0 x1)(ho:s.heap.get? d=some o)(hd:o.data= .dict es ep)(hi:es.size<=i)
  (hQ:∀h',BI it s.heap h'->Q none {s with heap:=h'}):jy (kg prog w) A (ub (.ref it)) Q E s:=by
 have hT:s.TypeIs (.ref it) "dict_itemiterator":=⟨_,hit,rfl⟩;unfold ub;refine CI (wz (nc (name:=qi "__next__") hT ny (ly ny hT ye ?_ (x9 _))));refine CI (CJ ?_);refine CI ?_;refine CI ?_
 first| (refine CI (qf hT (CJ ?_));skip)| (refine CI (sr hT (CJ ?_));skip)
 refine CI (zy hit rfl ?_);simp only[show vg "dict_itemiterator" =true by decide,if_true];show jy _ _ (if (jx d==ke)=true then _ else _) _ _ s;rw[if_neg (show¬((jx d==ke)=true)from ki)];refine CI (CJ ?_);refine CI (Ap ho hd ?_);rw[if_neg (by simp)];refine CI (CJ ?_);refine CI (Bo ho hd ?_);rw[if_neg (by simp)];refine CJ ?_;simp only[show¬((i:Int)<0) by omega,if_false,lq,Bf hi];refine CI ?_
 first| (refine CI (qf hT (CJ ?_));skip)| (refine CI (sr hT (CJ ?_));skip)
 show jy _ _ (setField (.ref it) 2 .none>>=_) _ _ s;refine CI (zu hit rfl (by simp) ?_);show jy _ _ (newExc (.type "StopIteration") []>>=_) _ _ _;refine CI ?_;simp only[newExc,newTuple];refine CI (k8 ?_ (by size_fits));refine CI (m:=vq _ _) (ym (a:=ke) (by first|rfl| (simp only[vq];rfl)) ?_);refine k8 ?_ (by size_fits);simp only[raiseNew];refine CI (B1 ?_);rw[show A.in1.handled=none from hh];refine CI (CJ (wpAny_throw ?_));refine CI (rg (T:="StopIteration") (b:=true) ⟨_,iy _ rfl,rfl⟩ BL ?_);exact CJ (hQ _ (((uh ..).extBut.push _).push _))
theorem A52 (hit:Cc s.heap it d i n ep ok ov)(h:Q (.ref it) s):jy (kg prog w) A (A7 (.ref it)) Q E s:=by have hT:s.TypeIs (.ref it) "dict_itemiterator":=⟨_,hit,rfl⟩;have ent:Cj table "dict_itemiterator.__iter__" =some j6.«dict_keyiterator.__iter__»:=BO (id':="dict_keyiterator.__iter__") (by kernel_rfl) rfl (by decide +kernel) (by kernel_rfl);refine vm hT yo (ly yo hT ent ?_ (F.args_dict_itemiterator_iter_1 _));show jy _ _ (ret (.ref it)) _ _ s;exact CJ ⟨_,rfl,"dict_itemiterator",_,hT,ny.lookup,h⟩
end PySem
namespace L2
open PySem PySem.Spec PyProof.Rows
theorem Inv.freeze (I:Inv X kb σ H s)(hm:Mut (H d))(hd:H d=some u)(ho:s.heap.get? d=some o):Inv X kb σ (upd H d (.frz o u)) s:=by
 have hu:Un X.fs [] H (upd H d (.frz o u)) s.heap s.heap:=by
  refine⟨λ_ _ q _ _ _=>q,λb ob q _ _ _=> ⟨ob.slots,q⟩,λb _ _ n _=> ?_,λb ob q _=> ⟨ob,q⟩,λb xs q=> ?_,λb ob v q=> ?_,λb ps q=> ⟨#[],?_⟩⟩
  ·rw[aN (λz=>by rw[z,hd]at n;cases n)];exact n
  ·rw[aN (λz=>by rw[z]at q;rw[q]at hm;exact hm)];exact q
  ·rw[aN (λz=>by rw[z]at q;rw[q]at hm;exact hm)];exact q
  ·rw[aN (λz=>by rw[z]at q;rw[q]at hm;exact hm),q];simp
 have hok:CU X.prog X.w (upd H d (.frz o u)) s.heap:=λb v q=>by
  have st:∀c w',ObjOk X.prog X.w H s.heap c w'->ObjOk X.prog X.w (upd H d (.frz o u)) s.heap c w':=λc w' x=>
   x.stay (λ_ _ _ q=>q) (λb q=>by rw[aN (λz=>by rw[z]at q;rw[q]at hm;exact hm)];exact q) λb xs q=>by rw[aN (λz=>by rw[z]at q;rw[q]at hm;exact hm)];exact q
  by_cases hb:b=d
  ·subst hb;rw[aG]at q;cases q;exact⟨ho,st _ _ (I.hok _ _ hd)⟩
  ·rw[aN hb]at q;exact st _ _ (I.hok _ _ q)
 have:=I.un (h':=s.heap) (t':=s.toks) hu hok;exact this
noncomputable def Itm (d:ju)(o:Obj)(kvs:List (List Key×V)):It:=
  ⟨λi H=>H d=some (.frz o (.dT kvs))/\i<kvs.length,
   λi H v H'=> ∃p b k x,v= .ref p/\H p=none/\H'=upd H p (.tup [.ref b,x])/\kvs[i]?=some (k,x)/\H b=some (.tup (k.map kV)),
   λi H=>H d=some (.frz o (.dT kvs))/\i=kvs.length⟩
theorem A8k {P:j9}{w:kl}{K:W.Frag}{es:List om}{x1}{pos:Pos}(it d:ju)(o:Obj)(kvs:List (List Key×V))(ens:Array wc)(ep:Nat)(hd:o.data= .dict ens ep)(hz:ens.size=kvs.length):
  fX P w K (.Tuple es x1 pos) (Itm d o kvs) [it] it (λi h=> ∃ok ov,Cc h it d i ens.size ep ok ov)where
 mem:=by simp
 obj:=λi h ⟨ok,ov,st⟩ c hc=>by
  rw[fy.mp hc];exact⟨_,st,λv z=>by cases z⟩
 keep:=λi h h' ⟨ok,ov,st⟩ kp=> ⟨ok,ov,kp it (by simp) _ st⟩
 item:=by
  intro X hP hw hK hc i kb s σ H E I hf st hg;subst hP hw hK;obtain⟨ok,ov,st⟩:=st;obtain⟨g1,g2⟩:=hg;obtain⟨ho,ob⟩:=(show ObjOk X.prog X.w H s.heap d (.frz o (.dT kvs))from I.hok _ _ g1);obtain⟨_,_,xs,rp,o',es',ep',ho',hx',hd',he',_⟩:=ob;rw[ho]at ho';cases ho';rw[hd]at hd';cases hd';have hi:i<ens.size:=by omega
  have hxs:xs.length=kvs.length:=(Paired.length rp).symm;have hki:kvs[i]?=some kvs[i]:=cx g2;have hxi:i<xs.length:=by omega
  have hent:ens[i]=B7 (qd (cH X.prog X.w)) xs[i]:=by
   have:=entry_at (knd:=qd (cH X.prog X.w)) he' i;rw[ph hi,cx hxi]at this;exact j7 this
  have hpr:kvs[i].1=xs[i].1/\H xs[i].2.1=some (.tup (kvs[i].1.map kV))/\RelV kvs[i].2 xs[i].2.2:=by
   have go:∀(l:List (List Key×V))(m:List (List Key×ju×jt))(j:Nat)(a:j<l.length)(b:j<m.length),Paired (λ(p:List Key×V) (q:List Key×ju×jt)=>p.1=q.1/\H q.2.1=some (.tup (p.1.map kV))/\RelV p.2 q.2.2) l m->l[j].1=m[j].1/\H m[j].2.1=some (.tup (l[j].1.map kV))/\RelV l[j].2 m[j].2.2:=by
    intro l m j a b r
    induction r generalizing j with
    |nil=>cases a
    |cons r t ih=>
     cases j with
     |zero=>exact r
     |succ j=>exact ih j (by simpa using a) (by simpa using b)
   exact go kvs xs i g2 hxi rp
  refine qN st ho hd hi (.inl ⟨rfl,rfl,λh' g1' g2' g3' g4'=> ?_⟩);refine⟨_,rfl,wpAny_letOwnedTupleGo_items (s:={s with heap:=h'}) g1' λh2 hz2 hs2=> ?_⟩;have lz:s.heap.objs.size≠it:=jn (CO st);have hn:H s.heap.objs.size=none:=I.hok.fresh (CT _);have kp:∀c o,c∉[it]->s.heap.get? c=some o->h2.get? c=some o:=λc o hc' q=>by
   have c1:c≠it:=λe=>hc' (by simp[e]);exact(hs2.2 c c1).trans (g4' c o c1 q)
  have hT2:=(hs2.2 _ lz).trans g2';rw[hent]at hT2;have I2:Inv X kb σ (upd H s.heap.objs.size (.tup [.ref xs[i].2.1,kvs[i].2])) {s with heap:=h2,toks:=s.toks}:=I.turnLaid (fp:=[it]) kp hf (CT _) ⟨by show 2<=jv;rw[ko];decide,[.ref xs[i].2.1,xs[i].2.2],.cons rfl (.cons hpr.2.2 .nil),⟨_,hT2,rfl,_,rfl⟩⟩;refine⟨.ref s.heap.objs.size,_,I2,rfl,⟨s.heap.objs.size,xs[i].2.1,kvs[i].1,kvs[i].2,rfl,hn,rfl,hki,hpr.2.1⟩,⟨_,_,hz2⟩,λc hc'=> ?_⟩;rw[fy.mp hc',aN lz.symm];exact(hf it (by simp)).1
 done:=by
  intro X hP hw hK hc i kb s σ H E I hf st hg;subst hP hw hK;obtain⟨ok,ov,st⟩:=st;obtain⟨g1,g2⟩:=hg;obtain⟨ho,ob⟩:=(show ObjOk X.prog X.w H s.heap d (.frz o (.dT kvs))from I.hok _ _ g1);refine qL (I.ok.hd hc) st ho hd (by omega) λh' hk=> ⟨rfl,?_⟩;exact I.turnedL (fp:=[it]) (t':=s.toks) (λc o hc' q=>hk c o (λe=>hc' (by simp[e])) q) hf
 self:=λ_ _ _ _ _ ⟨ok,ov,st⟩ h=>A52 st h
noncomputable def A36 (td:TE):TI:=λσ H R=>td σ H λx H1=> ∃d kvs,x= .ref d/\H1 d=some (.dT kvs)/\∀o,R (Itm d o kvs) (upd H1 d (.frz o (.dT kvs)))
theorem B4u {a:om}{td:TE}{apos CF:Pos}{es:List om}{x1}{tpos:Pos}(ha:PE X a td)(hbase:Aw a "items" X.env (sf a X.env)=sf a X.env:=by rfl)(hline:(apos.endLine==CF.line)=true:=by rfl):
  PI X (.Tuple es x1 tpos) (.Call (.Attribute a "items" apos) [] [] CF) (A36 td):=by
 intro kb s σ H R I h;refine AQ hbase hline (thn (ha kb s σ H _ I h) λv s1 ⟨x,H1,I1,r1,d,kvs,e,q1,q⟩=> ?_);subst e;cases r1;obtain⟨_,hs,xs,rp,o,ens,ep,ho,hx,hd,he,_⟩:=(show ObjOk X.prog X.w H1 s1.heap d (.dT kvs)from I1.hok _ _ q1);have hsz:ens.size=kvs.length:=by rw[size_of_entries he];exact(Paired.length rp).symm
 refine⟨"dict","dict.items",um,AR,AS,⟨o,ho,hx.1⟩,λa e=>by cases e;exact⟨o,ho,hx.2.1⟩,qw rfl (PySem.evalArgs_none ?_)⟩;refine zJ ho hx hs ?_;refine yZ (s:={s1 with heap:=s1.heap.push {cls:=.type "dict_items",data:=.fields #[.ref d]}}) ⟨_,iy _ rfl,rfl,rfl⟩ (CK _ ho) hd ?_;have kp:∀b ob,s1.heap.get? b=some ob->((s1.heap.push {cls:=.type "dict_items",data:=.fields #[.ref d]}).push {cls:=.type "dict_itemiterator",data:=.fields #[.none,.bool false,.ref d,.int 0 0,.int ens.size 0,.int ep 0,.none,.none]}).get? b=some ob:=λb ob e=>CK _ (CK _ e);have I2:=(I1.freeze (by rw[q1];trivial) q1 ho).kept (t':=s1.toks) kp;refine⟨_,[_],_,_,_,rfl,I2,A8k _ d o kvs ens ep hd hsz,⟨_,_,iy _ rfl⟩,λc hc=> ?_,q o⟩;rw[fy.mp hc];have hge:s1.heap.objs.size<=(s1.heap.push {cls:=.type "dict_items",data:=.fields #[.ref d]}).objs.size:=by rw[i6];exact jc _
 exact I1.fpOk hge (by rw[aN (jn (jf (CO ho) hge))];exact I1.hok.fresh hge)
theorem A1d:cV X (.builtin "isinstance") (λxs H Q=> ∃x t ty b,∃Ts:List String,xs=[x,.ref t]/\H t=some (.tup (Ts.map V.ty))/\TyOf X.K H x ty/\(∃T,ty= .type T)/\W.kitAny X.K ty (Ts.map oj)=some b/\Q (.bl b) H):=by
 intro kb s σ H xs us Q I r h;obtain⟨x,t,ty,b,Ts,rfl,ht,hty,⟨T,rfl⟩,k,q⟩:=h;obtain⟨u,w',rfl,rx,ry⟩:=jT r;cases ry;obtain⟨lu,rv,⟨⟨c1,d1,t1,l1⟩,ho,hc,n,hd⟩,_⟩:=I.tuple (CY.of ht);simp only at hc hd;subst hc hd;have e:lu=Ts.map oj:=by
  have go:∀(Ts:List String)(us:List jt),Vals (Ts.map V.ty) us->us=Ts.map oj:=by
   intro Ts
   induction Ts with
   |nil=>intro us h;cases h;rfl
   |cons T Ts ih=>intro us h;cases h with|cons a b=>rw[show _=oj T from a,ih _ b];rfl
  exact go Ts lu rv
 subst e;have fin:∀tk,EP X kb σ Q (.bool b) {s with toks:=tk}:=λtk=> ⟨.bl b,H,I.tok _,rfl,q⟩;obtain⟨_,z,p,nb⟩:=A22 I rx hty;exact W.kia_tup z I.kIn p ho k nb fin
theorem PI.or (h1:PI X tg iter w1)(h2:PI X tg iter w2):PI X tg iter (λσ H R=>w1 σ H R\/w2 σ H R):=by
 intro kb s σ H R I h;rcases h with h|h
 ·exact h1 kb s σ H R I h
 ·exact h2 kb s σ H R I h
noncomputable abbrev C3:=Int×Int×Int
noncomputable def ClP (H:Hp)(bs:List ju)(cl:List C3):Prop:=Paired (λb (c:C3)=>H b=some (.tup [.int c.1,.int c.2.1,.int c.2.2])) bs cl
theorem ClP.ext (h:ClP H bs cl)(e:Ext H H'):ClP H' bs cl:=Paired.mapP h λ_ _ z=>e.tup _ _ z
theorem ClP.get:∀{bs:List ju}{cl:List C3}{i:Nat}{b:ju},ClP H bs cl->bs[i]?=some b->∃c,cl[i]?=some c/\H b=some (.tup [.int c.1,.int c.2.1,.int c.2.2]):=λh e=>jG h e
noncomputable def ClT (H:Hp)(a:ju)(cl:List C3):Prop:=∃bs,H a=some (.tup (bs.map V.ref))/\ClP H bs cl
theorem ClT.ext (h:ClT H a cl)(e:Ext H H'):ClT H' a cl:=let ⟨bs,h1,h2⟩:=h;⟨bs,e.tup _ _ h1,h2.ext e⟩
structure fC (cs:List Int):Prop where
 l1:1<=cs.length
 l6:cs.length<=6
 num:∀x∈cs,1<=x/\x<=100
noncomputable def lt2 (a b:Int×Int):Bool:=HT.lexLt [a.1,a.2] [b.1,b.2]
noncomputable def bR (c:C3):Int×Int:=(c.1,c.2.1)
structure fQ (cl:List C3):Prop where
 l1:1<=cl.length
 l12:cl.length<=12
 num:∀c∈cl,(0<=c.1/\c.1<=3)/\(0<=c.2.1/\c.2.1<=5)/\1<=c.2.2/\c.2.2<=20
 up:(cl.map bR).Pairwise λa b=>lt2 a b=true
noncomputable def iD (cs:List Int)(cl:List C3):Prop:=∀c∈cl,c.2.1<cs.length
noncomputable def fI (H:Hp)(a:ju)(cs:List Int):Prop:=H a=some (.tup (cs.map V.int))
noncomputable def Wk (J:It)(xs:List V)(S:Hp->Prop):Prop:=∀{g:TG}{tb:TS}{D:dC}{σ:St}{H:Hp}(Pv:Nat->St->Hp->Prop),Pv 0 σ H->(∀i σ H,i<=xs.length->Pv i σ H->S H)->
 (∀i x σ H,xs[i]?=some x->Pv i σ H->g x σ H λσ2 H2=>tb {D with nx:=Pv (i+1),ct:=Pv (i+1),bk:=D.nx} σ2 H2)->(∀σ H,Pv xs.length σ H->D.nx σ H)->cP J g tb D σ H
theorem gM {K:W.Frag}{a:ju}{xs:List V}:Wk (Itt K a) xs λH=>CY K H a xs:=λPv h0 hl hs hd=>gC Pv h0 hl hs hd
theorem gH {K:W.Frag}{a:ju}{xs:List V}:Wk (Itl K a) xs λH=>CW K H a xs:=λPv h0 hl hs hd=>eU Pv h0 hl hs hd
theorem mJ {K:y7}{J:It}{S:Hp->Prop}{l:ju}{bs:List ju}{cl:List C3}{te:TE}{H0:Hp}{rest:St}{Q:St->Hp->Prop}(W:Wk J (bs.map V.ref) S)(hS:∀H',Same H0 H'->S H')(hC:ClP H0 bs cl)(hl:H0 l=none)(hz:bs.length<=1000)(f:C3->V)
  (turn:∀c H' Q',c∈cl->Same H0 H'->(∀H2,Same H' H2->Q' (f c) H2)->te (some (.int c.1)::some (.int c.2.1)::some (.int c.2.2)::rest) H' Q')(hQ:∀σ H',Same H0 H'->H' l=some (.lst (cl.map f))->Q σ H'):
  cP J (iR K 3 (fA (cN 0) (fA (cN 1) (fA (cN 2) iS)))) (cL gK (eN l te)) (eC Q) (none::none::none::rest) (upd H0 l (.lst [])):=by
 have ue:bs.length=cl.length:=Paired.length hC;refine W (λi σ H'=>(∃x y z,σ=x::y::z::rest)/\Same H0 H'/\H' l=some (.lst ((cl.take i).map f))) ⟨⟨_,_,_,rfl⟩,aK hl,by rw[aG];rfl⟩ (λi σ H' _ h=>hS _ h.2.1) ?_ ?_
 ·rintro i x σ H' hx ⟨⟨x0,y0,z0,rfl⟩,hs,Ao⟩;rw[cy]at hx;cases hb:bs[i]? with
  |none=>rw[hb]at hx;cases hx
  |some b=>
   rw[hb]at hx;cases hx;obtain⟨c,hc,he⟩:=hC.get hb;refine⟨b,_,rfl,CY.of (hs _ _ he),rfl,_,_,rfl,_,_,rfl,_,_,rfl,rfl,?_⟩;refine gX ?_;refine turn c H' _ (fq hc) hs λH2 h2=> ?_;refine⟨_,h2 _ _ Ao,cO (by rw[di,du];omega),⟨_,_,_,rfl⟩,λb u e=> ?_,?_⟩
   ·rw[aN (bG e hl)];exact h2 _ _ (hs _ _ e)
   ·rw[aG,iu,hc,dz];rfl
 ·rintro σ H' ⟨_,hs,Ao⟩;rw[di,ue,iq (CT _)]at Ao;exact hQ σ H' hs Ao
theorem B12 {K:y7}{J:It}{S:Hp->Prop}{l:ju}{bs:List ju}{cl:List C3}{H0:Hp}{Q:St->Hp->Prop}(W:Wk J (bs.map V.ref) S)(hS:∀H',Same H0 H'->S H')(hC:ClP H0 bs cl)(hl:H0 l=none)(hz:bs.length<=1000)
  (hQ:∀σ H' ps,Same H0 H'->H' l=some (.lst (ps.map V.ref))->PlAt H' ps (cl.map bR)->Q σ H'):
  cP J (iR K 3 (fA (cN 0) (fA (cN 1) (fA (cN 2) iS)))) (cL gK (eN l (jW (bX (dE 0) (bX (dE 1) iJ))))) (eC Q) [none,none,none] (upd H0 l (.lst [])):=by
 have ue:bs.length=cl.length:=Paired.length hC;refine W (λi σ H'=>σ.length=3/\Same H0 H'/\∃ps:List ju,H' l=some (.lst (ps.map V.ref))/\PlAt H' ps ((cl.take i).map bR)) ⟨rfl,aK hl,[],by rw[aG];rfl,.nil⟩ (λi σ H' _ h=>hS _ h.2.1) ?_ ?_
 ·rintro i x σ H' hx ⟨hσ,hs,ps,Ao,hP⟩;obtain⟨x0,y0,z0,rfl⟩:=xI hσ;rw[cy]at hx;cases hb:bs[i]? with
  |none=>rw[hb]at hx;cases hx
  |some b=>
   rw[hb]at hx;cases hx;obtain⟨c,hc,he⟩:=hC.get hb;have hpl:ps.length<=i:=by have:=Paired.length hP;rw[di,du]at this;omega
   have hil:i<bs.length:=(CL.mp hb).1;refine⟨b,_,rfl,CY.of (hs _ _ he),rfl,_,_,rfl,_,_,rfl,_,_,rfl,rfl,?_⟩;refine gX ?_;refine⟨_,rfl,_,rfl,by show 2<=jv;decide,λq hq=> ?_⟩;have s2:=aK (o:=.tup [.int c.1,.int c.2.1]) hq;have hlq:q≠l:=λz=>by rw[z,Ao]at hq;cases hq
   refine⟨_,s2 _ _ Ao,cO (by rw[di];omega),rfl,λb u e=> ?_,ps++[q],?_,?_⟩
   ·rw[aN (bG e hl)];exact s2 _ _ (hs _ _ e)
   ·rw[aG,dz];rfl
   ·rw[iu,hc,dz];refine PlAt.snoc (Paired.mapP hP λp c' e=> ?_) (by rw[aN hlq,aG];rfl);have e':=s2 _ _ e;rw[aN (λz=>by rw[z,s2 _ _ Ao]at e';cases e')];exact e'
 ·rintro σ H' ⟨_,hs,ps,Ao,hP⟩;rw[di,ue,iq (CT _)]at hP;exact hQ σ H' ps hs Ao hP
noncomputable def E3 (R:V->V->Bool->Prop):List V->List V->List Bool->Prop
 | [],[],[]=>True
 |x::xs,y::ys,k::ks=>R x y k/\E3 R xs ys ks
 |_,_,_=>False
noncomputable def EqF (a b:V)(k:Bool):Prop:=(∃i j,a= .int i/\b= .int j/\k=decide (i=j))\/ ∃x y,a= .str x/\b= .str y/\k=decide (x=y)
noncomputable def C2 (H:Hp):Nat->V->V->Bool->Prop
 |0,a,b,k=>EqF a b k
 |n+1,a,b,k=>EqF a b k\/ ∃p q xs ys ks,a= .ref p/\b= .ref q/\((H p=some (.tup xs)/\H q=some (.tup ys))\/(H p=some (.lst xs)/\H q=some (.lst ys)))/\E3 (C2 H n) xs ys ks/\k=ks.all id
theorem E3.len:∀{xs ys:List V}{ks:List Bool},E3 R xs ys ks->xs.length=ys.length/\xs.length=ks.length
 | [],[],[],_=> ⟨rfl,rfl⟩
 |x::xs,y::ys,k::ks,h=>by
  have:=E3.len h.2;simp only[c9];omega
 | [],[],_::_,h=>h.elim
 | [],_::_,_,h=>h.elim
 |_::_,[],_,h=>h.elim
 |_::_,_::_,[],h=>h.elim
theorem E3.get:∀{xs ys:List V}{ks:List Bool}{i:Nat}{x y:V},E3 R xs ys ks->xs[i]?=some x->ys[i]?=some y->∃k,ks[i]?=some k/\R x y k
 |x::xs,y::ys,k::ks,0,_,_,h,h1,h2=>by cases h1;cases h2;exact⟨k,rfl,h.1⟩
 |x::xs,y::ys,k::ks,i+1,_,_,h,h1,h2=>E3.get (i:=i) h.2 (by simpa using h1) (by simpa using h2)
 | [],_,_,_,_,_,_,h1,_=>by simp at h1
 |_::_,[],_,_,_,_,h,_,_=>h.elim
 |_::_,_::_,[],_,_,_,h,_,_=>h.elim
theorem EqF.refl_true (h:EqF a a k):k=true:=by
 rcases h with⟨i,j,h1,h2,h3⟩| ⟨x,y,h1,h2,h3⟩
 ·rw[h1]at h2;rw[h3,V.int.inj h2];simp
 ·rw[h1]at h2;rw[h3,V.str.inj h2];simp
theorem C2.refl_true:∀{n:Nat}{a:V}{k:Bool},C2 H n a a k->k=true
 |0,a,k,h=>EqF.refl_true h
 |n+1,a,k,h=>by
  rcases h with h| ⟨p,q,xs,ys,ks,h1,h2,h3,h4,h5⟩
  ·exact EqF.refl_true h
  ·rw[h1]at h2;cases h2;have e:xs=ys:=by
    rcases h3 with⟨u,v⟩| ⟨u,v⟩
    ·rw[u]at v;cases v;rfl
    ·rw[u]at v;cases v;rfl
   subst e;rw[h5,aa];have go:∀{xs:List V}{ks:List Bool},E3 (C2 H n) xs xs ks->∀k∈ks,id k=true:=fun{xs ks}=>by
    induction xs generalizing ks with
    |nil=>intro h k hk;cases ks with|nil=>cases hk|cons _ _=>exact h.elim
    |cons x xs ih=>
     intro h k hk;cases ks with
     |nil=>cases hk
     |cons k0 ks=>
      rcases fe.mp hk with z|z
      ·rw[z];exact C2.refl_true h.1
      ·exact ih h.2 k z
   exact go h4
theorem C2.int (n:Nat)(i j:Int):C2 H n (.int i) (.int j) (decide (i=j)):=by
 cases n with
 |zero=>exact .inl ⟨i,j,rfl,rfl,rfl⟩
 |succ n=>exact .inl (.inl ⟨i,j,rfl,rfl,rfl⟩)
theorem A00 (ks:List Bool):(kz ks.length).all (λj=>ks.getD j true)=ks.all id:=by
 rw[k6,aa,aa];constructor
 ·intro h k hk;obtain⟨j,hj,e⟩:=yz hk;have:=h j (by simpa using hj);rw[show ks.getD j true=ks[j] by simp[hj],e]at this;exact this
 ·intro h j hj;have hj':j<ks.length:=by simpa using hj
  rw[show ks.getD j true=ks[j] by simp[hj']];exact h _ (c5 _)
theorem nF (ih:∀{a b:V}{k:Bool}{u v:jt},C2 H n a b k->RelV a u->RelV b v->nz A s u v k)(h4:E3 (C2 H n) xs ys ks)(r1:Vals xs us)(r2:Vals ys ws):
  ∀j (h1:j<us.toArray.size)(h2:j<ws.toArray.size),nz A s us.toArray[j] ws.toArray[j] (ks.getD j true):=λj h1 h2=>by
 have hl:=h4.len;have l1:=r1.length;have l2:=r2.length;rw[ic]at h1 h2;have j1:j<xs.length:=by omega
 have j2:j<ys.length:=by omega
 obtain⟨u,hu,ru⟩:=r1.get (cx j1);obtain⟨v,hv,rv⟩:=r2.get (cx j2);obtain⟨k,hk,e⟩:=h4.get (cx j1) (cx j2);have eu:us.toArray[j]=u:=by
  have:=(CL.mp hu).2;simpa using this
 have ev:ws.toArray[j]=v:=by
  have:=(CL.mp hv).2;simpa using this
 rw[eu,ev,show ks.getD j true=k by rw[cm,hk];rfl];exact ih e ru rv
theorem sU (I:Inv X kb σ H s)(hu:A.units<nj)(ih:∀{a b:V}{k:Bool}{u v:jt},C2 H n a b k->RelV a u->RelV b v->nz A.in1 s u v k)
  (h3:(H p=some (.tup xs)/\H q=some (.tup ys))\/(H p=some (.lst xs)/\H q=some (.lst ys)))(h4:E3 (C2 H n) xs ys ks):xi A s (.ref p) (.ref q) (ks.all id)/\zf A s (.ref p) (.ref q) (!ks.all id):=by
 have hl:=h4.len;rcases h3 with⟨hp,hq⟩| ⟨hp,hq⟩
 ·obtain⟨us,r1,p1,_⟩:=I.tuple (CY.of hp);obtain⟨ws,r2,p2,_⟩:=I.tuple (CY.of hq);have l1:=r1.length;have l2:=r2.length;have e:((kz (min us.toArray.size ws.toArray.size)).all (λj=>ks.getD j true)&&us.toArray.size==ws.toArray.size)=ks.all id:=by
   rw[ic,ic,show min us.length ws.length=ks.length by omega,A00,show us.length=ws.length by omega];simp
  have k1:=An p1 p2 hu (nF ih h4 r1 r2);have k2:=zf.tuples p1 p2 hu (nF ih h4 r1 r2);rw[e]at k1 k2;exact⟨k1,k2⟩
 ·obtain⟨us,r1,p1,_⟩:=I.list (CW.of hp);obtain⟨ws,r2,p2,_⟩:=I.list (CW.of hq);have l1:=r1.length;have l2:=r2.length;have e:(kz us.toArray.size).all (λj=>ks.getD j true)=ks.all id:=by rw[ic,show us.length=ks.length by omega,A00]
  have hz:us.toArray.size=ws.toArray.size:=by rw[ic,ic];omega
  have k1:=xi.lists p1.isList p2.isList hz hu (nF ih h4 r1 r2);have k2:=zf.lists p1.isList p2.isList hz hu (nF ih h4 r1 r2);rw[e]at k1 k2;exact⟨k1,k2⟩
theorem qH (I:Inv X kb σ H s):∀{n:Nat}{A:mh}{a b:V}{k:Bool}{u v:jt},A.units+n<nj->C2 H n a b k->RelV a u->RelV b v->nz A s u v k:=by
 have flat:∀{A:mh}{a b:V}{k:Bool}{u v:jt},EqF a b k->RelV a u->RelV b v->nz A s u v k:=fun{A a b k u v} h ra rb=>by
  rcases h with⟨i,j,rfl,rfl,rfl⟩| ⟨x,y,rfl,rfl,rfl⟩
  ·obtain⟨t,rfl⟩:=ra;obtain⟨t',rfl⟩:=rb;have:=xg (A:=A) (s:=s) i t j t'
   rwa [show(i==j)=decide (i=j) by rw[k6];simp]at this
  ·obtain⟨t,rfl⟩:=ra;obtain⟨t',rfl⟩:=rb;have:=nz.str_str (A:=A) (s:=s) x t y t'
   rwa [show(x==y)=decide (x=y) by rw[k6];simp]at this
 intro n
 induction n with
 |zero=>intro A a b k u v _ h ra rb;exact flat h ra rb
 |succ n ih=>
  intro A a b k u v hu h ra rb;rcases h with h| ⟨p,q,xs,ys,ks,rfl,rfl,h3,h4,rfl⟩
  ·exact flat h ra rb
  ·cases ra;cases rb;by_cases hpq:p=q
   ·subst hpq;have:(ks.all id)=true:=C2.refl_true (n:=n+1) (H:=H) (a:=.ref p) (.inr ⟨p,p,xs,ys,ks,rfl,rfl,h3,h4,rfl⟩);rw[this];exact nz.same _
   ·exact nz.of_refs hpq (sU I (by omega) (λe r1 r2=>ih (show A.in1.units+n<nj by show A.units+1+n<nj;omega) e r1 r2) h3 h4).1
noncomputable def wG (n:Nat)(g:Bool->Bool):R2:=λx y H Q=> ∃p q xs ys ks,x= .ref p/\y= .ref q/\((H p=some (.tup xs)/\H q=some (.tup ys))\/(H p=some (.lst xs)/\H q=some (.lst ys)))/\E3 (C2 H n) xs ys ks/\Q (.bl (g (ks.all id))) H
theorem A3q (n:Nat)(hu:X.A.units+n+1<nj):OpR X (nv .Eq) (wG n id):=by intro kb s σ H x y v u Q I rx ry h;obtain⟨p,q,xs,ys,ks,rfl,rfl,h3,h4,hq⟩:=h;cases rx;cases ry;exact(sU I (by omega) (λe r1 r2=>qH I (show X.A.in1.units+n<nj by show X.A.units+1+n<nj;omega) e r1 r2) h3 h4).1 X.prog X.w X.xe _ ⟨.bl _,H,I,rfl,hq⟩
theorem B1h (n:Nat)(hu:X.A.units+n+1<nj):OpR X (nv .NotEq) (wG n not):=by intro kb s σ H x y v u Q I rx ry h;obtain⟨p,q,xs,ys,ks,rfl,rfl,h3,h4,hq⟩:=h;cases rx;cases ry;exact(sU I (by omega) (λe r1 r2=>qH I (show X.A.in1.units+n<nj by show X.A.units+1+n<nj;omega) e r1 r2) h3 h4).2 X.prog X.w X.xe _ ⟨.bl _,H,I,rfl,hq⟩
noncomputable def A3b (n:Nat)(g:Bool->Bool):R2:=λx y H Q=> ∃q xs ks,y= .ref q/\(H q=some (.tup xs)\/H q=some (.lst xs))/\E3 (C2 H n) xs (xs.map λ_=>x) ks/\Q (.bl (g (ks.any id))) H
theorem wT:∀{a b:V}{u:jt},RelV a u->RelV b u->a=b:=fun{a b u} ha hb=>by
 cases a<;>cases b<;>simp only[RelV]at ha hb<;>first
  |rfl
  | (subst ha;cases hb;rfl)
  | (subst ha;cases hb;done)
  | (obtain⟨t,rfl⟩:=ha;obtain⟨t',e⟩:=hb;cases e;rfl)
  | (obtain⟨t,rfl⟩:=ha;obtain⟨t',e⟩:=hb;cases e;done)
  | (obtain⟨t,rfl⟩:=ha;cases hb;done)
  | (obtain⟨t,rfl⟩:=hb;cases ha;done)
theorem EqF.func (h:EqF a b k)(h':EqF a b k'):k=k':=by
 rcases h with⟨i,j,rfl,rfl,rfl⟩| ⟨x,y,rfl,rfl,rfl⟩
 ·rcases h' with⟨i',j',h1,h2,rfl⟩| ⟨x,y,h1,h2,rfl⟩
  ·cases h1;cases h2;rfl
  ·cases h1
 ·rcases h' with⟨i',j',h1,h2,rfl⟩| ⟨x',y',h1,h2,rfl⟩
  ·cases h1
  ·cases h1;cases h2;rfl
theorem EqF.noref (h:EqF (.ref p) b k):False:=by rcases h with⟨i,j,h1,_⟩| ⟨x,y,h1,_⟩<;>cases h1
theorem C2.func:∀{n:Nat}{a b:V}{k k':Bool},C2 H n a b k->C2 H n a b k'->k=k'
 |0,a,b,k,k',h,h'=>EqF.func h h'
 |n+1,a,b,k,k',h,h'=>by
  rcases h with h| ⟨p,q,xs,ys,ks,rfl,rfl,h3,h4,rfl⟩
  ·rcases h' with h'| ⟨p,q,xs,ys,ks,rfl,rfl,h3,h4,rfl⟩
   ·exact EqF.func h h'
   ·exact h.noref.elim
  ·rcases h' with h'| ⟨p',q',xs',ys',ks',e1,e2,h3',h4',rfl⟩
   ·exact h'.noref.elim
   ·cases e1;cases e2;have ex:xs=xs'/\ys=ys':=by
     rcases h3 with⟨u,v⟩| ⟨u,v⟩<;>rcases h3' with⟨u',v'⟩| ⟨u',v'⟩<;>rw[u]at u'<;>rw[v]at v'<;>cases u'<;>cases v'<;>exact⟨rfl,rfl⟩
    obtain⟨rfl,rfl⟩:=ex;have go:∀{xs ys:List V}{ks ks':List Bool},E3 (C2 H n) xs ys ks->E3 (C2 H n) xs ys ks'->ks=ks':=fun{xs}=>by
     induction xs with
     |nil=>
      intro ys ks ks' g g';cases ys with
      |nil=>
       cases ks with
       |nil=>cases ks' with|nil=>rfl|cons _ _=>exact g'.elim
       |cons _ _=>exact g.elim
      |cons _ _=>exact g.elim
     |cons x xs ih=>
      intro ys ks ks' g g';cases ys with
      |nil=>exact g.elim
      |cons y ys=>
       cases ks with
       |nil=>exact g.elim
       |cons k ks=>
        cases ks' with
        |nil=>exact g'.elim
        |cons k' ks'=>rw[C2.func g.1 g'.1,ih g.2 g'.2]
    rw[go h4 h4']
open Classical in
theorem zG (he:∀a u k,RelV a u->C2 H n a x k->e u=k):∀{xs:List V}{us:List jt}{ks:List Bool},Vals xs us->E3 (C2 H n) xs (xs.map λ_=>x) ks->us.any e=ks.any id
 | [],_,[],.nil,_=>rfl
 | [],_,_::_,.nil,h=>h.elim
 |y::xs,_,k::ks,.cons r t,h=>by
  rw[af,af,he _ _ _ r h.1,zG he t h.2];rfl
 |_::_,_,[],.cons _ _,h=>h.elim
open Classical in
theorem mZ (I:Inv X kb σ H s)(hu:A.units+n<nj)(rx:RelV x v)(r:Vals xs us)(h:E3 (C2 H n) xs (xs.map λ_=>x) ks):
  ∃e:jt->Bool,(∀y∈us,nz A s y v (e y))/\us.any e=ks.any id:=by
 refine⟨λy=>decide (∃a,RelV a y/\C2 H n a x true),λy hy=> ?_,zG (λa u k ra hk=> ?_) r h⟩
 ·obtain⟨j,hj,e⟩:=yz hy;have hl:=r.length;have hjx:j<xs.length:=by omega
  obtain⟨u,hu',ru⟩:=r.get (cx hjx);have eu:u=y:=by
   rw[cx hj,e]at hu';exact(j7 hu').symm
  subst eu;obtain⟨k,hk,ek⟩:=h.get (cx hjx) (y:=x) (by rw[cy,cx hjx];rfl);have:decide (∃a,RelV a u/\C2 H n a x true)=k:=by
   cases k with
   |true=>exact CM ⟨_,ru,ek⟩
   |false=>
    refine CN ?_;rintro⟨a,ra,ea⟩;have:=wT ra ru;subst this;cases C2.func ek ea
  show nz A s u v (decide (∃a,RelV a u/\C2 H n a x true));rw[this];exact qH I hu ek ru rx
 ·cases k with
  |true=>exact CM ⟨a,ra,hk⟩
  |false=>
   refine CN ?_;rintro⟨b,rb,eb⟩;have:=wT rb ra;subst this;cases C2.func hk eb
theorem oK (n:Nat)(hu:X.A.units+n+1<nj):OpR X (nv .In) (A3b n id):=by
 intro kb s σ H x y v u Q I rx ry h;obtain⟨q,xs,ks,rfl,hq,h4,hQ⟩:=h;cases ry;have hu':X.A.in1.units+n<nj:=by show X.A.units+1+n<nj;omega
 rcases hq with hq|hq
 ·obtain⟨us,r,p,_⟩:=I.tuple (CY.of hq);obtain⟨e,e1,e2⟩:=mZ I hu' rx r h4;refine SeqAt.in_tupleAt e p (λy hy=>e1 y (by simpa using hy)) ⟨.bl _,H,I,rfl,?_⟩;rw[show us.toArray.any e=us.any e by simp,e2];exact hQ
 ·obtain⟨us,r,p,_⟩:=I.list (CW.of hq);obtain⟨e,e1,e2⟩:=mZ I hu' rx r h4;refine SeqAt.in_listAt e p.isList (λy hy=>e1 y (by simpa using hy)) ⟨.bl _,H,I,rfl,?_⟩;rw[show us.toArray.any e=us.any e by simp,e2];exact hQ
theorem nY (n:Nat)(hu:X.A.units+n+1<nj):OpR X (nv .NotIn) (A3b n not):=by
 intro kb s σ H x y v u Q I rx ry h;obtain⟨q,xs,ks,rfl,hq,h4,hQ⟩:=h;cases ry;have hu':X.A.in1.units+n<nj:=by show X.A.units+1+n<nj;omega
 rcases hq with hq|hq
 ·obtain⟨us,r,p,_⟩:=I.tuple (CY.of hq);obtain⟨e,e1,e2⟩:=mZ I hu' rx r h4;refine SeqAt.notIn_tupleAt e p (λy hy=>e1 y (by simpa using hy)) ⟨.bl _,H,I,rfl,?_⟩;rw[show us.toArray.any e=us.any e by simp,e2];exact hQ
 ·obtain⟨us,r,p,_⟩:=I.list (CW.of hq);obtain⟨e,e1,e2⟩:=mZ I hu' rx r h4;refine SeqAt.notIn_listAt e p.isList (λy hy=>e1 y (by simpa using hy)) ⟨.bl _,H,I,rfl,?_⟩;rw[show us.toArray.any e=us.any e by simp,e2];exact hQ
end L2
namespace Grd
open PySem PyProof.Rows
noncomputable def ltP (c d:Int×Int):Prop:=HT.lexLt [c.1,c.2] [d.1,d.2]=true
theorem B35 (h:j<k):ltP (r,j) (r,k):=by unfold ltP;rw[HT.lexLt_cons,if_pos rfl,HT.lexLt_cons,if_neg (by show¬j=k;omega)];exact CM h
theorem B1m (h:r<s):ltP (r,j) (s,k):=by unfold ltP;rw[HT.lexLt_cons,if_neg (by show¬r=s;omega)];exact CM h
theorem yF (xs:List α):xs.zipIdx.Pairwise λa b=>a.2<b.2:=by rw[gu];intro i j hi hj hij;simp only[List.getElem_zipIdx];omega
theorem B4m (f:Int->Bool)(r:Int)(xs:List Int):(dO f r xs).Pairwise ltP:=by
 unfold dO;rw[List.pairwise_filterMap];refine(yF xs).imp fun{a b} h c hc d hd=> ?_;cases ha:f a.1 with
 |false=>simp[ha]at hc
 |true=>
  cases hb:f b.1 with
  |false=>simp[hb]at hd
  |true=>
   simp only[ha,if_true,pq]at hc;simp only[hb,if_true,pq]at hd;subst hc hd;exact B35 (by omega)
theorem oQ (f:Int->Bool)(g:bE):(aQ f g).Pairwise ltP:=by
 unfold aQ;rw[List.pairwise_flatten];refine⟨λl hl=> ?_,?_⟩
 ·obtain⟨p,_,rfl⟩:=fm.mp hl;exact B4m _ _ _
 ·rw[gv];refine(yF g).imp fun{a b} h c hc d hd=> ?_;obtain⟨e1,_⟩:=mem_rowF.mp hc;obtain⟨e2,_⟩:=mem_rowF.mp hd;obtain⟨c1,c2⟩:=c;obtain⟨d1,d2⟩:=d;dsimp only at e1 e2;subst e1 e2;exact B1m (by omega)
noncomputable def LandOf (g:bE)(cs:List (Int×Int)):Prop:=cs.Sublist (aQ pos g)
end Grd
namespace L2
open PySem Grd
theorem PlAt.at:∀{ps:List ju}{cs:List (Int×Int)}{i:Nat}{p:ju},PlAt H ps cs->ps[i]?=some p->∃c,cs[i]?=some c/\H p=some (.tup [.int c.1,.int c.2]):=λh e=>jG h e
theorem eY {ps:List ju}{i:Nat}{x:V}(h:(ps.map V.ref)[i]?=some x):∃p,ps[i]?=some p/\x= .ref p:=by
 rw[cy]at h;cases e:ps[i]? with
 |none=>rw[e]at h;cases h
 |some p=>rw[e]at h;exact⟨p,rfl,(j7 h).symm⟩
open PySem.Spec PyProof.Rows Wlk
theorem nD {x pos}(he:PE X (.Name x pos) te)(hr:PAq X es t):PAq X (.Name x pos::es) (bX te t):=by unfold PAq at*;exact aD he hr
noncomputable abbrev C4 (H:Hp)(p:ju)(c:Int×Int):Prop:=H p=some (.tup [.int c.1,.int c.2])
theorem C4.put (hl:H l=some (.lst xs))(h:C4 H p c):C4 (upd H l (.lst ys)) p c:=by have h':H p=some (.tup [.int c.1,.int c.2]):=h;show upd H l (.lst ys) p=_;rw[aN (λz=>by rw[z,hl]at h';cases h')];exact h
theorem A7g (h:t σ H λxs H1=>xs.length<=jv/\∀p,H1 p=none->D.rt (.ref p) (upd H1 p (.lst xs))):nU (rG t) D σ H:=h
theorem dI (hr:Room k A):A.units+1+1<nj:=zt (Nat.add_le_add_left (by decide:2<=64) _) hr.units
theorem B2b (h1:C4 H p c)(h2:C4 H q d)(n:Nat):C2 H (n+1) (.ref p) (.ref q) (decide (c=d)):=by refine .inr ⟨p,q,_,_,[decide (c.1=d.1),decide (c.2=d.2)],rfl,rfl,.inl ⟨h1,h2⟩,⟨C2.int _ _ _,C2.int _ _ _,trivial⟩,?_⟩;rw[k6];simp[Prod.ext_iff]
theorem iM (h:C4 H q d)(t:PlAt H ps cs):E3 (C2 H 1) (ps.map V.ref) ((ps.map V.ref).map λ_=>V.ref q) (cs.map λc=>decide (c=d)):=by
 unfold PlAt at t
 induction t with
 |nil=>trivial
 |cons r t ih=>exact⟨B2b r h 0,ih⟩
theorem A20 [DecidableEq α](l:List α)(x:α):(l.map λc=>decide (c=x)).any id=decide (x∈l):=by rw[k6,ai];simp
end L2
namespace Wlk
open PySem PyProof.Rows Srt
noncomputable abbrev f2 (s:gZ):List Int:=fl [s.1,s.2]
open Cyc Grd
noncomputable def rc (s:gZ):Pl:=if s.2.2=s.1.2+1 then s.1 else if s.2.1=s.1.1+1 then(s.1.1,s.1.2 - 1)else if s.2.2=s.1.2 - 1 then(s.1.1 - 1,s.1.2 - 1)else(s.1.1 - 1,s.1.2)
noncomputable def eC (land:List Pl)(x y:Int)(c:Pl):Nat:=(if c.1=x/\c.2+1<=y/\(c.1,c.2+1)∉land then 1 else 0)+(if c.1=x/\c.2<=y/\(c.1,c.2 - 1)∉land then 1 else 0)
noncomputable def turn (s:gZ):Int:=s.1.1*s.2.2 - s.2.1*s.1.2
noncomputable def beside (c:Pl):List Pl:=[(c.1 - 1,c.2),(c.1,c.2 - 1),(c.1,c.2+1),(c.1+1,c.2)]
theorem kG (h:d∈beside c):c∈beside d:=by
 obtain⟨a,b⟩:=c;unfold beside at h⊢;simp only[fe,gh,or_false]at h⊢;rcases h with rfl|rfl|rfl|rfl
 ·right;right;right;simp
 ·right;right;left;simp
 ·right;left;simp
 ·left;simp
noncomputable def gU (land P:List Pl):Prop:=∀x∈P,∀y∈beside x,y∈land->y∈P
structure rV (land:List Pl)(s:Pl)(P:List Pl):Prop where
 sub:∀x∈P,x∈land
 st:s∈P
 cl:gU land P
 min:∀C,gU land C->(∃x∈P,x∈C)->s∈C
 up:P.Pairwise ltP
noncomputable def nb (land R:List Pl)(x:Pl):List Pl:=(beside x).filter λy=>decide (y∈land)&& !decide (y∈R)
structure Rch (land:List Pl)(s:Pl)(R:List Pl)(k:Nat):Prop where
 sub:∀x∈R,x∈land
 nd:R.Nodup
 st:s∈R
 done:∀i x,i<k->R[i]?=some x->∀y∈beside x,y∈land->y∈R
 min:∀C,gU land C->∀x∈R,x∈C->s∈C
 le:k<=R.length
theorem B48 (x:Pl):(beside x).Nodup:=by obtain⟨a,b⟩:=x;unfold beside;simp only[f9,fe,gh,or_false,yj,not_or,not_false_eq_true,gg,and_true];omega
theorem mem_nb {land R:List Pl}{x y:Pl}:y∈nb land R x↔y∈beside x/\y∈land/\y∉R:=by unfold nb;rw[ff];simp
theorem Rch.start (h:s∈land):Rch land s [s] 0:=
 ⟨λx hx=>by rw[fy.mp hx];exact h,by simp,CQ,λi _ hi=>absurd hi (Nat.not_lt_zero i),λC _ x hx hC=>by rw[fy.mp hx]at hC;exact hC,js _⟩
theorem Rch.step {land R:List Pl}{s x:Pl}{k:Nat}(h:Rch land s R k)(hx:R[k]?=some x):Rch land s (R++nb land R x) (k+1):=by
 have hk:k<R.length:=(CL.mp hx).1;refine⟨λy hy=> ?_,?_,d9 _ h.st,λi y hi hy z hz hzl=> ?_,λC hC y hy hyC=> ?_,by rw[c8];omega⟩
 ·rcases d8.mp hy with e|e
  ·exact h.sub y e
  ·exact(mem_nb.mp e).2.1
 ·rw[f7];refine⟨h.nd,(B48 x).sublist bw,λa ha b hb e=> ?_⟩;subst e;exact(mem_nb.mp hb).2.2 ha
 ·rw[cp (by omega)]at hy;by_cases e:z∈R
  ·exact d9 _ e
  ·rcases jh i k with u|u
   ·exact absurd (h.done i y u hy z hz hzl) e
   ·have:i=k:=by omega
    rw[this,hx]at hy;cases hy;exact fc _ (mem_nb.mpr ⟨hz,hzl,e⟩)
 ·rcases d8.mp hy with e|e
  ·exact h.min C hC y e hyC
  ·have hxR:=fq hx;exact h.min C hC x hxR (hC y hyC x (kG (mem_nb.mp e).1) (h.sub x hxR))
theorem Rch.len {land R:List Pl}{s:Pl}{k:Nat}(h:Rch land s R k):R.length<=land.length:=gE h.nd h.sub
theorem Rch.fin {land R P:List Pl}{s:Pl}{k:Nat}(h:Rch land s R k)(hk:R.length<=k)(hp:P.Perm R)(hs:P.Pairwise λa b=>HT.lexLt [b.1,b.2] [a.1,a.2]=false):rV land s P:=by
 refine⟨λx hx=>h.sub x (hp.mem_iff.mp hx),hp.mem_iff.mpr h.st,λx hx y hy hl=> ?_,λC hC ⟨x,hx,hxC⟩=>h.min C hC x (hp.mem_iff.mp hx) hxC,?_⟩
 ·obtain⟨i,hi,e⟩:=fj.mp (hp.mem_iff.mp hx);exact hp.mem_iff.mpr (h.done i x (by omega) (CL.mpr ⟨hi,e⟩) y hy hl)
 ·have hnd:P.Nodup:=hp.nodup_iff.mpr h.nd;refine(hs.and (gc.mp hnd)).imp fun{a b} z=> ?_;unfold ltP;cases e:HT.lexLt [a.1,a.2] [b.1,b.2]with
  |true=>rfl
  |false=>
   have:=kI e z.1;refine absurd ?_ z.2;obtain⟨a1,a2⟩:=a;obtain⟨b1,b2⟩:=b;simp only[yu,and_true]at this;rw[this.1,this.2]
open L2
theorem rK (a:Pl):¬ltP a a:=λz=>by unfold ltP at z;rw[gL]at z;cases z
theorem A8c (h1:ltP a b)(h2:ltP b c):ltP a c:=lF h1 h2
theorem B0j {ks rs:List Pl}(hk:ks.Pairwise ltP)(hr:rs.Pairwise ltP)(hm:∀k,k∈ks↔k∈rs):ks=rs:=by
 induction ks generalizing rs with
 |nil=>
  cases rs with
  |nil=>rfl
  |cons r rs=>exact absurd ((hm r).mpr CQ) (by simp)
 |cons k ks ih=>
  cases rs with
  |nil=>exact absurd ((hm k).mp CQ) (by simp)
  |cons r rs=>
   rw[gr]at hk hr;have e:k=r:=by
    rcases fe.mp ((hm k).mp CQ)with e|h1
    ·exact e
    ·rcases fe.mp ((hm r).mpr CQ)with e|h2
     ·exact e.symm
     ·exact absurd (A8c (hr.1 k h1) (hk.1 r h2)) (rK r)
   subst e;rw[ih hk.2 hr.2 λx=> ?_];have nk:∀x,x∈ks->x≠k:=λx hx z=>by subst z;exact rK x (hk.1 x hx)
   have nr:∀x,x∈rs->x≠k:=λx hx z=>by subst z;exact rK x (hr.1 x hx)
   constructor
   ·intro hx;rcases fe.mp ((hm x).mp (CP _ hx))with z|z
    ·exact absurd z (nk x hx)
    ·exact z
   ·intro hx;rcases fe.mp ((hm x).mpr (CP _ hx))with z|z
    ·exact absurd z (nr x hx)
    ·exact z
noncomputable def A0s (cs:List Pl)(b:Bool):Prop:=(cs=[]/\b=false)\/ ∃c0 tl P0,cs=c0::tl/\rV cs c0 P0/\b=decide (P0=cs)
noncomputable def dL (a b:Pl):Bool:=decide ((Int.natAbs (a.1 - b.1):Int)+Int.natAbs (a.2 - b.2)=1)
theorem next_iff:dL a b=true↔a∈beside b:=by obtain⟨a1,a2⟩:=a;obtain⟨b1,b2⟩:=b;unfold dL beside;simp only[decide_eq_true_eq,fe,gh,or_false,yj];omega
end Wlk
namespace L2
open PySem PySem.Spec PyProof.Rows
noncomputable def A0d (n:Nat)(g:Bool->Bool):R2:=λx y H Q=> ∃p q xs ys,x= .ref p/\y= .ref q/\H p=some (.lst xs)/\H q=some (.lst ys)/\((xs.length≠ys.length/\Q (.bl (g false)) H)\/ ∃ks,E3 (C2 H n) xs ys ks/\Q (.bl (g (ks.all id))) H)
theorem zH (n:Nat)(hu:X.A.units+n+1<nj):OpR X (nv .Eq) (A0d n id):=by
 intro kb s σ H x y v u Q I rx ry h;obtain⟨p,q,xs,ys,rfl,rfl,h1,h2,h4⟩:=h;rcases h4 with⟨hne,hq⟩| ⟨ks,h4,hq⟩
 ·cases rx;cases ry
  ·obtain⟨us,r1,p1,_⟩:=I.list (CW.of (K:=X.K) h1);obtain⟨ws,r2,p2,_⟩:=I.list (CW.of (K:=X.K) h2);have l1:=r1.length;have l2:=r2.length;exact xi.lists_lengths (A:=X.A) (s:=s) p1.isList p2.isList (by simp;omega) (by omega) X.prog X.w X.xe _ ⟨.bl _,H,I,rfl,hq⟩
 ·exact A3q n hu kb s σ H _ _ v u Q I rx ry ⟨p,q,xs,ys,ks,rfl,rfl,.inr ⟨h1,h2⟩,h4,hq⟩
theorem A1b (n:Nat)(hu:X.A.units+n+1<nj):OpR X (nv .NotEq) (A0d n not):=by
 intro kb s σ H x y v u Q I rx ry h;obtain⟨p,q,xs,ys,rfl,rfl,h1,h2,h4⟩:=h;rcases h4 with⟨hne,hq⟩| ⟨ks,h4,hq⟩
 ·cases rx;cases ry
  ·obtain⟨us,r1,p1,_⟩:=I.list (CW.of (K:=X.K) h1);obtain⟨ws,r2,p2,_⟩:=I.list (CW.of (K:=X.K) h2);have l1:=r1.length;have l2:=r2.length;exact zf.lists_lengths (A:=X.A) (s:=s) p1.isList p2.isList (by simp;omega) (by omega) X.prog X.w X.xe _ ⟨.bl _,H,I,rfl,hq⟩
 ·exact B1h n hu kb s σ H _ _ v u Q I rx ry ⟨p,q,xs,ys,ks,rfl,rfl,.inr ⟨h1,h2⟩,h4,hq⟩
open Srt
theorem B29 [DecidableEq α](d:α)(cs ds:List α):((kz (min cs.length ds.length)).all (λj=>decide (cs.getD j d=ds.getD j d))&&cs.length==ds.length)=decide (cs=ds):=by
 rw[k6,pe,aa,decide_eq_true_eq,beq_iff_eq];constructor
 ·rintro⟨h1,h2⟩;refine ba h2 λj a b=> ?_;have:=of_decide_eq_true (h1 j (fw.mpr (by omega)));simpa[a,b]using this
 ·rintro rfl;exact⟨λj _=>CM rfl,rfl⟩
theorem fU:∀{l:List α}{m:List β}{i:Nat}{a:α},Paired F l m->l[i]?=some a->∃b,m[i]?=some b/\F a b:=λh e=>jG h e
theorem B3y (I:Inv X kb σ H s)(hu:A.units+2<nj)(hp:C1 H p cs)(hq:C1 H q ds):xi A s (.ref p) (.ref q) (decide (cs=ds)):=by
 obtain⟨ps,h1,hP⟩:=hp;obtain⟨qs,h2,hQ⟩:=hq;obtain⟨us,r1,p1,_⟩:=I.tuple (CY.of (K:=X.K) h1);obtain⟨ws,r2,p2,_⟩:=I.tuple (CY.of (K:=X.K) h2);have e1:=jB r1;have e2:=jB r2;subst e1 e2;have l1:ps.length=cs.length:=Paired.length hP;have l2:qs.length=ds.length:=Paired.length hQ;have k:=An (A:=A) (s:=s) (e:=λj=>decide (cs.getD j (0,0)=ds.getD j (0,0))) p1 p2 (by omega) (λj g1 g2=>by
  rw[ic,di]at g1 g2;obtain⟨c,hc,he⟩:=hP.at (cx g1);obtain⟨d,hd,he2⟩:=hQ.at (cx g2);have ec:cs.getD j (0,0)=c:=by rw[cm,hc];rfl
  have ed:ds.getD j (0,0)=d:=by rw[cm,hd];rfl
  rw[ec,ed];have a1:(ps.map jx).toArray[j]'(by rw[ic,di];exact g1)=jx ps[j]:=by simp
  have a2:(qs.map jx).toArray[j]'(by rw[ic,di];exact g2)=jx qs[j]:=by simp
  rw[a1,a2];exact zR I (show A.units+1<nj by omega) he he2)
 have e:((kz (min (ps.map jx).toArray.size (qs.map jx).toArray.size)).all (λj=>decide (cs.getD j (0,0)=ds.getD j (0,0)))&&(ps.map jx).toArray.size==(qs.map jx).toArray.size)=decide (cs=ds):=by
  rw[ic,ic,di,di,l1,l2];exact B29 (0,0) cs ds
 rw[e]at k;exact k
theorem vZ (hu:X.A.units+2<nj):OpR X (nv .Eq) (λx y H Q=> ∃p q cs ds,x= .ref p/\y= .ref q/\C1 H p cs/\C1 H q ds/\Q (.bl (decide (cs=ds))) H):=by intro kb s σ H x y v u Q I rx ry h;obtain⟨p,q,cs,ds,rfl,rfl,h1,h2,hq⟩:=h;cases rx;cases ry;exact B3y I hu h1 h2 X.prog X.w X.xe _ ⟨.bl _,H,I,rfl,hq⟩
theorem A34 (hu:X.A.units+1<nj):OpR X (nv .NotEq) (λx y H Q=> ∃p q xs,x= .ref p/\y= .ref q/\H p=some (.tup xs)/\H q=some (.tup [])/\Q (.bl (!xs.isEmpty)) H):=by
 intro kb s σ H x y v u Q I rx ry h;obtain⟨p,q,xs,rfl,rfl,h1,h2,hq⟩:=h;cases rx;cases ry;obtain⟨us,r1,p1,_⟩:=I.tuple (CY.of (K:=X.K) h1);obtain⟨ws,r2,p2,_⟩:=I.tuple (CY.of (K:=X.K) h2);have e2:ws=[]:=by cases r2;rfl
 subst e2;have l1:=r1.length;have k:=zf.tuples (A:=X.A) (s:=s) (e:=λ_=>true) p1 p2 (by omega) (λj _ h2=>absurd h2 (by simp));have e:(!((kz (min us.toArray.size ([]:List jt).toArray.size)).all (λ_=>true)&&us.toArray.size==([]:List jt).toArray.size))= !xs.isEmpty:=by
  cases xs with
  |nil=>cases us with|nil=>rfl|cons _ _=>simp at l1
  |cons _ _=>cases us with|nil=>simp at l1|cons _ _=>simp
 rw[e]at k;exact k X.prog X.w X.xe _ ⟨.bl _,H,I,rfl,hq⟩
end L2
namespace Set4
open PySem PyProof.Rows
noncomputable def L (b0 b1 b2 b3:Bool):List Nat:=(cond b0 [0] [])++((cond b1 [1] [])++((cond b2 [2] [])++(cond b3 [3] [])))
noncomputable def aX (S:Nat->Bool):List Nat:=L (S 0) (S 1) (S 2) (S 3)
noncomputable def ents (l:List Nat)(f:Nat->jt):Array (Int×jt):=(l.map λk:Nat=>((k:Int),f k)).toArray
noncomputable def tab (l:List Nat)(led:Bool):Co:={mask:=7,place:=l.toArray,dummies:=#[],finger:=0,led:=led,moves:=0,plain:=true}
noncomputable def plus (S:Nat->Bool)(k:Nat):Nat->Bool:=λj=>S j||decide (j=k)
noncomputable def fL (f:Nat->jt)(k:Nat)(x:jt):Nat->jt:=λj=>if j=k then x else f j
theorem A72 (b1 b2 b3 led:Bool)(f:Nat->jt)(x:jt):layNew (tab (L false b1 b2 b3) led) (ents (L false b1 b2 b3) f) ((0:Nat):Int) x=(ents (L true b1 b2 b3) (fL f 0 x),tab (L true b1 b2 b3) led,false,false):=by cases b1<;>cases b2<;>cases b3<;>kernel_rfl
theorem A4q (b0 b2 b3 led:Bool)(f:Nat->jt)(x:jt):layNew (tab (L b0 false b2 b3) led) (ents (L b0 false b2 b3) f) ((1:Nat):Int) x=(ents (L b0 true b2 b3) (fL f 1 x),tab (L b0 true b2 b3) led,false,false):=by cases b0<;>cases b2<;>cases b3<;>kernel_rfl
theorem B2x (b0 b1 b3 led:Bool)(f:Nat->jt)(x:jt):layNew (tab (L b0 b1 false b3) led) (ents (L b0 b1 false b3) f) ((2:Nat):Int) x=(ents (L b0 b1 true b3) (fL f 2 x),tab (L b0 b1 true b3) led,false,false):=by cases b0<;>cases b1<;>cases b3<;>kernel_rfl
theorem B1q (b0 b1 b2 led:Bool)(f:Nat->jt)(x:jt):layNew (tab (L b0 b1 b2 false) led) (ents (L b0 b1 b2 false) f) ((3:Nat):Int) x=(ents (L b0 b1 b2 true) (fL f 3 x),tab (L b0 b1 b2 true) led,false,false):=by cases b0<;>cases b1<;>cases b2<;>kernel_rfl
theorem B2y (S:Nat->Bool)(led:Bool)(f:Nat->jt)(x:jt)(k:Nat)(hk:k<4)(hs:S k=false):layNew (tab (aX S) led) (ents (aX S) f) (k:Int) x=(ents (aX (plus S k)) (fL f k x),tab (aX (plus S k)) led,false,false):=by
 unfold aX plus
 match k,hk with
 |0,_=>rw[hs];simpa using A72 (S 1) (S 2) (S 3) led f x
 |1,_=>rw[hs];simpa using A4q (S 0) (S 2) (S 3) led f x
 |2,_=>rw[hs];simpa using B2x (S 0) (S 1) (S 3) led f x
 |3,_=>rw[hs];simpa using B1q (S 0) (S 1) (S 2) led f x
theorem lP (b0 b1 b2 b3:Bool):(L b0 b1 b2 b3).length<=4:=by cases b0<;>cases b1<;>cases b2<;>cases b3<;>decide
theorem kF (l:List Nat)(f:Nat->jt):(ents l f).size=l.length:=by simp[ents]
theorem lN (S:Nat->Bool)(led:Bool)(f:Nat->jt):(tab (aX S) led).fits (ents (aX S) f).size=true:=by rw[kF];unfold aX;cases S 0<;>cases S 1<;>cases S 2<;>cases S 3<;>kernel_rfl
theorem B06 (S:Nat->Bool)(led:Bool):(tab (aX S) led).tooFull=false:=by unfold aX;cases S 0<;>cases S 1<;>cases S 2<;>cases S 3<;>kernel_rfl
theorem nV:k∈cond b [i] []↔b=true/\k=i:=by cases b<;>simp
theorem mem_mem4:k∈aX S↔k<4/\S k=true:=by
 unfold aX L;rw[d8,d8,d8,nV,nV,nV,nV];constructor
 ·rintro(⟨h,rfl⟩| ⟨h,rfl⟩| ⟨h,rfl⟩| ⟨h,rfl⟩)<;>exact⟨by decide,h⟩
 ·rintro⟨hk,hs⟩
  match k,hk with
  |0,_=>exact .inl ⟨hs,rfl⟩
  |1,_=>exact .inr (.inl ⟨hs,rfl⟩)
  |2,_=>exact .inr (.inr (.inl ⟨hs,rfl⟩))
  |3,_=>exact .inr (.inr (.inr ⟨hs,rfl⟩))
noncomputable def dD (S:Nat->Bool)(f:Nat->jt)(led:Bool)(ep:Nat):Obj:={cls:=.type "set",dict:=none,data:=.set (ents (aX S) f) ep (tab (aX S) led)}
noncomputable def IsS4 (h:kj)(a:ju)(S:Nat->Bool)(led:Bool):Prop:=∃f ep,(∀k,k<4->S k=true->∃t,f k=sv k t)/\h.get? a=some (dD S f led ep)
theorem A04 (k:Nat)(hk:k<4):hashInt (k:Int)=(k:Int):=by
 match k,hk with
 |0,_=>rfl
 |1,_=>rfl
 |2,_=>rfl
 |3,_=>rfl
theorem B1d {S:Nat->Bool}{f:Nat->jt}(hf:∀k,k<4->S k=true->∃t,f k=sv k t):ElemsOf (uv prog w) (ents (aX S) f).toList:=by
 intro e he;have he':e∈(aX S).map λk:Nat=>((k:Int),f k):=by simpa[ents]using he
 obtain⟨k,hk,rfl⟩:=fm.mp he';obtain⟨h1,h2⟩:=mem_mem4.mp hk;obtain⟨t,ht⟩:=hf k h1 h2;refine⟨⟨(k:Int),?_,?_⟩,?_⟩
 ·show(uv prog w).is (k:Int) (f k)=true;rw[ht];exact Bg _ _ _ _
 ·exact(A04 k h1).symm
 ·show(f k).scannable=true;rw[ht];rfl
theorem A4s (hS:IsS4 s.heap a S led)(hk:k<4)(h:∀b h',my a s.heap h'->IsS4 h' a (plus S k) led->Q b {s with heap:=h'}):
  jy (kg prog w) A (setAddHashed a (.int (k:Int) t) (hashInt (k:Int))) Q E s:=by
 obtain⟨f,ep,hf,ho⟩:=hS;have hel:ElemsOf (uv prog w) (ents (aX S) f).toList:=B1d hf;have hfit:=lN S led f;have hz:(ents (aX S) f).size<scanBound:=by
  rw[kF];have:=lP (S 0) (S 1) (S 2) (S 3);show(L (S 0) (S 1) (S 2) (S 3)).length<4096;omega
 have hd:(dD S f led ep).data= .set (ents (aX S) f) ep (tab (aX S) led):=rfl;have hkey:(uv prog w).is (k:Int) (sv (k:Int) t)=true:=Bg _ _ _ _;unfold setAddHashed setAddHashedIn;refine l8 (CI (vn ho hd hfit ?_));dsimp only
 rw[byScan_of (knd:=uv prog w) rfl hz hel];simp only[↓reduceIte];unfold setAddByScan;refine CI (CI (pj (CI (wpAny_setScan_of (knd:=uv prog w) hkey ho hd hfit hel ?_))));cases hSk:S k with
 |true=>
  have:∃j,findIdx? (λe=>(uv prog w).is (k:Int) e.2) (ents (aX S) f).toList=some j:=by
   cases hr:findIdx? (λe=>(uv prog w).is (k:Int) e.2) (ents (aX S) f).toList with
   |some j=>exact⟨j,rfl⟩
   |none=>
    obtain⟨t',ht'⟩:=hf k hk hSk;have hm:((k:Int),f k)∈(ents (aX S) f).toList:=by
     have:((k:Int),f k)∈(aX S).map λk:Nat=>((k:Int),f k):=fm.mpr ⟨k,mem_mem4.mpr ⟨hk,hSk⟩,rfl⟩;simpa[ents]using this
    have:=Ah.mp hr _ hm;rw[show(uv prog w).is (k:Int) ((k:Int),f k).2=true by show(uv prog w).is (k:Int) (f k)=true;rw[ht'];exact Bg _ _ _ _]at this;cases this
  obtain⟨j,hj⟩:=this;rw[hj];dsimp only
  refine CJ (CJ ?_);have eS:plus S k=S:=funext λi=>by
   unfold plus;by_cases e:i=k
   ·subst e;simp[hSk]
   ·simp[e]
  exact h _ s.heap (my.refl a s.heap) (by rw[eS];exact⟨f,ep,hf,ho⟩)
 |false=>
  have hr:findIdx? (λe=>(uv prog w).is (k:Int) e.2) (ents (aX S) f).toList=none:=by
   rw[Ah];intro e he;have he':e∈(aX S).map λk:Nat=>((k:Int),f k):=by simpa[ents]using he
   obtain⟨i,hi,rfl⟩:=fm.mp he';obtain⟨h1,h2⟩:=mem_mem4.mp hi;obtain⟨t',ht'⟩:=hf i h1 h2;cases z:(uv prog w).is (k:Int) (((i:Int),f i).2)with
   |false=>rfl
   |true=>
    have z':(uv prog w).is (k:Int) (sv (i:Int) t')=true:=by rw[←ht'];exact z
    have:=(uv prog w).inj _ _ _ z' (Bg _ _ _ _);have e:k=i:=by omega
    subst e;rw[hSk]at h2;cases h2
  rw[hr];dsimp only
  rw[A04 k hk,B2y S led f _ k hk hSk];dsimp only
  refine CI (CJ ?_);have hS2:∀ep',∀h',h'.get? a=some (dD (plus S k) (fL f k (.int (k:Int) t)) led ep')->IsS4 h' a (plus S k) led:=λep' h' g=> ⟨_,ep',λi hi hp=>by
   unfold fL;by_cases e:i=k
   ·rw[if_pos e,e];exact⟨t,rfl⟩
   ·rw[if_neg e];unfold plus at hp;exact hf i hi (by simpa[e]using hp),g⟩
  rw[show(tab (aX (plus S k)) led).plain=true from rfl];simp only[↓reduceIte];rw[hashByValue_scannable 8 (x:=sv (k:Int) t) rfl];refine CI (CJ ?_);rw[show plainKind (sv (k:Int) t)=true from rfl];simp only[↓reduceIte];have hz2:(ents (aX (plus S k)) (fL f k (.int (k:Int) t))).size<=jv:=by
   rw[kF,ko];have:=lP (plus S k 0) (plus S k 1) (plus S k 2) (plus S k 3);show(L (plus S k 0) (plus S k 1) (plus S k 2) (plus S k 3)).length<=_;omega
  refine CI (wpAny_storeSet_of ho hd ?_ hz2);rw[B06];simp only[Bool.and_false,km,↓reduceIte];refine CJ (CJ ?_);have hg:(s.heap.update a (Obj.putSet (ents (aX (plus S k)) (fL f k (.int (k:Int) t))) (tab (aX (plus S k)) led))).get? a=some (dD (plus S k) (fL f k (.int (k:Int) t)) led (ep+1)):=by
   have:=i5 (Obj.putSet (ents (aX (plus S k)) (fL f k (.int (k:Int) t))) (tab (aX (plus S k)) led)) ho (by rw[putSet_of _ _ hd];rfl);rw[putSet_of _ _ hd]at this;exact this
  exact h _ _ (uh s.heap a _) (hS2 _ _ hg)
noncomputable def acc (val:Nat->Nat):Nat->Nat->Bool
 |0=>λ_=>false
 |i+1=>plus (acc val i) (val i)
theorem A15 (val:Nat->Nat)(k:Nat):∀i,acc val i k=true↔ ∃j,j<i/\val j=k
 |0=>by simp[acc]
 |i+1=>by
  show plus (acc val i) (val i) k=true↔_;unfold plus;rw[Bool.or_eq_true,A15 val k i,decide_eq_true_eq];constructor
  ·rintro(⟨j,h1,h2⟩|h)
   ·exact⟨j,by omega,h2⟩
   ·exact⟨i,by omega,h.symm⟩
  ·rintro⟨j,h1,h2⟩;by_cases e:j=i
   ·right;rw[←h2,e]
   ·exact .inl ⟨j,by omega,h2⟩
theorem IsS4.at (x:IsS4 h a S led)(e:∀o,h.get? a=some o->h'.get? a=some o):IsS4 h' a S led:=let ⟨f,ep,hf,ho⟩:=x;⟨f,ep,hf,e _ ho⟩
section
variable {St:Nat->jw->Prop}
theorem B15 (W:WalksS prog w A.in1 I fp wr G n P St)(D:ju)(hD:D∉fp)(val:Nat->Nat)(hv:∀i v,P i v->∃t,v= .int (val i:Int) t)(h4:∀i,i<n->val i<4):∀(k i:Nat)(s:jw),n - i=k->i<=n->St i s->IsS4 s.heap D (acc val i) led->
  (∀s',Moved (D::wr) G s s'->IsS4 s'.heap D (acc val n) led->R (.ok (.ret .none)) s')->tq (kg prog w) A (.builtin "set.update.loop" ⟨[.ref D,.ref I],[]⟩) R s:=by
 have nw:D∉wr:=λh=>hD (W.sub _ h);have sub:∀b∈wr,b∈D::wr:=λb hb=>CP _ hb;intro k
 induction k with
 |zero=>
  intro i s hk hi st hS hR;obtain rfl:i=n:=by omega
  refine nu AU ?_;rw[mv xn _];show jy _ A.in1 (ub (.ref I)>>=_) _ _ s;refine CI (W.done s _ _ st λs' hm=> ?_);show jy _ A.in1 (ret ke) _ _ s';exact CJ (hR s' (hm.mono sub) (hS.at λo e=>hm.heap D _ nw e))
 |succ k ih=>
  intro i s hk hi st hS hR;have CA:i<n:=by omega
  refine nu AU ?_;rw[mv xn _];show jy _ A.in1 (ub (.ref I)>>=_) _ _ s;refine CI (W.item i s _ _ CA st λv s' hP yf hm=> ?_);obtain⟨t,rfl⟩:=hv i v hP;show jy _ A.in1 (Ak [sv (val i:Int) t] (setAdd D (.int (val i:Int) t))>>=_) _ _ s';refine CI (l8 ?_);unfold setAdd;refine l8 ?_;refine CI ((uv prog w).pyHash (k:=(val i:Int)) (Bg _ _ _ _) ?_);refine A4s (s:={s' with toks:=s'.toks+1}) (hS.at λo e=>hm.heap D _ nw e) (h4 i CA) λb h' hsb hS2=> ?_;refine CJ ⟨oz xn _,ih (i+1) _ (by omega) CA (W.frame _ s' _ _ yf (jc _) λb hb o e=> ?_) hS2 λs'' hm'' hS''=> ?_⟩
  ·rw[hsb.2 b (λh:b=D=>hD (by rw[←h];exact hb))];exact e
  ·refine hR s'' (Moved.trans W.gtrans ((hm.mono sub).then_heap (jc _) λb o hb e=> ?_) hm'') hS'';rw[hsb.2 b (λh:b=D=>hb (by rw[h];exact CQ))];exact e
end
noncomputable def byT (w:kl):Bool:=w.params.followText "set-order"
theorem B5v (a:jt)(h:Q₁ (.ref s.heap.objs.size) {s with heap:=s.heap.push (dD (λ_=>false) (λ_=> .none) (!byT w) 0)}):
  tq (kg prog w) A (.call (.builtin "set.__new__") ⟨[.type "set",a],[]⟩) (wants Q₁ E) s:=by
 refine Bl ?_
 show jy _ A.in1 (do checkBuiltinCall "set.__new__" ⟨[.type "set",a],[]⟩;again (.builtin "set.__new__" ⟨[.type "set",a],[]⟩)) _ _ s;refine CI (ym (PySem.F.newCall_set_1 a) (CJ ⟨oz BA _,nu PySem.F.entry_set_new ?_⟩));rw[mv BA _];unfold j6.«set.__new__» j6.Frozenset.newClass;have hsub:=PySem.sub_set_self;obtain⟨hp,g,d,tk,os⟩:=s;dsimp only;wp_walk;refine uj (CJ ?_);dsimp only;simp only[newObj];refine CI (wpAny_alloc (CJ ?_));exact CJ h
theorem A98 (hh:A.handled=none)(hl:s.heap.IsList l items)(hv:∀(i:Nat)(v:jt),items[i]?=some v->∃t,v= .int (val i:Int) t)(h4:∀i,i<items.size->val i<4)
  (h:∀(h':kj)(tk:Nat),IsS4 h' s.heap.objs.size (acc val items.size) (!byT w)->(∀b o,b<s.heap.objs.size->s.heap.get? b=some o->h'.get? b=some o)->Q (.ref s.heap.objs.size) {s with heap:=h',toks:=tk}):
  jy (kg prog w) A (call (.type "set") [.ref l]) Q E s:=by
 obtain⟨c,tl,hmro⟩:=p7.mro;have hmade:=p7.made;have hsub:=p7.sub;refine wpAny_call (Bl ?_);show jy _ _ (callAny (.type "set") _) _ _ _;refine CJ ⟨Code.quiet_builtin _ (by decide +kernel),nu PySem.F.entry_type_call ?_⟩;rw[mh.under_plain (weight_type_call_type "set" [.ref l] []) rfl];have h1:=p7.notType;have h2:=p7.canCreate;have hct:=PySem.F.typeCall_set_1 (.ref l)
 repeat (any_goals (first|assumption|wp_step))
 refine qg (B5v (.ref l) (E:=E) (Q₁:=λobj s₁=>obj= .ref s.heap.objs.size/\s₁={s with heap:=s.heap.push (dD (λ_=>false) (λ_=> .none) (!byT w) 0)}) ⟨rfl,rfl⟩) λr s₁ hr=> ?_;cases r with
 |error e=>exact hr
 |ok fl=>
  cases fl with
  |ret obj=>
   obtain⟨rfl,rfl⟩:=hr;have hS:(s.heap.push (dD (λ_=>false) (λ_=> .none) (!byT w) 0)).get? s.heap.objs.size=some (dD (λ_=>false) (λ_=> .none) (!byT w) 0):=iy _ rfl;have hT:w9 {s with heap:=s.heap.push (dD (λ_=>false) (λ_=> .none) (!byT w) 0)} (.ref s.heap.objs.size) "set":=⟨_,hS,rfl⟩;have hli:=p7.init.lookup;have hbi:=p7.init.bind (.ref s.heap.objs.size)
   repeat (any_goals (first|assumption|wp_step))
   refine qg (codeAny_call_builtin (R:=wants (λr s₂=>r= .none/\∃h' tk,s₂={s with heap:=h',toks:=tk}/\IsS4 h' s.heap.objs.size (acc val items.size) (!byT w)/\
     (∀b o,b<s.heap.objs.size->s.heap.get? b=some o->h'.get? b=some o)) E) p7.init.plain PySem.F.entry_set_init (check_set_init_1 hT ?_)) λr₂ s₂ hr₂=> ?_
   ·obtain⟨ol,hol,hcl,nl,hdl⟩:=hl;obtain⟨ocls,odict,odata,oslots⟩:=ol;simp only at hcl hdl;subst hcl;subst hdl;have hol':(s.heap.push (dD (λ_=>false) (λ_=> .none) (!byT w) 0)).get? l=some {cls:=.type "list",dict:=odict,data:=.seq items nl,slots:=oslots}:=CK _ hol;have hsls:=PySem.F.sub_list_set;have hslf:=PySem.F.sub_list_frozenset;have hne:(oj "list" ==oj "dict")=false:=by decide
    have hl1:(s.heap.push (dD (λ_=>false) (λ_=> .none) (!byT w) 0)).IsList l items:=⟨_,hol',rfl,nl,rfl⟩;unfold j6.«set.__init__» noKeywords j6.Frozenset.updateFrom;generalize hPI:A7=PI
    wp_walk
    subst hPI;refine tj hl1 ?_;refine CI (wpAny_runValue ?_);have hlS:l<s.heap.objs.size:=CO hol;have hh3:A.in1.in1.in1.handled=none:=by simp[hh]
    have hneI:l≠(s.heap.push (dD (λ_=>false) (λ_=> .none) (!byT w) 0)).objs.size:=by rw[i6];exact jo (ji hlS)
    have hSf:s.heap.objs.size∉[(s.heap.push (dD (λ_=>false) (λ_=> .none) (!byT w) 0)).objs.size,l]:=by
     rw[i6];intro hm;rcases fe.mp hm with e|e
     ·exact absurd e (jo (jj _))
     ·exact absurd (fy.mp e) (jn hlS)
    refine B15 ((Ca hh3 _ l hneI items).toS) s.heap.objs.size hSf val hv h4 (items.size - 0) 0 _ (by omega) (js _) ⟨⟨_,iy _ rfl,rfl,rfl⟩,(hl1.push _)⟩ (show IsS4 _ _ (λ_=>false) (!byT w)from⟨λ_=> .none,0,(λk _ z=>absurd z (by simp)),CK _ hS⟩) ?_;intro s' hm hS';obtain⟨h',g',d',tk',os'⟩:=s';have eg:g'=s.gens:=hm.gens;have ed:d'=s.drawn:=hm.drawn;have eo:os'=s.os:=hm.os;subst eg;subst ed;subst eo;show jy _ _ _ _ _ _;refine CJ ?_;show jy _ _ (ret ke) _ _ _;refine CJ ⟨rfl,h',tk',rfl,hS',λb o hb e=> ?_⟩;refine hm.heap b o (λhmm=> ?_) (CK _ (CK _ e));rcases fe.mp hmm with z|z
    ·exact jo hb z
    ·rw[i6]at z;exact jo (ji hb) (fy.mp z)
   ·cases r₂ with
    |error e=>exact hr₂
    |ok fl₂=>
     cases fl₂ with
     |ret r=>
      obtain⟨rfl,h',tk,rfl,hS',hk'⟩:=hr₂
      repeat (any_goals (first|assumption|wp_step))
      exact h _ _ hS' hk'
     |_=>exact hr₂.elim
  |_=>exact hr.elim
theorem xT:∀(l:List α)(i:Nat)(h:i<l.length),(l[i]::l.eraseIdx i).Perm l
 | [],i,h=>by simp at h
 |x::l,0,h=>BN _
 |x::l,i+1,h=>by
  have ih:=xT l i (by simpa using h);show(l[i]'(by simpa using h)::x::l.eraseIdx i).Perm (x::l);exact(m7.swap _ _ _).trans (ih.cons x)
theorem xB (next:Nat->Nat):∀(fuel k:Nat)(left:List α)(out:Array α),left.length=fuel->(Cp next fuel k left out).toList.Perm (out.toList++left)
 |0,k,left,out,h=>by
  cases left with
  |nil=>unfold Cp;simp
  |cons _ _=>simp at h
 |fuel+1,k,left,out,h=>by
  have hl:next k%left.length<left.length:=mod_lt _ (by omega);unfold Cp;rw[cx hl];have ih:=xB next fuel (k+1) (left.eraseIdx (next k%left.length)) (out.push left[next k%left.length]) (by rw[List.length_eraseIdx_of_lt hl];omega);refine ih.trans ?_;rw[qa,aj];exact l7 _ (xT _ _ hl)
theorem B45 (next:Nat->Nat)(xs:Array α):(AV next xs).toList.Perm xs.toList:=by have:=xB next xs.size 0 xs.toList #[] (by simp);unfold AV;simpa using this
noncomputable def slot (S:Nat->Bool)(i:Nat):Nat:=if i=0 then 0 else(aX S).getD (i - 1) 0+1
theorem A9a (S:Nat->Bool)(i:Nat)(hi:i<=(aX S).length):Aa (aX S).toArray (slot S i)=i:=by
 have key:∀b0 b1 b2 b3:Bool,∀i,i<5->i<=(L b0 b1 b2 b3).length->Aa (L b0 b1 b2 b3).toArray (if i=0 then 0 else(L b0 b1 b2 b3).getD (i - 1) 0+1)=i:=by decide +kernel
 have:=lP (S 0) (S 1) (S 2) (S 3);exact key (S 0) (S 1) (S 2) (S 3) i (by unfold aX at hi;omega) hi
noncomputable def ord (w:kl)(a:ju)(S:Nat->Bool)(f:Nat->jt)(ep:Nat):List jt:=((if byT w=true then AV (w.params.setOrder a ep) (ents (aX S) f)else ents (aX S) f).toList).map (·.2)
theorem zQ (w:kl)(a:ju)(S:Nat->Bool)(f:Nat->jt)(ep:Nat):(ord w a S f ep).Perm ((aX S).map f):=by
 have e:(ents (aX S) f).toList.map (·.2)=(aX S).map f:=by simp[ents,Function.comp_def]
 unfold ord;by_cases h:byT w=true
 ·rw[if_pos h,←e];exact(B45 _ _).map _
 ·rw[if_neg h,e]
noncomputable def nslot (w:kl)(S:Nat->Bool)(i:Nat):Nat:=if byT w=true then 0 else slot S i
theorem A07 (ho:s.heap.get? a=some (dD S f (!byT w) ep))(hi:i<=(aX S).length)(h:Q (((ord w a S f ep)[i]?).map λv=>(v,nslot w S (i+1))) s):
  jy (kg prog w) A (setNext a (nslot w S i) i ep) Q E s:=by
 have hd:(dD S f (!byT w) ep).data= .set (ents (aX S) f) ep (tab (aX S) (!byT w)):=rfl;have hf:=lN S (!byT w) f;unfold setNext setsByText;refine CI (vn ho hd hf ?_);dsimp only
 refine CI (CI (uj (CJ ?_)));show jy _ _ (if byT w=true then _ else _) _ _ _;unfold ord nslot at h;unfold nslot;by_cases hb:byT w=true
 ·rw[if_pos hb]at h⊢;rw[if_pos hb]at h;rw[if_pos hb];rw[if_neg (by simp)];refine CI ?_;unfold setWalk setsByText;refine CI ((vn ho hd hf ?_));dsimp only
  refine CI (CI (uj (CJ ?_)));show jy _ _ (if byT w=true then _ else _) _ _ _;rw[if_pos hb];refine CI (uj (CJ ?_));refine CJ ?_;rw[cy,kh,Option.map_map]at h;exact h
 ·rw[if_neg hb]at h⊢;rw[if_neg hb]at h;rw[if_neg hb];have hb':byT w=false:=by simpa using hb
  show jy _ _ (if (!true&&decide ((ents (aX S) f).size>1))=true then _ else _) _ _ _;rw[if_neg (by simp)];show jy _ _ ((if (!(!byT w)&& !(ents (aX S) f).isEmpty)=true then unsupported "set:maker-not-led" else pure ())>>=_) _ _ _;rw[hb',if_neg (by simp)];refine CI (CJ (CJ ?_));show Q (match (ents (aX S) f)[Aa (aX S).toArray (slot S i)]?,(aX S).toArray[Aa (aX S).toArray (slot S i)]? with|some (_,x),some j=>some (x,j+1)|_,_=>none) s;rw[A9a S i hi];rw[cy,kh]at h;by_cases hl:i<(aX S).length
  ·have e1:(ents (aX S) f)[i]?=some (((aX S)[i]:Int),f (aX S)[i]):=by simp[ents,hl]
   have e2:(aX S).toArray[i]?=some (aX S)[i]:=by simp[hl]
   rw[e1]at h⊢;rw[e2];have e3:slot S (i+1)=(aX S)[i]+1:=by unfold slot;rw[if_neg (by omega)];simp[hl]
   rw[e3]at h;exact h
  ·have e1:(ents (aX S) f)[i]?=none:=by simp[ents];omega
   rw[e1]at h⊢;exact h
noncomputable abbrev nX (h:kj)(I a:ju)(sl i n ep:Nat):Prop:=h.get? I=some {cls:=.type "set_iterator",dict:=none,data:=.fields #[.int sl 0,.int i 0,.ref a,.int n 0,.int ep 0],slots:=#[]}
theorem slot_next:Slot "set_iterator" "__next__" "set_iterator.__next__":=.of (owner:="set_iterator") (n:="__next__") (by rw[Bm,ya];kernel_rfl) (by decide +kernel) (by decide +kernel) (by decide +kernel) (by first|exact .inl (by decide +kernel)|exact .inr (by decide +kernel)) (by rw[isSubtype_type];kernel_rfl)
theorem A1n:Slot "set_iterator" "__iter__" "set_iterator.__iter__":=.of (owner:="set_iterator") (n:="__iter__") (by rw[Bm,ya];kernel_rfl) (by decide +kernel) (by decide +kernel) (by decide +kernel) (by first|exact .inl (by decide +kernel)|exact .inr (by decide +kernel)) (by rw[isSubtype_type];kernel_rfl)
theorem A3h:Cj table "set_iterator.__next__" =some j6.«set_iterator.__next__»:=entryFor_of_tree (by kernel_rfl)
theorem A94:Cj table "set_iterator.__iter__" =some j6.«dict_keyiterator.__iter__»:=BO (id':="dict_keyiterator.__iter__") (by kernel_rfl) rfl (by decide +kernel) (by kernel_rfl)
theorem B2v:Cj table "set.__iter__" =some j6.«frozenset.__iter__»:=BO (id':="frozenset.__iter__") (by kernel_rfl) rfl (by decide +kernel) (by kernel_rfl)
theorem A17 (a:jt):argsOk "set_iterator.__next__" ⟨[a],[]⟩:=by unfold argsOk;kernel_rfl
theorem A5j (a:jt):argsOk "set_iterator.__iter__" ⟨[a],[]⟩:=by unfold argsOk;kernel_rfl
theorem nS (w:kl)(a:ju)(S:Nat->Bool)(f:Nat->jt)(ep:Nat):(ord w a S f ep).length=(aX S).length:=by rw[(zQ w a S f ep).length_eq,di]
theorem B3h (ho:s.heap.get? a=some (dD S f (!byT w) ep))
  (h:Q (.ref s.heap.objs.size) {s with heap:=s.heap.push {cls:=.type "set_iterator",data:=.fields #[.int 0 0,.int 0 0,.ref a,.int (aX S).length 0,.int ep 0]}}):jy (kg prog w) A (A7 (.ref a)) Q E s:=by
 have hd:(dD S f (!byT w) ep).data= .set (ents (aX S) f) ep (tab (aX S) (!byT w)):=rfl;have hf:=lN S (!byT w) f;have hT:s.TypeIs (.ref a) "set":=⟨_,ho,rfl⟩;refine vm hT BB (ly BB hT B2v ?_ (PySem.F.args_set_iter_1 _));unfold j6.«frozenset.__iter__»;refine CI (CJ ?_);unfold j6.Frozenset.sizeOf;refine CI (CI (y6 ho hd hf (CJ ?_)));refine CI ?_;unfold setDrawn setsByText;refine CI (vn ho hd hf ?_);dsimp only
 refine CI (CI (uj (CJ ?_)));refine CJ ?_;show jy _ _ (if (!byT w&&(!true&&decide ((ents (aX S) f).size>1)))=true then _ else _) _ _ _;rw[if_neg (by simp)];refine CI (CJ ?_);unfold setEpoch;refine CI (CI (vn ho hd hf (CJ ?_)));unfold newFields;refine CI (k8 (CJ ⟨_,rfl,"set_iterator",_,⟨_,iy _ rfl,rfl⟩,slot_next.lookup,?_⟩) (by simp[sizeOk,ko]));rw[kF];exact h
theorem A66 (hh:A.handled=none)(I a:ju)(hne:a≠I)(S:Nat->Bool)(f:Nat->jt)(ep:Nat):
  Walks prog w A I [I,a] [I] (aX S).length (λi v=>(ord w a S f ep)[i]?=some v) (λi h=>nX h I a (nslot w S i) i (aX S).length ep/\h.get? a=some (dD S f (!byT w) ep))where
 sub:=λb hb=>by simp at hb;simp[hb]
 frame:=λ_ _ _ st hk=> ⟨hk I (by simp) _ st.1,hk a (by simp) _ st.2⟩
 item:=λi s Q E hi st hQ=>by
  obtain⟨hit,ho⟩:=st;have hd:(dD S f (!byT w) ep).data= .set (ents (aX S) f) ep (tab (aX S) (!byT w)):=rfl;have hf:=lN S (!byT w) f;have hT:s.TypeIs (.ref I) "set_iterator":=⟨_,hit,rfl⟩;have CA:i<(ord w a S f ep).length:=by rw[nS];exact hi
  unfold ub;refine CI (wz (nc (name:=qi "__next__") hT slot_next (ly slot_next hT A3h ?_ (A17 _))));unfold j6.«set_iterator.__next__»;refine CI (CJ ?_);refine CI (zy hit rfl ?_);refine CI (y6 ho hd hf ?_);rw[if_neg (by rw[kF];simp)];refine CI (A07 (i:=i) (ep:=ep) ho (jb hi) ?_);rw[cx CA];refine CI (m5 hit (by simp) λh1 g1 s1=> ?_);refine CI (m5 g1 (by simp) λh2 g2 s2=> ?_);refine CJ ⟨_,rfl,CJ ?_⟩;refine hQ _ h2 s.toks (cx CA) ⟨?_,?_⟩ λb o hb e=> ?_
  ·have e:((i+1:Nat):Int)=(i:Int)+1:=by omega
   unfold nX;rw[e];simpa[vh]using g2
  ·exact(s2.2 a hne).trans ((s1.2 a hne).trans ho)
  ·have:b≠I:=λz=>hb (by simp[z]);exact(s2.2 b this).trans ((s1.2 b this).trans e)
 done:=λs Q E st hQ=>by
  obtain⟨hit,ho⟩:=st;have hd:(dD S f (!byT w) ep).data= .set (ents (aX S) f) ep (tab (aX S) (!byT w)):=rfl;have hf:=lN S (!byT w) f;have hT:s.TypeIs (.ref I) "set_iterator":=⟨_,hit,rfl⟩;unfold ub;refine CI (wz (nc (name:=qi "__next__") hT slot_next (ly slot_next hT A3h ?_ (A17 _))));unfold j6.«set_iterator.__next__»;refine CI (CJ ?_);refine CI (zy hit rfl ?_);refine CI (y6 ho hd hf ?_);rw[if_neg (by rw[kF];simp)];refine CI (A07 (i:=(aX S).length) (ep:=ep) ho (CT _) ?_);rw[yc (by rw[nS];exact CT _)];refine CI (zu hit rfl (by simp) ?_);show jy _ _ (newExc (.type "StopIteration") []>>=_) _ _ _;refine CI ?_;simp only[newExc,newTuple];refine CI (k8 ?_ (by size_fits));refine CI (m:=vq _ _) (ym (a:=ke) (by first|rfl| (simp only[vq];rfl)) ?_);refine k8 ?_ (by size_fits);simp only[raiseNew];refine CI (B1 ?_);rw[show A.in1.handled=none from hh];refine CI (CJ (wpAny_throw ?_));refine CI (rg (T:="StopIteration") (b:=true) ⟨_,iy _ rfl,rfl⟩ BL ?_);have go:∀h':kj,BI I s.heap h'->Q none {s with heap:=h',toks:=s.toks}:=λh' hx=>hQ h' s.toks λb o hb e=>hx b o (λz=>hb (by simp[z])) e;exact CJ (go _ (((uh ..).extBut.push _).push _))
 self:=λi s Q E st hQ=>by
  have hT:s.TypeIs (.ref I) "set_iterator":=⟨_,st.1,rfl⟩;refine vm hT A1n (ly A1n hT A94 ?_ (A5j _));show jy _ _ (ret (.ref I)) _ _ s;exact CJ ⟨_,rfl,"set_iterator",_,hT,slot_next.lookup,hQ⟩
theorem A6w (hT:s.TypeIs (.ref a) "set")(h:Q false s):jy (kg prog w) A (zg (.ref a)) Q E s:=by
 unfold zg;refine CI (vc hT PySem.F.slot_set_len.lookup ?_)
 show jy _ _ (do if !(←Cd (.ref a) (.type "set"))then unsupported _ else pure ()
                    let .ref _←typeOf (.ref a)|return false
                    _) _ _ _
 refine CI (rg hT sub_set_self ?_);simp only[qj,km,if_false];refine CI (we hT ?_);exact CJ h
theorem A5n (hh:A.handled=none)(ho:s.heap.get? a=some (dD S f (!byT w) ep))
  (h:∀h1 tk,(∀b o,s.heap.get? b=some o->h1.get? b=some o)->s.heap.objs.size<=h1.objs.size->Q (ord w a S f ep) {s with heap:=h1,toks:=tk}):jy (kg prog w) A (collect (.ref a)) Q E s:=by
 have la:a<s.heap.objs.size:=CO ho;unfold collect;refine CI (wpAny_runValue (nu PySem.F.entry_proto_collect ?_));rw[mv PySem.F.plain_proto_collect _];show jy _ A.in1 (newList []>>=λl=>again (.builtin "list.__iadd__" ⟨[l,.ref a],[]⟩)) _ _ s;refine CI (k8 (CJ ⟨oz AW _,nu PySem.F.entry_list_iadd ?_⟩));rw[mv AW _];generalize hg1:s.heap.push {cls:=.type "list",data:=.seq ([]:List jt).toArray}=g1;have k1:∀b o,s.heap.get? b=some o->g1.get? b=some o:=λb o e=>by rw[←hg1];exact CK _ e
 have l1:g1.get? s.heap.objs.size=some {cls:=.type "list",data:=.seq #[]}:=by rw[←hg1];exact iy _ rfl
 have z1:g1.objs.size=s.heap.objs.size+1:=by rw[←hg1,i6]
 have o1:=k1 _ _ ho;have hT1:w9 {s with heap:=g1} (.ref a) "set":=⟨_,o1,rfl⟩;have neA:s.heap.objs.size≠a:=jn la;show jy _ A.in1 (qx (.ref s.heap.objs.size) (.ref a) (.ref s.heap.objs.size)) _ _ {s with heap:=g1};unfold qx;refine CI (we hT1 ?_);have e1:ug (.ref s.heap.objs.size) (.ref a)=false:=by simp[ug,neA]
 have e2:(oj "set" ==oj "list")=false:=by decide
 have e3:(oj "set" ==oj "tuple")=false:=by decide
 simp only[e1,e2,e3,Bool.or_false,km,if_false];refine CI (B3h (s:={s with heap:=g1}) o1 ?_);generalize hg2:g1.push {cls:=.type "set_iterator",data:=.fields #[.int 0 0,.int 0 0,.ref a,.int (aX S).length 0,.int ep 0]}=g2;have k2:∀b o,g1.get? b=some o->g2.get? b=some o:=λb o e=>by rw[←hg2];exact CK _ e
 have i2:nX g2 g1.objs.size a 0 0 (aX S).length ep:=by rw[←hg2];exact iy _ rfl
 have z2:g2.objs.size=g1.objs.size+1:=by rw[←hg2,i6]
 have o2:=k2 _ _ o1;refine CI (l8 (A6w (s:={s with heap:=g2}) ⟨_,o2,rfl⟩ ?_));show jy _ A.in1 (rule "list.extend.makes-room" >>=λ_=>j6.List.listTouch (.ref s.heap.objs.size)>>=λ_=>again (.builtin "list.extend.loop" ⟨[.ref s.heap.objs.size,.ref g1.objs.size,.ref s.heap.objs.size],[]⟩)) _ _ {s with heap:=g2};refine CI (pj ?_);have l2:=k2 _ _ l1;refine CI ?_;show jy _ A.in1 (yg s.heap.objs.size (·.push .none)>>=λ_=>yg s.heap.objs.size (·.pop)) _ _ {s with heap:=g2};refine CI (qc l2 rfl ?_);have l3:=i5 (m8 (·.push ke)) l2 rfl;refine qc l3 rfl ?_;have l4:=i5 (m8 (·.pop)) l3 rfl;have k4:∀b o,b≠s.heap.objs.size->g2.get? b=some o->((g2.update s.heap.objs.size (m8 (·.push ke))).update s.heap.objs.size (m8 (·.pop))).get? b=some o:=
  λb o hb e=>(i0 _ _ (Ne.symm hb)).trans ((i0 _ _ (Ne.symm hb)).trans e)
 have z4:((g2.update s.heap.objs.size (m8 (·.push ke))).update s.heap.objs.size (m8 (·.pop))).objs.size=s.heap.objs.size+2:=by rw[i7,i7,z2,z1]
 generalize (g2.update s.heap.objs.size (m8 (·.push ke))).update s.heap.objs.size (m8 (·.pop))=g4 at l4 k4 z4;have neI:a≠g1.objs.size:=by rw[z1];exact jo (ji la)
 have neS:s.heap.objs.size∉[g1.objs.size,a]:=by
  rw[z1];intro hm;rcases fe.mp hm with e|e
  ·exact absurd e (jo (jj _))
  ·exact neA (fy.mp e)
 have hh2:A.in1.handled=none:=by simp[hh]
 have i4:nX g4 g1.objs.size a (nslot w S 0) 0 (aX S).length ep:=by
  have:=k4 _ _ (by rw[z1];exact jn (jj _)) i2;have e:nslot w S 0=0:=by unfold nslot slot;split<;>rfl
  rw[e];exact this
 refine CJ ⟨oz PySem.F.plain_extend_loop _,codeAny_extend_loopS ((A66 (prog:=prog) (w:=w) hh2 g1.objs.size a neI S f ep).toS) (by have:=lP (S 0) (S 1) (S 2) (S 3);show(L (S 0) (S 1) (S 2) (S 3)).length<=_;rw[ko];omega) s.heap.objs.size neS _ (aX S).length 0 {s with heap:=g4} _ _ rfl (js _)
  ⟨i4,k4 _ _ neA.symm o2⟩ l4 (ItemsOf.nil _) λs' acc' c' hm hS' hacc=> ?_⟩
 show jy _ A (load s.heap.objs.size>>=_) _ _ s';refine CI (wpAny_load hS' ?_);have eacc:acc'.toList=ord w a S f ep:=by
  refine List.ext_getElem? λj=> ?_;rw[kh];by_cases hj:j<acc'.size
  ·rw[ph hj];exact(hacc.2 j acc'[j] (ph hj)).symm
  ·rw[Bf (by omega),yc (by rw[nS,←hacc.1];omega)]
 obtain⟨h',g',d',tk',os'⟩:=s';have eg:g'=s.gens:=hm.gens;have ed:d'=s.drawn:=hm.drawn;have eo:os'=s.os:=hm.os;subst eg;subst ed;subst eo;refine CJ ?_;show Q acc'.toList _;rw[eacc];have kk:∀b o,s.heap.get? b=some o->h'.get? b=some o:=λb o e=>by
  have hb:=CO e;refine hm.heap b o (λhmm=> ?_) (k4 b o (jo hb) (k2 _ _ (k1 _ _ e)));rcases fe.mp hmm with z|z
  ·exact jo hb z
  ·rw[z1]at z;exact jo (ji hb) (fy.mp z)
 exact h h' tk' kk (jb (CO hS'))
theorem B0r (S:Nat->Bool):((aX S).map λk:Nat=>(k:Int)).Pairwise (· <= ·):=by unfold aX;cases S 0<;>cases S 1<;>cases S 2<;>cases S 3<;>decide
end Set4
namespace L2
open PySem PySem.Spec PyProof.Rows Srt Set4
noncomputable def lR (w:kl)(a:ju)(S:Nat->Bool):HO:=.ext λh=>IsS4 h a S (!byT w)
theorem A6c (hc:X.calm=true):cV X (.type "set") (λxs H Q=> ∃(p:ju)(ns:List Nat),xs=[.ref p]/\CW X.K H p (ns.map λn:Nat=>V.int (n:Int))/\(∀n∈ns,n<4)/\∀l,H l=none->Q (.ref l) (upd H l (lR X.w l λk=>decide (k∈ns)))):=by
 intro kb s σ H xs us Q I r h;obtain⟨p,ns,rfl,hq,h4,q⟩:=h;obtain⟨u,rfl,rx⟩:=dR r;cases rx;obtain⟨lu,rv,pl,hz⟩:=I.list hq;have hl:=rv.length;rw[di]at hl;have hval:∀(i:Nat)(v:jt),lu.toArray[i]?=some v->∃t,v= .int ((ns.getD i 0:Nat):Int) t:=λi v e=>by
  have e':lu[i]?=some v:=by simpa using e
  have hi:i<ns.length:=by rw[hl];exact(CL.mp e').1
  obtain⟨u,hu,ru⟩:=rv.get (i:=i) (x:=V.int ((ns[i]:Nat):Int)) (by rw[cy,cx hi];rfl);rw[e']at hu;cases hu;rw[show ns.getD i 0=ns[i] by simp[hi]];exact ru
 refine A98 (I.ok.hd hc) pl.isList (val:=λi=>ns.getD i 0) hval (λi hi=> ?_) λh' tk hS hk=> ?_
 ·have hi':i<ns.length:=by rw[hl];simpa using hi
  show ns.getD i 0<4;rw[show ns.getD i 0=ns[i] by simp[hi']];exact h4 _ (c5 _)
 ·have eS:acc (λi=>ns.getD i 0) lu.toArray.size=λk=>decide (k∈ns):=funext λk=>by
   rw[k6,A15,decide_eq_true_eq,ic,←hl];constructor
   ·rintro⟨j,hj,e⟩;have e':ns.getD j 0=k:=e;rw[show ns.getD j 0=ns[j] by simp[hj]]at e';rw[←e'];exact c5 _
   ·intro hm;obtain⟨j,hj,e⟩:=yz hm;exact⟨j,hj,by show ns.getD j 0=k;rw[show ns.getD j 0=ns[j] by simp[hj]];exact e⟩
  rw[eS]at hS;obtain⟨f,ep,hf,ho⟩:=id hS;exact⟨.ref s.heap.objs.size,_,I.laid (t':=tk) (λb o q=>hk b o (CO q) q) (CT _) (o:=lR X.w _ _) ⟨hS,⟨_,ho⟩,λh1 h2 x e=>x.at e⟩,rfl,q _ (I.hok.fresh (CT _))⟩
theorem zF:∀{ns:List Int}{us:List jt},us.map Bp=ns->(∀u∈us,∃n t,u= .int n t)->Vals (ns.map V.int) us
 |_,[],rfl,_=> .nil
 |_,u::us,rfl,h=>by
  obtain⟨n,t,rfl⟩:=h u CQ;exact .cons ⟨t,rfl⟩ (zF rfl λv hv=>h v (CP _ hv))
theorem B5b (hc:X.calm=true):cV X (.builtin "sorted") (λxs H Q=> ∃(p:ju)(S:Nat->Bool),xs=[.ref p]/\H p=some (lR X.w p S)/\∀l,H l=none->Q (.ref l) (upd H l (.lst ((aX S).map λk:Nat=>V.int (k:Int))))):=by
 intro kb s σ H xs us Q I r h;obtain⟨p,S,rfl,hp,q⟩:=h;obtain⟨u,rfl,rx⟩:=dR r;cases rx;obtain⟨⟨f,ep,hf,ho⟩,_,_⟩:=(show ObjOk X.prog X.w H s.heap p (lR X.w p S)from I.hok _ _ hp);have hperm:=zQ X.w p S f ep;have ue:=nS X.w p S f ep;have h4:(aX S).length<=4:=lP (S 0) (S 1) (S 2) (S 3);have CH:∀v∈ord X.w p S f ep,∃n t,v= .int n t:=λv hv=>by
  obtain⟨k,hk,rfl⟩:=fm.mp (hperm.mem_iff.mp hv);obtain⟨a,b⟩:=mem_mem4.mp hk;obtain⟨t,e⟩:=hf k a b;exact⟨_,t,e⟩
 generalize hvs:ord X.w p S f ep=vs at hperm ue CH;have hnum:(vs.map Bp).Perm ((aX S).map λk:Nat=>(k:Int)):=by
  refine(hperm.map Bp).trans (xf ?_);rw[d7];refine d5 λk hk=> ?_;obtain⟨a,b⟩:=mem_mem4.mp hk;obtain⟨t,e⟩:=hf k a b;show Bp (f k)=_;rw[e];rfl
 have hI:qv vs (vs.map Bp):=intsAre_map vs CH;refine yL (κ:=oneType') (r:=λi=>Bp (vs.getD i ke)) (vs:=vs) (by omega) (λh=>absurd h (by omega)) (λQ' k=>A5n (by simp[I.ok.hd hc]) ho λh1 tk k1 z1=>by rw[hvs];exact k h1 tk k1 z1) (λh1 tk k1 h2=> ⟨λQ2 q2=> ?_,λi j C hi hj hC=> ?_⟩) λD h' tk c pp hD hpm hu o' k'=> ?_
 ·obtain⟨v1,v2,rest,e⟩:∃v1 v2 rest,vs=v1::v2::rest:=by
   match vs,h2 with
   |v1::v2::rest,_=>exact⟨v1,v2,rest,rfl⟩
  subst e;rw[keyKind_ints hI];exact CJ q2
 ·show jy _ _ (keyLt' oneType' (vs.getD i ke) (vs.getD j ke)) C (λ_ _=>False) _;obtain⟨n,t,e⟩:=CH _ (c5 hi);obtain⟨n2,t2,e2⟩:=CH _ (c5 hj);have ei:vs.getD i ke= .int n t:=by rw[←e];simp[hi]
  have ej:vs.getD j ke= .int n2 t2:=by rw[←e2];simp[hj]
  have hC':C (decide (n<n2)) {s with heap:=h1,toks:=tk}:=by
   have z:decide ((λi=>Bp (vs.getD i ke)) i<(λi=>Bp (vs.getD i ke)) j)=decide (n<n2):=by
    refine decide_eq_decide.mpr ?_;show Bp (vs.getD i ke)<Bp (vs.getD j ke)↔_;rw[ei,ej];exact Iff.rfl
   rw[z]at hC;exact hC
  rw[ei,ej];exact W.kat_lt_int hC'
 ·have pperm:=oy.mp hpm;have outp:(pp.toList.map λi=>vs.getD i ke).Perm vs:=by
   refine(pperm.map λi=>vs.getD i ke).trans (xf ?_);exact A2m vs
  have hup:((pp.toList.map λi=>vs.getD i ke).map Bp).Pairwise (· <= ·):=by
   rw[d7,gv,gu];intro i j hi hj hij;have hsz:pp.toList.length=vs.length:=by rw[k5,hpm.size]
   have h1:=hu i j (by omega) (by omega);have e:∀k (hk:k<pp.toList.length),at' pp k=pp.toList[k]:=λk hk=>by
    have:k<pp.size:=by simpa using hk
    unfold at';simp[wa,this]
   unfold R at h1;rw[e i hi,e j hj]at h1;exact h1
  have eout:(pp.toList.map λi=>vs.getD i ke).map Bp=(aX S).map λk:Nat=>(k:Int):=W.ksm_same ((outp.map Bp).trans hnum) hup (B0r S);have hv:Vals (((aX S).map λk:Nat=>(k:Int)).map V.int) (pp.toList.map λi=>vs.getD i ke):=zF eout λu hu'=>CH u (outp.mem_iff.mp hu');rw[d7]at hv;exact⟨.ref D,_,I.laid (t':=tk) (o:=.lst ((aX S).map λk:Nat=>V.int (k:Int))) k' hD ⟨by rw[di,ko];omega,_,c,hv,o'⟩,rfl,q _ (I.hok.fresh hD)⟩
end L2
namespace L2
open PySem PySem.Spec PyProof.Rows
theorem C0.updO (s:C0 p H H1)(hd:H d=none)(hp:PenAt H p):C0 p H (upd H1 d o):=by obtain⟨x,f,e⟩:=hp;have hne:p≠d:=bG e hd;obtain⟨x',f',e'⟩:=s.pen;exact⟨⟨x',f',by rw[aN hne];exact e'⟩,λb o hb h=>by rw[aN (bG h hd)];exact s.keep b o hb h⟩
theorem C0.none (s:C0 p H H1)(h:H1 b=BG):H b=BG/\b≠p:=by
 have hb:b≠p:=λz=>by
  obtain⟨x,f,e⟩:=s.pen;rw[z,e]at h;cases h
 refine⟨?_,hb⟩;cases e:H b with
 |none=>rfl
 |some o=>rw[s.keep b o hb e]at h;cases h
theorem A9n (Pv:Nat->St->Hp->Prop)(h0:Pv 0 σ H)(hl:∀i σ H,Pv i σ H->H d=some (.frz o (.dT kvs)))
  (hs:∀i k x p b σ H,kvs[i]?=some (k,x)->Pv i σ H->H p=none->H b=some (.tup (k.map kV))->g (.ref p) σ (upd H p (.tup [.ref b,x])) λσ2 H2=>tb {D with nx:=Pv (i+1),ct:=Pv (i+1),bk:=D.nx} σ2 H2)(hd:∀σ H,Pv kvs.length σ H->D.nx σ H):
  cP (Itm d o kvs) g tb D σ H:=by
 refine⟨λi m σ H=>m=kvs.length - i/\i<=kvs.length/\Pv i σ H,⟨kvs.length,by simp,js _,h0⟩,?_⟩;rintro i m σ H ⟨rfl,hi,p⟩;by_cases CA:i<kvs.length
 ·refine .inr ⟨⟨hl i σ H p,CA⟩,Pv (i+1),λσ' H' p'=> ⟨kvs.length -(i+1),by omega,rfl,CA,p'⟩,λx H' y=> ?_⟩;obtain⟨pp,b,k,x',e1,e2,e3,e4,e5⟩:=y;subst e1 e3;exact hs i k x' pp b σ H e4 p e2 e5
 ·have e:i=kvs.length:=by omega
  subst e;exact .inl ⟨⟨hl _ σ H p,rfl⟩,hd σ H p⟩
end L2
namespace L2
open PySem PyProof.Rows
theorem PenAt.fresh (h:PenAt H p)(hl:H l=none):l≠p:=λz=>by
 obtain⟨x,f,e⟩:=h;rw[z,e]at hl;cases hl
theorem xR (he:PE X (.Name x pos) te)(hr:PAq X es t):PA X (.Name x pos::es) (bX te t):=aD he (kR hr)
theorem PenAt.same (h:PenAt H p)(s:Same H H'):PenAt H' p:=let ⟨x,y,e⟩:=h;⟨x,y,s _ _ e⟩
open PySem.Spec
noncomputable def Itv (K:W.Frag)(a:ju)(n:Nat):It:=
 ⟨λi H=>i<n/\∃xs,CW K H a xs/\xs.length=n,λi H x H'=>H'=H/\∀xs,CW K H a xs->xs[n - 1 - i]?=some x,λi _=>i=n⟩
theorem B05 {P:j9}{w:kl}{K:W.Frag}{tg:om}(a it:ju)(n:Nat):fX P w K tg (Itv K a n) [it] it (λi h=>h.IsRevIter it a ((n:Int) - 1 - i))where
 mem:=by simp
 obj:=λi h st b hb=>by
  have e:b=it:=by simpa using hb
  subst e;obtain⟨o,e,c,d⟩:=st;exact⟨o,e,λv z=>by rw[d]at z;cases z⟩
 keep:=λi h h' st k=>st.at λo e=>k it (by simp) o e
 item:=by
  intro X hP hw hK hc i kb s σ H E I hf st hg;subst hP hw hK;obtain⟨hi,xs,hq,hn⟩:=hg;obtain⟨lu,rv,p,hz⟩:=I.list hq;have CA:n - 1 - i<xs.length:=by omega
  obtain⟨u,hu,ru⟩:=rv.get (cx CA);obtain⟨f0,f1,f2,f3,f4,f5⟩:=hf it (by simp);have yf:s.heap.IsRevIter it a ((n - 1 - i:Nat):Int):=by
   have e:((n - 1 - i:Nat):Int)=(n:Int) - 1 - i:=by omega
   rw[e];exact st
  refine wpAny_pyNext_rev_item yf p.isList (x:=u) (by simpa using hu) λh' st2 sb=> ?_;have I1:Inv X kb σ H {s with heap:=h'}:=I.turned (t':=s.toks) (λb o hb e=>(sb.2 b hb).trans e) f0 f1 f3 f4 f5;obtain⟨o,e,c,d⟩:=id st2;refine⟨u,rfl,mU (s:={s with heap:=h'}) e c d (by decide) ⟨xs[n - 1 - i],H,I1,ru,⟨rfl,λys hy=>by rw[I.list_inj hy hq];exact cx CA⟩,?_,λb hb=>(hf b hb).1⟩⟩;have e2:((n:Int) - 1 -((i+1:Nat):Int))=((n - 1 - i:Nat):Int) - 1:=by omega
  rw[e2];exact st2
 done:=by
  intro X hP hw hK hc i kb s σ H E I hf st hg;subst hP hw hK;obtain⟨f0,f1,f2,f3,f4,f5⟩:=hf it (by simp);have yf:s.heap.IsRevIter it a (-1):=by
   have e:((n:Int) - 1 - i)= -1:=by have:i=n:=hg;omega
   rw[←e];exact st
  exact wpAny_pyNext_rev_end (I.ok.hd hc) yf λh' eb=> ⟨rfl,I.turned (t':=s.toks) (λb o hb e=>eb b o hb e) f0 f1 f3 f4 f5⟩
 self:=λ_ _ _ _ _ st h=>wpAny_pyIter_revIter st h
noncomputable def B0z (K:W.Frag)(ta:TA):TI:=λσ H R=>ta σ H λxs H1=> ∃a ys,xs=[.ref a]/\CW K H1 a ys/\R (Itv K a ys.length) H1
theorem B17 {e:om}{ta:TA}{p pos:Pos}(hg:Gl X "reversed")(hm:X.mg "reversed" =none)(ha:PA X [e] ta)(he:ni [e] X.env=[(false,sf e X.env)]:=by rfl):PI X tg (.Call (.Name "reversed" p) [e] [] pos) (B0z X.K ta):=by
 intro kb s σ H R I h;refine va (iE I hg hm boot_reversed ?_ (by decide) (by decide));refine ot (thn (ha pos kb s σ H _ I h) λus s1 ⟨vs,H1,I1,r1,q1⟩=> ?_) he rfl;obtain⟨a,ys,rfl,hq,q⟩:=q1;obtain⟨u,rfl,rx⟩:=dR r1;cases rx;obtain⟨lu,rv,pl,hz⟩:=I1.list hq;refine call_reversed_list pl.isList ?_;have hl:=rv.length;refine wpAny_pyIter_revIter (l:=a) (i:=((lu.toArray.size:Int) - 1)) ⟨_,iy _ rfl,rfl,rfl⟩ ?_;refine⟨s1.heap.objs.size,[s1.heap.objs.size],_,_,H1,rfl,I1.kept (t':=s1.toks) λb o e=>CK _ e,B05 a _ ys.length,⟨_,iy _ rfl,rfl,?_⟩,λb hb=> ?_,q⟩
 ·show Data.fields #[jx a,vh _]=_;have e:((lu.toArray.size:Int) - 1)=(ys.length:Int) - 1 -((0:Nat):Int):=by rw[ic,←hl];simp
  rw[e]
 ·have e:b=s1.heap.objs.size:=by simpa using hb
  subst e;exact I1.fpOk (CT _) (I1.hok.fresh (CT _))
theorem A99 {K:W.Frag}{a:ju}{xs:List V}{g:TG}{tb:TS}{D:dC}{σ:St}{H:Hp}(Pv:Nat->St->Hp->Prop)(h0:Pv 0 σ H)(hl:∀i σ H,i<=xs.length->Pv i σ H->CW K H a xs)
  (hs:∀i x σ H,xs[xs.length - 1 - i]?=some x->i<xs.length->Pv i σ H->g x σ H λσ2 H2=>tb {D with nx:=Pv (i+1),ct:=Pv (i+1),bk:=D.nx} σ2 H2)(hd:∀σ H,Pv xs.length σ H->D.nx σ H):cP (Itv K a xs.length) g tb D σ H:=by
 refine⟨λi m σ H=>m=xs.length - i/\i<=xs.length/\Pv i σ H,⟨xs.length,by simp,js _,h0⟩,?_⟩;rintro i m σ H ⟨rfl,hi,p⟩;by_cases CA:i<xs.length
 ·refine .inr ⟨⟨CA,xs,hl i σ H hi p,rfl⟩,Pv (i+1),λσ' H' q=> ⟨xs.length -(i+1),by omega,rfl,CA,q⟩,?_⟩;rintro x H' ⟨rfl,hx⟩;exact hs i x σ _ (hx xs (hl i σ _ hi p)) CA p
 ·have e:i=xs.length:=by omega
  subst e;exact .inl ⟨rfl,hd σ H p⟩
end L2
namespace L2
open PySem PyProof.Rows
theorem wK (xs:List V)(h:1<=xs.length):cI xs (some 1) none=xs.drop 1:=by have e1:HT.sIx xs.length 0 (some 1)=min 1 xs.length:=HT.sIx_nat _ _ 1;have e2:HT.sIx xs.length xs.length none=xs.length:=rfl;unfold cI;rw[e1,e2,show min 1 xs.length=1 by omega,iq (by rw[de];omega)]
noncomputable def TusAt (H:Hp)(qs:List ju)(ts:List (List V)):Prop:=Paired (λq ys=>H q=some (.tup ys)) qs ts
theorem TusAt.same (h:TusAt H qs ts)(s:Same H H'):TusAt H' qs ts:=Paired.mapP h λ_ _ e=>s _ _ e
theorem jF (h1:Paired F l1 m1)(h2:Paired F l2 m2):Paired F (l1++l2) (m1++m2):=by
 induction h1 with
 |nil=>exact h2
 |cons r t ih=>exact .cons r ih
theorem B2r (h1:Paired F l1 m1):Paired F (l1.drop 1) m1.tail:=by
 cases h1 with
 |nil=>exact .nil
 |cons r t=>exact t
theorem A0l {J:It}{S:Hp->Prop}{l:ju}{qs:List ju}{ts:List (List V)}{H0:Hp}{rest:St}{Q:St->Hp->Prop}{te:TE}(f:List V->List V)(W:Wk J (qs.map V.ref) S)(hS:∀H',Same H0 H'->S H')(hC:TusAt H0 qs ts)(hl:H0 l=none)(hz:qs.length<=999)
  (ev:∀q ys H' Q',ys∈ts->H' q=some (.tup ys)->Same H0 H'->(∀t H2,Same H' H2->H2 t=some (.tup (f ys))->Q' (.ref t) H2)->te (some (.ref q)::rest) H' Q')
  (hQ:∀σ H' qs',Same H0 H'->H' l=some (.lst ((qs':List ju).map V.ref))->TusAt H' qs' (ts.map f)->Q σ H'):
  cP J (cN 0) (cL gK (eN l te)) (eC Q) (none::rest) (upd H0 l (.lst [])):=by
 have ue:qs.length=ts.length:=Paired.length hC;refine W (λi σ H'=>(∃x,σ=x::rest)/\Same H0 H'/\∃Cw:List ju,H' l=some (.lst (Cw.map V.ref))/\TusAt H' Cw ((ts.take i).map f)) ⟨⟨_,rfl⟩,aK hl,[],by rw[aG];rfl,.nil⟩ (λi σ H' _ h=>hS _ h.2.1) ?_ ?_
 ·rintro i x σ H' hx ⟨⟨x0,rfl⟩,hs,Cw,Ao,hP⟩;rw[cy]at hx;cases hb:qs[i]? with
  |none=>rw[hb]at hx;cases hx
  |some b=>
   rw[hb]at hx;cases hx;have hi:i<qs.length:=(CL.mp hb).1;have hc:ts[i]?=some ts[i]:=cx (by omega);have he:H0 b=some (.tup ts[i]):=by
    have:∀{qs:List ju}{ts:List (List V)}{i:Nat}{b:ju}{y:List V},TusAt H0 qs ts->qs[i]?=some b->ts[i]?=some y->H0 b=some (.tup y):=by
     intro qs ts i b y h
     induction h generalizing i with
     |nil=>intro z;cases z
     |cons r t ih=>
      cases i with
      |zero=>intro z1 z2;cases z1;cases z2;exact r
      |succ i=>intro z1 z2;exact ih (by simpa using z1) (by simpa using z2)
    exact this hC hb hc
   have et:(ts.take (i+1)).map f=(ts.take i).map f++[f ts[i]]:=by rw[iu,hc,dz];rfl
   have hbl:Cw.length=_:=Paired.length hP;rw[di,du]at hbl;refine iZ ?_;refine ev b ts[i] H' _ (c5 _) (hs _ _ he) hs λt H2 s2 ht=> ?_;have Cz:=s2 _ _ Ao;refine⟨_,Cz,cO (by rw[di];omega),⟨_,rfl⟩,λb2 u e=> ?_,Cw++[t],?_,?_⟩
   ·rw[aN (bG e hl)];exact s2 _ _ (hs _ _ e)
   ·rw[aG,dz];rfl
   ·rw[et];have up:∀b xs,H2 b=some (.tup xs)->(upd H2 l (.lst (Cw.map V.ref++[.ref t]))) b=some (.tup xs):=λb xs e=>by rw[aN (λz=>by rw[z,Cz]at e;cases e)];exact e
    exact Paired.snoc (Paired.mapP (hP.same s2) λ_ _ e=>up _ _ e) (up _ _ ht)
 ·rintro σ H' ⟨_,hs,Cw,Ao,hP⟩;rw[di,ue,iq (CT _)]at hP;exact hQ σ H' Cw hs Ao hP
end L2
namespace Wlk
open PySem PyProof.Rows Srt Cyc Grd
noncomputable def sO (cs:List Pl):Prop:=cs≠[]/\∀C:List Pl,gU cs C->(∃x∈cs,x∈C)->∀y∈cs,y∈C
open Classical in
noncomputable def mD (cs:List Pl):Bool:=decide (sO cs)
theorem wI (h:gU cs C):gU cs (cs.filter λx=> !decide (x∈C)):=λx hx y hy hcs=>by
 have hx':=ff.mp hx;refine ff.mpr ⟨hcs,?_⟩;have hn:x∉C:=by simpa using hx'.2
 have:y∉C:=λhyC=>hn (h y hyC x (kG hy) hx'.1);simpa using this
theorem A1e (h0:c0∈cs)(h:∀C,gU cs C->c0∈C->∀y∈cs,y∈C):sO cs:=by
 refine⟨λz=> ?_,λC hC hx0=> ?_⟩
 ·rw[z]at h0;cases h0
 obtain⟨x,hx,hxC⟩:=hx0;by_cases z:c0∈C
 ·exact h C hC z
 ·have:=h _ (wI hC) (ff.mpr ⟨h0,by simpa using z⟩) x hx;have:=(ff.mp this).2;simp[hxC]at this
open Classical in
theorem A9m (hu:cs.Pairwise ltP)(h:A0s cs b):b=mD cs:=by
 unfold mD;rcases h with⟨rfl,rfl⟩| ⟨c0,tl,P0,rfl,hP,rfl⟩
 ·exact(CN λz=>z.1 rfl).symm
 ·rw[k6,decide_eq_true_eq,decide_eq_true_eq];constructor
  ·intro e;refine A1e CQ λC hC h0 y hy=> ?_;by_cases z:y∈C
   ·exact z
   ·have:=hP.min _ (wI hC) ⟨y,by rw[e];exact hy,ff.mpr ⟨hy,by simpa using z⟩⟩;have:=(ff.mp this).2;simp[h0]at this
  ·intro hc;refine B0j hP.up hu λx=> ⟨λhx=>hP.sub x hx,λhx=> ?_⟩;exact hc.2 P0 hP.cl ⟨c0,CQ,hP.st⟩ x hx
noncomputable def eA (met rest:List Pl):List Pl:=rest.filter λp=>met.any λo=>dL o p
noncomputable def hstep (mr:List Pl×List Pl):List Pl×List Pl:=(mr.1++eA mr.1 mr.2,mr.2.filter λp=> !decide (p∈eA mr.1 mr.2))
noncomputable def hit:Nat->List Pl×List Pl->List Pl×List Pl
 |0,mr=>mr
 |n+1,mr=>hstep (hit n mr)
structure HInv (cs:List Pl)(c0:Pl)(mr:List Pl×List Pl):Prop where
 all:∀x,x∈cs↔x∈mr.1\/x∈mr.2
 re:∀C,gU cs C->c0∈C->∀x∈mr.1,x∈C
 st:c0∈mr.1
 dj:∀x∈mr.2,x∉mr.1
theorem mem_more:x∈eA met rest↔x∈rest/\∃o∈met,x∈beside o:=by unfold eA;rw[ff,ah];refine and_congr_right λ_=>exists_congr λo=>and_congr_right λ_=> ?_;exact next_iff.trans ⟨kG,kG⟩
theorem HInv.step (h:HInv cs c0 mr):HInv cs c0 (hstep mr):=by
 obtain⟨met,rest⟩:=mr;refine⟨λx=> ?_,λC hC h0 x hx=> ?_,d8.mpr (.inl h.st),λx hx hm=> ?_⟩
 ·rw[h.all x];show _↔x∈met++eA met rest\/x∈rest.filter _;rw[d8,ff];constructor
  ·rintro(z|z)
   ·exact .inl (.inl z)
   ·by_cases y:x∈eA met rest
    ·exact .inl (.inr y)
    ·exact .inr ⟨z,by simpa using y⟩
  ·rintro((z|z)|z)
   ·exact .inl z
   ·exact .inr (mem_more.mp z).1
   ·exact .inr z.1
 ·rcases d8.mp hx with z|z
  ·exact h.re C hC h0 x z
  ·obtain⟨z1,o,ho,hb⟩:=mem_more.mp z;exact hC o (h.re C hC h0 o ho) x hb ((h.all x).mpr (.inr z1))
 ·have hx':=ff.mp hx;rcases d8.mp hm with z|z
  ·exact h.dj x hx'.1 z
  ·have:=hx'.2;rw[CM z]at this;cases this
theorem A2s (h:HInv cs c0 mr):∀n,HInv cs c0 (hit n mr)
 |0=>h
 |n+1=>(A2s h n).step
theorem tQ:∀{l:List α}{x:α},x∈l->p x=false->(l.filter p).length<l.length
 |y::l,x,h,hp=>by
  rcases fe.mp h with rfl|h
  ·rw[bj (by rw[hp];decide),c9];exact Nat.lt_succ_of_le (dh _ _)
  ·have:=tQ h hp;have h2:=dh p l;rw[List.filter_cons]
   split<;>simp only[c9]<;>omega
theorem hit_stop (mr:List Pl×List Pl):∀n,(hit n mr).2=[]\/eA (hit n mr).1 (hit n mr).2=[]\/(hit n mr).2.length+n<=mr.2.length
 |0=> .inr (.inr (CT _))
 |n+1=>by
  show(hstep (hit n mr)).2=[]\/eA (hstep (hit n mr)).1 (hstep (hit n mr)).2=[]\/(hstep (hit n mr)).2.length+(n+1)<=mr.2.length;rcases hit_stop mr n with h|h|h
  ·left
   show filter _ _=[];rw[h];rfl
  ·right;left
   unfold hstep;rw[h,ak];have ef:(hit n mr).2.filter (λp=> !decide (p∈([]:List Pl)))=(hit n mr).2:=bq.mpr λa _=>by simp
   rw[ef];exact h
  ·by_cases z:eA (hit n mr).1 (hit n mr).2=[]
   ·right;left
    unfold hstep;rw[z,ak];have ef:(hit n mr).2.filter (λp=> !decide (p∈([]:List Pl)))=(hit n mr).2:=bq.mpr λa _=>by simp
    rw[ef];exact z
   ·right;right
    obtain⟨x,xs,e⟩:=a9 z;have hx:x∈eA (hit n mr).1 (hit n mr).2:=by rw[e];exact CQ
    have:=tQ (p:=λp=> !decide (p∈eA (hit n mr).1 (hit n mr).2)) (mem_more.mp hx).1 (by rw[CM hx];rfl);show(filter _ _).length+(n+1)<=_;omega
open Classical in
theorem B5x (nd:(c0::tl).Nodup):((hit (tl.length+1) ([c0],tl)).2=[])↔sO (c0::tl):=by
 have h0:HInv (c0::tl) c0 ([c0],tl):=⟨λx=>by simp,λC _ hc x hx=>by rw[fy.mp hx];exact hc,CQ,λx hx hm=>by
  rw[fy.mp hm]at hx;exact(f9.mp nd).1 hx⟩
 have h:=A2s h0 (tl.length+1);have hs:=hit_stop ([c0],tl) (tl.length+1);generalize hit (tl.length+1) ([c0],tl)=mr at h hs;constructor
 ·intro e;refine A1e CQ λC hC hc y hy=> ?_;rcases(h.all y).mp hy with z|z
  ·exact h.re C hC hc y z
  ·rw[e]at z;cases z
 ·intro hc;rcases hs with z|z|z
  ·exact z
  ·have hcl:gU (c0::tl) mr.1:=λx hx y hy hcs=>by
    rcases(h.all y).mp hcs with u|u
    ·exact u
    ·have:y∈eA mr.1 mr.2:=mem_more.mpr ⟨u,x,hx,hy⟩;rw[z]at this;cases this
   have:=hc.2 mr.1 hcl ⟨c0,CQ,h.st⟩;cases e:mr.2 with
   |nil=>rfl
   |cons x xs=>
    have hx:x∈mr.2:=by rw[e];exact CQ
    exact absurd (this x ((h.all x).mpr (.inr hx))) (h.dj x hx)
  ·have:tl.length+1<=tl.length:=jd (Nat.le_add_left _ _) z;omega
end Wlk
namespace L2
open PySem PyProof.Rows Wlk
theorem iB {α:Type}{R:Hp->ju->α->Prop}(rx:∀{H H' q a},Ext H H'->R H q a->R H' q a){J:It}{S:Hp->Prop}{l:ju}{qs:List ju}{ts:List α}{H0:Hp}{rest:St}{Q:St->Hp->Prop}{tt:TT}(p:α->Bool)(W:Wk J (qs.map V.ref) S)(hS:∀H',Same H0 H'->S H')(hC:Paired (R H0) qs ts)(hl:H0 l=none)(hz:qs.length<=999)
  (tst:∀b c H' Q',c∈ts->R H' b c->Same H0 H'->(∀H2,Same H' H2->Q' (p c) H2)->tt (some (.ref b)::rest) H' Q')
  (hQ:∀σ H' qs',Same H0 H'->H' l=some (.lst ((qs':List ju).map V.ref))->Paired (R H') qs' (ts.filter p)->Q σ H'):
  cP J (cN 0) (cL tt (eN l (dE 0))) (eC Q) (none::rest) (upd H0 l (.lst [])):=by
 have ue:qs.length=ts.length:=Paired.length hC;refine W (λi σ H'=>(∃x,σ=x::rest)/\Same H0 H'/\∃Cw:List ju,H' l=some (.lst (Cw.map V.ref))/\Paired (R H') Cw ((ts.take i).filter p)) ⟨⟨_,rfl⟩,aK hl,[],by rw[aG];rfl,.nil⟩ (λi σ H' _ h=>hS _ h.2.1) ?_ ?_
 ·rintro i x σ H' hx ⟨⟨x0,rfl⟩,hs,Cw,Ao,hP⟩;rw[cy]at hx;cases hb:qs[i]? with
  |none=>rw[hb]at hx;cases hx
  |some b=>
   rw[hb]at hx;cases hx;obtain⟨c,hc,he⟩:=fU hC hb;have hi:i<qs.length:=(CL.mp hb).1;have et:(ts.take (i+1)).filter p=(ts.take i).filter p++(if p c=true then [c]else []):=by
    rw[iu,hc,bg]
    congr 1
    by_cases z:p c=true
    ·simp[z]
    ·simp[z]
   have hfl:=dh p (ts.take i);rw[du]at hfl;have hbl:Cw.length=_:=Paired.length hP;refine tst b c H' _ (fq hc) (rx hs.ext he) hs λH2 h2=> ?_;have Cz:=h2 _ _ Ao;refine fB (λhz'=> ?_) λhz'=> ?_
   ·have x2:Ext H2 (upd H2 l (.lst (Cw.map V.ref++[.ref b]))):=Ext.updL Cz;refine⟨_,rfl,_,Cz,cO (by rw[di];omega),⟨_,rfl⟩,λb2 u e=> ?_,Cw++[b],?_,?_⟩
    ·rw[aN (bG e hl)];exact h2 _ _ (hs _ _ e)
    ·rw[aG,dz];rfl
    ·rw[et,if_pos hz'];exact Paired.snoc (Paired.mapP hP λ_ _ e=>rx x2 (rx h2.ext e)) (rx x2 (rx (hs.ext.trans h2.ext) he))
   ·refine⟨⟨_,rfl⟩,hs.trans h2,Cw,Cz,?_⟩;rw[et,if_neg (by rw[hz'];decide),ak];exact Paired.mapP hP λ_ _ e=>rx h2.ext e
 ·rintro σ H' ⟨_,hs,Cw,Ao,hP⟩;rw[di,ue,iq (CT _)]at hP;exact hQ σ H' Cw hs Ao hP
end L2
namespace L2
open PySem PySem.Spec PyProof.Rows
structure M2 (X:Cx)(o:om)(m:Str)(apos:Pos)(e f:om)(CF:Pos):Prop where
 base:Aw o m X.env (sf o X.env)=sf o X.env
 few:((As CF (ni [e,f] X.env)).all (λx=> !x.1)&&(backToKw CF (keywordEach [] X.env)).all (λx=>x.1.isSome)
  &&decide (([e,f]:List om).length+([]:List Keyword).length+(if ([]:List Keyword).isEmpty then 0 else 1)<30))=true
 line:(apos.endLine==CF.line)=true
 trees:As CF (ni [e,f] X.env)=[(false,sf e X.env),(false,sf f X.env)]
noncomputable def IsD (H:Hp)(a:ju):Prop:=(∃kvs,Rd H a (.dK kvs))\/ ∃kvs,Rd H a (.dT kvs)
theorem A6e (I:Inv X kb σ H s)(d:IsD H a):
  s.TypeIs (.ref a) "dict"/\(∀b,jx a= .ref b->∃ob,s.heap.get? b=some ob/\ob.dict=none)/\(a==n4)=false:=by
 rcases d with⟨kvs,e⟩| ⟨kvs,e⟩
 ·obtain⟨_,hd,vs,_,dd⟩:=kS I.hok e;refine⟨dd.typeIs,λb q=> ?_,hd⟩;cases q;obtain⟨ob,_,_,h1,h2,_⟩:=dd;exact⟨ob,h1,h2.2.1⟩
 ·obtain⟨_,hd,xs,_,dd⟩:=jU I.hok e;refine⟨dd.typeIs,λb q=> ?_,hd⟩;cases q;obtain⟨ob,_,_,h1,h2,_⟩:=dd;exact⟨ob,h1,h2.2.1⟩
theorem A8h (hu:A.units+1<nj)(I:Inv X kb σ H s)(g:DGet H a y o)(ry:RelV y u)(rd:RelV d r)(h:∀w' s',Inv X kb σ H s'->RelV (o.getD d) w'->Q w' s'):
  jy (kg X.prog X.w) A (call (.builtin "dict.get") [.ref a,u,r]) Q E s:=by
 rcases g with⟨kvs,k,e,ey,l⟩| ⟨kvs,k,b,e,ey,eb,l⟩
 ·subst ey;obtain⟨z,hd,vs,rel,dd⟩:=kS I.hok e;refine Cq r9 dd.typeIs xy (xo _ _ _) (meets_dict_get_default (cH X.prog X.w) a (iY ry) hd r) ⟨_,dd.mapOf,h _ _ (I.tok _) ?_⟩;rw[l];exact(rel.val k).getD rd
 ·subst ey;cases (show u=jx b from ry);obtain⟨z,hd,xs,rel,dd⟩:=jU I.hok e;refine Cq r9 dd.typeIs xy (xo _ _ _) (A0 (qd (cH X.prog X.w)) a b hd r) ⟨xh hu,k,xs,jA I.hok eb,dd,h _ _ (I.tok _) ?_⟩;rw[l];exact(rel.val k).getD rd
noncomputable def B4h (td ty tx:TE):TE:=λσ H Q=>td σ H λx H1=> ∃a,x= .ref a/\IsD H1 a/\ty σ H1 λy H2=>tx σ H2 λz H3=> ∃o,DGet H3 a y o/\Q (o.getD z) H3
theorem A0m (hu:X.A.units+1<nj)(ho:PE X o td)(he:PE X e ty)(hf:PE X f tx)(m:M2 X o "get" apos e f CF):PE X (.Call (.Attribute o "get" apos) [e,f] [] CF) (B4h td ty tx):=by
 intro kb s σ H Q I h;refine wpAny_Call_method m.base m.few m.line um r9 BC (thn (ho kb s σ H _ I h) λu s1 ⟨x,H1,I1,rx,a,ex,d,q1⟩=> ?_);subst ex;obtain rfl:u=jx a:=rx;obtain⟨t1,t2,_⟩:=A6e I1 d;refine⟨t1,t2,?_⟩;rw[m.trees];refine qw rfl (yl (rm (thn (he kb s1 σ H1 _ I1 q1) λiv s2 ⟨y,H2,I2,ry,q2⟩=>
  rm (thn (hf kb s2 σ H2 _ I2 q2) λfv s3 ⟨z,H3,I3,rz,ov,g,q3⟩=>xt ?_))))
 exact A8h hu I3 g ry rz λw' s4 I4 rw'=> ⟨_,H3,I4,rw',q3⟩
end L2
namespace Lk
open PySem PyProof.Rows L2
noncomputable abbrev KAt (prog:j9)(w:kl)(h:kj)(k:List Key)(a:ju):Prop:=IsTupleKey (cH prog w) h k a
noncomputable abbrev hT (prog:j9)(w:kl)(k:List Key):Int:=tupleKeyHash (cH prog w) k
noncomputable def dr1 (ks:List (List Key)):Nat:=(ks.map λk=>k.length+1).sum
noncomputable def drN (ks:List (List Key)):Nat:=dr1 ks+1
theorem B38 (ks:List (List Key))(k:List Key):dr1 (ks++[k])=dr1 ks+(k.length+1):=by unfold dr1;rw[dz,ig];simp
inductive P2 (R:ju->List Key->Prop):List ju->List (List Key)->Prop
 |nil:P2 R [] []
 |cons {a:ju} {k:List Key} {as:List ju} {ks:List (List Key)}:R a k->P2 R as ks->P2 R (a::as) (k::ks)
theorem P2.imp (h:P2 R as ks)(f:∀a k,R a k->S a k):P2 S as ks:=by
 induction h with
 |nil=>exact .nil
 |cons r _ ih=>exact .cons (f _ _ r) ih
theorem P2.len (h:P2 R as ks):as.length=ks.length:=by
 induction h with
 |nil=>rfl
 |cons _ _ ih=>rw[c9,c9,ih]
theorem P2.inj (f:∀a k l,R a k->S a l->k=l)(h:P2 R as ks)(g:P2 S as ls):ks=ls:=by
 induction h generalizing ls with
 |nil=>cases g;rfl
 |cons r _ ih=>cases g with|cons r' t'=>rw[f _ _ _ r r',ih t']
noncomputable def IsN (prog:j9)(w:kl)(h:kj)(ks:List (List Key))(a:ju):Prop:=∃o items n bs,h.get? a=some o/\o.cls= .type "tuple"/\o.data= .seq items n/\items.toList=(bs:List ju).map jx/\P2 (λb k=>KAt prog w h k b) bs ks
noncomputable def hN (prog:j9)(w:kl)(ks:List (List Key)):Int:=reduceHash (wj (ks.map (hT prog w)))
theorem IsN.typeIs {s:jw}{ks:List (List Key)}{a:ju}(x:IsN prog w s.heap ks a):s.TypeIs (.ref a) "tuple":=let ⟨o,_,_,_,ho,hc,_⟩:=x;⟨o,ho,hc⟩
theorem IsN.inj (hx:IsN prog w h x a)(hy:IsN prog w h y a):x=y:=by
 obtain⟨o,items,n,bs,ho,_,hd,hi,k1⟩:=hx;obtain⟨o',items',n',Cw,ho',_,hd',hi',k1'⟩:=hy;obtain rfl:o=o':=j7 (ho.symm.trans ho');rw[hd]at hd';injection hd' with h1 _
 subst h1;rw[hi]at hi';have e:bs=Cw:=by
  have inj:∀l1 l2:List ju,l1.map jx=l2.map jx->l1=l2:=by
   intro l1
   induction l1 with
   |nil=>intro l2 e;cases l2 with|nil=>rfl|cons _ _=>cases e
   |cons b l1 ih=>
    intro l2 e;cases l2 with
    |nil=>cases e
    |cons c l2=>simp only[d6,yu,jx.injEq]at e;rw[e.1,ih l2 e.2]
  exact inj _ _ hi'
 subst e;exact P2.inj (λa k l r r'=>r.inj r') k1 k1'
theorem B25 {bs:List ju}{v:jt}(h:v∈bs.map jx):∃b∈bs,v= .ref b:=by obtain⟨b,hb,e⟩:=fm.mp h;exact⟨b,hb,e.symm⟩
theorem P2.mem (h:P2 R as ks)(ha:a∈as):∃k,R a k:=by
 induction h with
 |nil=>cases ha
 |cons r _ ih=>
  rcases fe.mp ha with rfl|h
  ·exact⟨_,r⟩
  ·exact ih h
theorem IsN.keeps (x:IsN prog w h ks a)(ho:h.get? d=some o)(hd:o.data= .dict es ep)(hs:my d h h'):IsN prog w h' ks a:=by
 obtain⟨o',items,n,bs,ho',hc,hd',hi,k1⟩:=x;have hne:a≠d:=by
  rintro rfl;obtain rfl:o'=o:=j7 (ho'.symm.trans ho);rw[hd]at hd';exact nomatch hd'
 exact⟨o',items,n,bs,(hs.2 a hne).trans ho',hc,hd',hi,k1.imp λ_ _ r=>r.keeps ho hd hs⟩
theorem B5f (hk:KAt prog w s.heap k a)(h:Q true s):jy (kg prog w) A (Cu 7 (.ref a)) Q E s:=by
 have hT:=hk.typeIs;obtain⟨o,items,n,ho,_,hd,hi⟩:=hk;unfold Cu;refine CI (vc hT yv.lookup ?_);show jy _ _ (Cd (.ref a) (.type "tuple")>>=_) _ _ s;refine CI (rg hT yd ?_);simp only[qj,km,if_false];refine CI (n9 ho hd ?_);refine CI ?_;show jy _ _ (forIn items _ _) _ _ s;rw[←Ad];refine wd _ (λrest r s'=>r.1=none/\s'=s/\∀v∈rest,carriedByValue v=true) _ ?_ ?_ _ _ ⟨rfl,rfl,hi.byValue⟩
 ·rintro v rest r s' ⟨hr,rfl,hall⟩;rw[eqIsQuiet_byValue _ (hall v CQ)];refine CI (CJ ?_);simp only[qj,km,if_false];exact CJ ⟨rfl,rfl,λu hu'=>hall u (CP _ hu')⟩
 ·rintro⟨r1,r2⟩ s' ⟨hr,rfl,_⟩;simp only at hr;subst hr;exact CJ h
theorem B0g {ks:List (List Key)}{a:ju}{Q:Bool->jw->Prop}(hk:IsN prog w s.heap ks a)(h:Q true s):jy (kg prog w) A (Cu 8 (.ref a)) Q E s:=by
 have hT:=hk.typeIs;obtain⟨o,items,n,bs,ho,_,hd,hi,hP⟩:=hk;unfold Cu;refine CI (vc hT yv.lookup ?_);show jy _ _ (Cd (.ref a) (.type "tuple")>>=_) _ _ s;refine CI (rg hT yd ?_);simp only[qj,km,if_false];refine CI (n9 ho hd ?_);refine CI ?_;show jy _ _ (forIn items _ _) _ _ s;rw[←Ad,hi];refine wd _ (λrest r s'=>r.1=none/\s'=s/\∀v∈rest,∃b∈bs,v=jx b) _ ?_ ?_ _ _ ⟨rfl,rfl,λv hv=>B25 hv⟩
 ·rintro v rest r s' ⟨hr,rfl,hall⟩;obtain⟨b,hb,rfl⟩:=hall v CQ;obtain⟨k,hkb⟩:=hP.mem hb;refine CI (B5f hkb ?_);simp only[qj,km,if_false];exact CJ ⟨rfl,rfl,λu hu'=>hall u (CP _ hu')⟩
 ·rintro⟨r1,r2⟩ s' ⟨hr,rfl,_⟩;simp only at hr;subst hr;exact CJ h
theorem A8n {ks:List (List Key)}{a:ju}{Q:Int->jw->Prop}(hu:A.units+1<nj)(hk:IsN prog w s.heap ks a)(h:Q (hN prog w ks) {s with toks:=s.toks+drN ks}):jy (kg prog w) A (pyHash (.ref a)) Q E s:=by
 have hT:=hk.typeIs;obtain⟨o,items,n,bs,ho,_,hd,hi,hP⟩:=hk;have hu0:A.units<nj:=jg hu;unfold pyHash
 first|unfold pyHashByItsType|skip
 first|refine CI (wpAny_cRoomFor_or (.inr hu0) ?_)|skip
 refine CI (vc hT x6.lookup ?_);show jy _ _ (if (some (jt.builtin "tuple.__hash__")==some ke)=true then _ else _) Q E s;rw[if_neg (by rw[beq_builtin_none];exact ki)];refine CI (vc hT x6.lookup ?_);show jy _ _ (callSpecialIfBoundUnlessNone? (.ref a) "__hash__" _>>=_) Q E s;refine CI (wpAny_callSpecialIfBoundUnlessNone?_slot hT x6 (ly x6 hT F.entry_tuple_hash ?_ (F.args_tuple_hash_1 _)));show jy _ _ (vp (.ref a)>>=_) _ _ s;refine CI (Ae ho hd ?_);refine CI ?_;rw[←Ad,hi];refine wd _
  (λrest (g:Array Int) s'=> ∃Cw ks' pre n,rest=(Cw:List ju).map jx/\P2 (λb k=>KAt prog w s.heap k b) Cw ks'/\pre++ks'=ks/\g.toList=pre.map (Lk.hT prog w)/\n=dr1 pre/\s'={s with toks:=s.toks+n})
  _ ?_ ?_ _ _ ⟨bs,ks,[],0,rfl,hP,rfl,rfl,rfl,rfl⟩
 ·rintro x rest g s' ⟨Cw,ks',pre,n,hr,hP',hpre,hg,hn,rfl⟩;cases hP' with
  |nil=>cases hr
  | @cons b k Cw ks' r t=>
   simp only[d6,yu]at hr;obtain⟨rfl,rfl⟩:=hr;refine CI (wpAny_pyHash_tuple (s:={s with toks:=s.toks+n}) (A:=A.in1) hu r ?_);have nxt:∃bs'' ks'' pre' n',Cw.map jx=(bs'':List ju).map jx/\P2 (λb k=>KAt prog w s.heap k b) bs'' ks''/\pre'++ks''=ks/\(g.push ((Lk.hT prog w) k)).toList=pre'.map (Lk.hT prog w)/\n'=dr1 pre'/\({s with toks:=s.toks+n+(k.length+1)}:jw)={s with toks:=s.toks+n'}:=
    ⟨Cw,ks',pre++[k],n+(k.length+1),rfl,t,by rw[aj];exact hpre,by rw[qa,hg,dz];rfl,by rw[B38,hn],by rw[add_assoc]⟩
   first
    |exact CJ nxt
    |exact CI (CJ (CJ nxt))
 ·rintro g s' ⟨Cw,ks',pre,n,hr,hP',hpre,hg,hn,rfl⟩;have e:ks'=[]:=by
   cases hP' with
   |nil=>rfl
   |cons _ _=>cases hr
  subst e;rw[ak]at hpre;subst hpre;show jy _ _ (retInt (wj g.toList)) _ _ _;rw[hg];refine wpAny_ret_mkInt ?_;subst hn;unfold drN at h;rw[←add_assoc]at h;unfold hN reduceHash at h;generalize wj (pre.map (Lk.hT prog w))=hh at h⊢;show jy _ _ (if (decide (-(2:Int)^63<=hh)&&decide (hh<2^63))=true then _ else _) Q E _;by_cases hr:(decide (-(2:Int)^63<=hh)&&decide (hh<2^63))=true
  ·rw[if_pos hr];rw[if_pos hr]at h;exact CJ h
  ·rw[if_neg hr];rw[if_neg hr]at h;exact CI (pj (CJ h))
theorem A5k {x y:List (List Key)}{a b:ju}{P:Fin->jw->Prop}(hu:A.units<nj)(hx:IsN prog w s.heap x a)(hy:IsN prog w s.heap y b)(h:P (.done (.ret (.bool (decide (x=y))))) s):
  jy (kg prog w) A (j6.«tuple.__eq__» ⟨[.ref a,.ref b],[]⟩) P E s:=by
 have hTb:=hy.typeIs;obtain⟨oa,xs,na,bs,hoa,_,hda,hia,kx⟩:=hx;obtain⟨ob,ys,nb,cs,hob,_,hdb,hib,ky⟩:=hy;show jy _ _ (Cd (.ref b) (.type "tuple")>>=_) _ _ s;refine CI (rg hTb yd ?_);simp only[qj,km,if_false];refine CI (Ae hoa hda ?_);refine CI (Ae hob hdb ?_);refine CI ?_;rw[hia,hib];refine wd _
  (λrest r s'=>r.1=none/\s'=s/\∃Cw cs' ks ls pre,rest=((Cw:List ju).map jx).zip ((cs':List ju).map jx)/\P2 (λb k=>KAt prog w s.heap k b) Cw ks/\P2 (λb k=>KAt prog w s.heap k b) cs' ls/\x=pre++ks/\y=pre++ls)
  _ ?_ ?_ _ _ ⟨rfl,rfl,bs,cs,x,y,[],rfl,kx,ky,rfl,rfl⟩
 ·rintro⟨u,v⟩ rest r s' ⟨hr,rfl,Cw,cs',ks,ls,pre,hz,k1,k2,ex,ey⟩;cases k1 with
  |nil=>cases hz
  | @cons b1 k Cw ks r1 t1=>
   cases k2 with
   |nil=>cases hz
   | @cons c1 l cs' ls r2 t2=>
    simp only[d6,iw,yu,yj]at hz;obtain⟨⟨rfl,rfl⟩,rfl⟩:=hz;refine CI (wpAny_eqBool_tuple hu r1 r2 ?_);by_cases hk:k=l
    ·rw[CM hk];simp only[qj,km,if_false];exact CJ ⟨rfl,rfl,Cw,cs',ks,ls,pre++[k],rfl,t1,t2,by rw[ex,aj];rfl,by rw[ey,aj,hk];rfl⟩
    ·rw[CN hk];simp only[Bool.not_false,if_true];have hf':decide (x=y)=false:=CN λe=>hk (by
      rw[ex,ey]at e;exact(AB (List.append_cancel_left e)).1)
     rw[hf']at h;exact CI (CJ (CJ (CJ h)))
 ·rintro⟨r1,r2⟩ s' ⟨hr,rfl,Cw,cs',ks,ls,pre,hz,k1,k2,ex,ey⟩;simp only at hr;subst hr;refine CJ ?_;have z1:xs.size=x.length:=by have:=congrArg pk hia;rw[di,kx.len]at this;simpa using this
  have z2:ys.size=y.length:=by have:=congrArg pk hib;rw[di,ky.len]at this;simpa using this
  show P (.done (.ret (.bool (xs.size==ys.size)))) s';rw[z1,z2];have e:(x.length==y.length)=decide (x=y):=by
   rw[k6,beq_iff_eq,decide_eq_true_eq];refine⟨λe=> ?_,λe=>by rw[e]⟩;rw[ex,ey,c8,c8]at e;have e':ks.length=ls.length:=by omega
   have:ks=[]\/ls=[]:=by
    cases k1 with
    |nil=>exact .inl rfl
    |cons _ _=>cases k2 with|nil=>exact .inr rfl|cons _ _=>cases hz
   rcases this with rfl|rfl
   ·rw[ex,ey,ay e'.symm]
   ·rw[ex,ey,ay e']
  rw[e];exact h
theorem A75 {x y:List (List Key)}{a b:ju}{Q:Bool->jw->Prop}(hu:A.units+1<nj)(hx:IsN prog w s.heap x a)(hy:IsN prog w s.heap y b)(h:Q (decide (x=y)) s):
  jy (kg prog w) A (eqBool (.ref a) (.ref b)) Q E s:=by
 unfold eqBool
 try with_reducible refine l8 ?_
 show jy _ _ (if (jx a==jx b)=true then _ else _) Q E s;by_cases hab:(jx a==jx b)=true
 ·rw[if_pos hab];have e:a=b:=by have:=eq_of_beq hab;injection this
  subst e;obtain rfl:=IsN.inj hx hy;exact CI (pj (CJ (by simpa using h)))
 ·rw[if_neg hab];exact CI (wpAny_richCompare_same_room (op:=.Eq) hx.typeIs hy.typeIs yv
   (ly yv hx.typeIs F.entry_tuple_eq (A5k hu hx hy ⟨_,rfl,(λe=>nomatch e),oo h⟩) (F.args_tuple_eq_2 _ _)) (jg hu))
noncomputable def lG (prog:j9)(w:kl):HeapKind prog w (List (List Key))where
 is:=IsN prog w
 hash:=hN prog w
 draws:=drN
 room:=λA=>A.units+1<nj
 inj:=λhx hy=>IsN.inj hx hy
 keeps:=λx ho hd hs=>x.keeps ho hd hs
 pyHash:=λhu hk h=>A8n hu hk h
 eqBool:=λhu hx hy h=>A75 hu hx hy h
 quiet:=λhk h=>B0g hk h
noncomputable abbrev kc (c:Int×Int):List Key:=[kr c.1,kr c.2]
theorem vF:∀{ps:List ju}{lu:List jt},Vals (ps.map V.ref) lu->lu=ps.map jx
 | [],_,.nil=>rfl
 |p::ps,_,.cons r1 r2=>by cases r1;rw[vF r2];rfl
theorem A3f (ok:CU P w H h)(e:C1 H a L):(lG P w).is h (L.map kc) a:=by
 obtain⟨ps,e1,e2⟩:=e;obtain⟨hz,lu,r,o,h1,h2,n,h3⟩:=(show ObjOk P w H h a (.tup (ps.map V.ref))from ok a _ e1);clear hz;have r':lu=ps.map jx:=vF r;refine⟨o,_,n,ps,h1,h2,h3,by rw[r'],?_⟩;clear e1 h3 r r'
 induction e2 with
 |nil=>exact .nil
 |cons r _ ih=>exact .cons (jA ok (ks:=kc _) r) ih
noncomputable def nO (P:j9)(w:kl)(d:ju)(xs:List (List (List Key)×ju×jt)):HO:=.ext λh=>(d==n4)=false/\∃o es ep,h.get? d=some o/\o.ExactDict/\o.data= .dict es ep/\es.toList=xs.map (B7 (lG P w))
theorem B1a (x:(d==n4)=false/\∃o es ep,h.get? d=some o/\o.ExactDict/\o.data= .dict es ep/\es.toList=xs.map (B7 (lG P w))):ObjOk P w H h d (nO P w d xs):=by refine⟨x,?_,λh1 h2 ⟨z,o,es,ep,ho,r⟩ k=> ⟨z,o,es,ep,k _ ho,r⟩⟩;obtain⟨_,o,_,_,ho,_⟩:=x;exact⟨o,ho⟩
structure vV (P:j9)(w:kl)(H:Hp)(d:ju)(CB:List (Int×Int)->Int)(xs:List (List (List Key)×ju×jt)):Prop where
 e:H d=some (nO P w d xs)
 k:∀x∈xs,∃L,x.1=L.map kc/\C1 H x.2.1 L
 nd:(xs.map (·.1)).Nodup
 v:∀L,(∃t,((Bk xs (L.map kc)).map (·.2))=some (.int (CB L) t))\/(Bk xs (L.map kc)=none/\CB L=0)
noncomputable def CostA (P:j9)(w:kl)(H:Hp)(d:ju)(CB:List (Int×Int)->Int):Prop:=∃xs,vV P w H d CB xs
theorem CostA.same (h:CostA P w H d CB)(s:Same H H'):CostA P w H' d CB:=
 let ⟨xs,c⟩:=h;⟨xs,s _ _ c.e,λx hx=>let ⟨L,e,q⟩:=c.k x hx;⟨L,e,C1.same q s⟩,c.nd,c.v⟩
noncomputable def B4b (P:j9)(w:kl):TE:=λ_ H Q=> ∀p,H p=none->Q (.ref p) (upd H p (nO P w p []))
theorem zO:PE X (.Dict [] [] pos) (B4b X.prog X.w):=λkb s σ H Q I h=>
 AJ ⟨.ref s.heap.objs.size,_,I.laid (a:=s.heap.objs.size) (o:=nO X.prog X.w s.heap.objs.size []) (t':=s.toks) (λ_ _ q=>CK _ q) (CT _)
  (B1a ⟨beq_eq_false_iff_ne.mpr (Ne.symm (jo I.big)),_,#[],0,iy _ rfl,⟨rfl,rfl,rfl⟩,rfl,rfl⟩),rfl,h _ (I.hok.fresh (CT _))⟩
theorem xD:CostA P w (upd H p (nO P w p [])) p λ_=>0:=⟨[],aG,λx hx=>(by cases hx),gg,λL=> .inr ⟨rfl,rfl⟩⟩
noncomputable def A9f (P:j9)(w:kl)(td ty tx:TE):TE:=λσ H Q=>td σ H λx H1=> ∃a CB,x= .ref a/\CostA P w H1 a CB/\ty σ H1 λy H2=>tx σ H2 λz H3=> ∃b L,y= .ref b/\z= .int 0/\CostA P w H3 a CB/\C1 H3 b L/\Q (.int (CB L)) H3
theorem B3t (hu:X.A.units+2<nj)(ho:PE X o td)(he:PE X e ty)(hf:PE X f tx)(m:M2 X o "get" apos e f CF):PE X (.Call (.Attribute o "get" apos) [e,f] [] CF) (A9f X.prog X.w td ty tx):=by
 intro kb s σ H Q I h;refine wpAny_Call_method m.base m.few m.line um r9 BC (thn (ho kb s σ H _ I h) λu s1 ⟨x,H1,I1,rx,a,CB,ex,d,q1⟩=> ?_);subst ex;obtain rfl:u=jx a:=rx;have at':∀{H:Hp}{s:jw},Inv X kb σ H s->CostA X.prog X.w H a CB->(a==n4)=false/\∃xs,s.heap.DictOfH (lG X.prog X.w) a xs/\vV X.prog X.w H a CB xs:=fun{H s} I c=>by
  obtain⟨xs,c⟩:=c;obtain⟨⟨z,o,es,ep,g,h1,h2,h3⟩,_,_⟩:=(show ObjOk X.prog X.w H s.heap a (nO X.prog X.w a xs)from I.hok _ _ c.e);exact⟨z,xs,⟨o,es,ep,g,h1,h2,h3,λx hx=>(by obtain⟨L,e,q⟩:=c.k x hx;rw[e];exact A3f I.hok q),c.nd⟩,c⟩
 obtain⟨hs,xs,dd,_⟩:=at' I1 d;obtain⟨ob,_,_,g1,g2,_⟩:=id dd;refine⟨⟨ob,g1,g2.1⟩,(λc ec=> ⟨ob,(by cases ec;exact g1),g2.2.1⟩),?_⟩;rw[m.trees];refine qw rfl (yl (rm (thn (he kb s1 σ H1 _ I1 q1) λiv s2 ⟨y,H2,I2,ry,q2⟩=>
  rm (thn (hf kb s2 σ H2 _ I2 q2) λfv s3 ⟨z,H3,I3,rz,b,L,ey,ez,c3,sq,q3⟩=>xt ?_))))
 subst ey ez;obtain rfl:iv=jx b:=ry;obtain⟨t,rfl⟩:=rz;obtain⟨hs3,xs3,dd3,cd⟩:=at' I3 c3;refine Cq r9 dd3.typeIs xy (xo _ _ _) (A0 (lG X.prog X.w) a b hs3 _) ⟨hu,L.map kc,xs3,A3f I3.hok sq,dd3,_,H3,I3.tok _,?_,q3⟩;rcases cd.v L with⟨t',e⟩| ⟨e,e0⟩
 ·rw[e];exact⟨t',rfl⟩
 ·rw[e,e0];exact⟨t,rfl⟩
end Lk
namespace PySem
noncomputable def qI (prog:j9)(w:kl)(A:mh)(G:kj->Prop)(P:Nat->jt->Prop)(bt:Nat->Nat->Bool):Prop:=
 ∀i j vi vj (s:jw)(Q E:jt->jw->Prop),G s.heap->P i vi->P j vj->Q (.bool (bt i j)) s->jy (kg prog w) A (richCompare .Lt vi vj) Q E s
noncomputable def A0h (wr:List ju)(S:ju)(G:kj->Prop):Prop:=∀h h':kj,G h->(∀b o,b∉wr->b≠S->h.get? b=some o->h'.get? b=some o)->G h'
noncomputable def mLs (v:jt)(c:Nat):Obj:={cls:=.type "list",dict:=none,data:=.seq #[v,v] c,slots:=#[]}
theorem pF:(toString "min" ++toString ".loop":String)= "min.loop":=by decide
theorem A4d (W:Walks prog w A.in1 I fp wr n P St)(hcmp:qI prog w A.in1 G P bt)(hSf:S∉fp)(hG:A0h wr S G):∀(k j:Nat)(s:jw)(vb:jt)(c:Nat),n=j+1+k->St (j+1) s.heap->G s.heap->P (zh bt j) vb->s.heap.get? S=some (mLs vb c)->
   (∀v h' tk,P (zh bt (n - 1)) v->(∀b o,b∉wr->b≠S->s.heap.get? b=some o->h'.get? b=some o)->R (.ok (.ret v)) {s with heap:=h',toks:=tk})->tq (kg prog w) A (.builtin "min.loop" ⟨[.ref I,.none,.ref S],[]⟩) R s:=by
 have nw:S∉wr:=λh=>hSf (W.sub _ h);intro k
 induction k with
 |zero=>
  intro j s vb c hn st g pb eS hR;refine nu A2 ?_;rw[mv rh _];refine CI (m:=BW (.ref S)) (n9 eS rfl (CI (m:=tryCatch (ub (.ref I)) _) (x8 (W.done s _ _ (by rw[hn];exact st) λh1 tk k1=> ?_))));refine CI (m:=yg S (λ_=> #[])) (qc (k1 S _ nw eS) rfl (CI (vw (CJ (hR vb _ tk ?_ λb o b1 b2 e=> ?_)))))
  ·rw[show n - 1=j by omega];exact pb
  ·rw[i0 _ _ (Ne.symm b2)];exact k1 b o b1 e
 |succ k ih=>
  intro j s vb c hn st g pb eS hR;refine nu A2 ?_;rw[mv rh _];refine CI (m:=BW (.ref S)) (n9 eS rfl (CI (m:=tryCatch (ub (.ref I)) _) (x8 (W.item (j+1) s _ _ (by omega) st λv h1 tk pv st1 k1=> ?_))));have eS1:=k1 S _ nw eS;have g1:G h1:=hG _ _ g λb o b1 _ e=>k1 b o b1 e;refine CI (m:=tryCatch (Ak [v,v] (richCompare .Lt v vb>>=_)) _) (x8 (l8 (CI (hcmp (j+1) (zh bt j) v vb _ _ _ g1 pv pb (CI (l8 (oo (CI (vw (CJ ?_))))))))));cases hb:bt (j+1) (zh bt j)with
  |true=>
   simp only[if_true];refine CI (m:=yg S _) (qc eS1 rfl (CI (vw ?_)));rw[pF];have keep:∀b o,b≠S->h1.get? b=some o->(h1.update S (m8 λ_=> #[v,v])).get? b=some o:=λb o z e=>by rw[i0 _ _ (Ne.symm z)];exact e
   refine CJ ⟨oz rh _,ih (j+1) _ v _ (by omega) (W.frame _ _ _ st1 λb z o e=>keep b o (λy=>hSf (y▸z)) e) (hG _ _ g1 λb o _ z e=>keep b o z e) (by simp only[zh,hb,if_true];exact pv) (i5 _ eS1 rfl) λv' h2 tk2 pv' k2=> ?_⟩;exact hR v' h2 tk2 pv' λb o b1 b2 e=>k2 b o b1 b2 (keep b o b2 (k1 b o b1 e))
  |false=>
   simp only[km,if_false];refine CI (vw ?_);rw[pF];refine CJ ⟨oz rh _,ih (j+1) _ vb c (by omega) st1 g1 (by simp only[zh,hb,km,if_false];exact pb) eS1 λv' h2 tk2 pv' k2=> ?_⟩;exact hR v' h2 tk2 pv' λb o b1 b2 e=>k2 b o b1 b2 (k1 b o b1 e)
theorem B1b (W:Walks prog w A.in1 I fp wr n P St)(hcmp:qI prog w A.in1 G P bt)(hSf:S∉fp)(hG:A0h wr S G)(h0:0<n)(st:St 0 s.heap)(g:G s.heap)
  (eS:s.heap.get? S=some {cls:=.type "list",dict:=none,data:=.seq #[] c,slots:=#[]})
  (hR:∀v h' tk,P (zh bt (n - 1)) v->(∀b o,b∉wr->b≠S->s.heap.get? b=some o->h'.get? b=some o)->R (.ok (.ret v)) {s with heap:=h',toks:=tk}):tq (kg prog w) A (.builtin "min.loop" ⟨[.ref I,.none,.ref S],[]⟩) R s:=by
 have nw:S∉wr:=λh=>hSf (W.sub _ h);refine nu A2 ?_;rw[mv rh _];refine CI (m:=BW (.ref S)) (n9 eS rfl (CI (m:=tryCatch (ub (.ref I)) _) (x8 (W.item 0 s _ _ h0 st λv h1 tk pv st1 k1=> ?_))));have eS1:=k1 S _ nw eS;refine CI (m:=yg S (λ_=> #[v,v])) (qc eS1 rfl ?_);rw[pF];have keep:∀b o,b≠S->h1.get? b=some o->(h1.update S (m8 λ_=> #[v,v])).get? b=some o:=λb o z e=>by rw[i0 _ _ (Ne.symm z)];exact e
 refine CJ ⟨oz rh _,A4d W hcmp hSf hG (n - 1) 0 _ v _ (by omega) (W.frame _ _ _ st1 λb z o e=>keep b o (λy=>hSf (y▸z)) e) (hG _ _ g λb o b1 b2 e=>keep b o b2 (k1 b o b1 e)) pv (i5 _ eS1 rfl) λv' h2 tk2 pv' k2=> ?_⟩;exact hR v' h2 tk2 pv' λb o b1 b2 e=>k2 b o b1 b2 (keep b o b2 (k1 b o b1 e))
theorem B2l (hh:A.handled=none)(g:G s.heap)(hG:∀h h':kj,G h->(∀b o,s.heap.get? b≠none->h.get? b=some o->h'.get? b=some o)->G h')
  (hcmp:qI prog w A.in1 G (λi v=>(#[a,b]:Array jt)[i]?=some v) bt)
  (h:∀h' tk,(∀c o,s.heap.get? c=some o->h'.get? c=some o)->Q (if bt 1 0=true then b else a) {s with heap:=h',toks:=tk}):jy (kg prog w) A (call (.builtin "min") [a,b]) Q E s:=by
 refine call_function_tree F.kind_min F.plain_min F.entry_min (F.args_min2 _ _) ?_;refine CI (m:=zi "min" ["key","default"] 0 ⟨[],[]⟩) (ym (show zi "min" ["key","default"] 0 ⟨[],[]⟩=pure [none,none]from rfl) ?_);have hT:(s.heap.push {cls:=.type "tuple",data:=.seq #[a,b]}).IsTuple s.heap.objs.size #[a,b]:=⟨_,iy _ rfl,rfl,0,rfl⟩;refine CI (m:=newTuple [a,b]) (k8 (CI (qe hT ?_)));have hsz:(s.heap.push {cls:=.type "tuple",data:=.seq #[a,b]}).objs.size=s.heap.objs.size+1:=i6 ..;refine CI (k8 ?_);rw[pF];dsimp only
 generalize eI:(s.heap.push {cls:=.type "tuple",data:=.seq #[a,b]}).objs.size=I at hsz;have W:=Walks.tuple (prog:=prog) (w:=w) (A:=A.in1) hh I s.heap.objs.size (by rw[hsz];exact jo (jj _)) #[a,b];have eit:((s.heap.push {cls:=.type "tuple",data:=.seq #[a,b]}).push {cls:=.type "tuple_iterator",data:=.fields #[.ref s.heap.objs.size,.int 0 0]}).get? (s.heap.push {cls:=.type "tuple",data:=.seq #[a,b]}).objs.size=some {cls:=.type "tuple_iterator",data:=.fields #[.ref s.heap.objs.size,.int 0 0]}:=iy _ rfl;have up:∀{c:ju}{o:Obj},s.heap.get? c=some o->((s.heap.push {cls:=.type "tuple",data:=.seq #[a,b]}).push {cls:=.type "tuple_iterator",data:=.fields #[.ref s.heap.objs.size,.int 0 0]}).get? c=some o:=λe=>CK _ (CK _ e);have hT2:=hT.push {cls:=.type "tuple_iterator",data:=.fields #[.ref s.heap.objs.size,.int 0 0]};have sz2:((s.heap.push {cls:=.type "tuple",data:=.seq #[a,b]}).push {cls:=.type "tuple_iterator",data:=.fields #[.ref s.heap.objs.size,.int 0 0]}).objs.size=I+1:=by rw[i6,eI]
 rw[eI]at eit;generalize ((s.heap.push {cls:=.type "tuple",data:=.seq #[a,b]}).push {cls:=.type "tuple_iterator",data:=.fields #[.ref s.heap.objs.size,.int 0 0]})=h2 at eit up hT2 sz2⊢;have lo:∀{c:ju},s.heap.get? c≠none->c<s.heap.objs.size:=fun{c} z=>by
  cases e:s.heap.get? c with
  |none=>exact absurd e z
  |some o=>exact CO e
 have n1:∀{c:ju},s.heap.get? c≠none->c≠I/\c≠h2.objs.size:=fun{c} z=>by
  have:=lo z;rw[sz2,hsz];exact⟨jo (ji this),jo (ji (ji this))⟩
 have nn:∀{c:ju}{o:Obj},s.heap.get? c=some o->s.heap.get? c≠none:=λe z=>by rw[e]at z;cases z
 refine CJ ⟨oz rh _,B1b W hcmp (S:=h2.objs.size) ?_ ?_ (Nat.succ_pos 1) ?_ ?_ (iy _ rfl) λv h' tk pv k=> ?_⟩
 ·rw[sz2];intro hm;rcases fe.mp hm with z|hm
  ·exact absurd z (AK _)
  ·have z:=fy.mp hm;rw[hsz]at z;exact absurd z (jn (ji (jj _)))
 ·exact λx y gx k=>hG x y gx λc o z e=>k c o (λm=>(n1 z).1 (fy.mp m)) (n1 z).2 e
 ·exact⟨⟨_,CK _ eit,rfl,rfl⟩,hT2.push _⟩
 ·refine hG _ _ g λc o z e=> ?_;exact CK _ (up e)
 ·have hq:=h h' tk λc o e=>k c o (λm=>(n1 (nn e)).1 (fy.mp m)) (n1 (nn e)).2 (CK _ (up e));have hv:v=if bt 1 0=true then b else a:=by
   have pv:(#[a,b]:Array jt)[zh bt 1]?=some v:=pv;by_cases z:bt 1 0=true
   ·simp only[zh,z,if_true]at pv⊢;simpa using pv.symm
   ·simp only[zh,z,if_false]at pv⊢;simpa using pv.symm
  rw[hv];exact hq
end PySem
namespace L2
open PySem PySem.Spec PyProof.Rows
theorem A97 (hc:X.calm=true)(hu:X.A.units+1<nj):cV X (.builtin "min") (λxs H Q=> ∃(p r:ju)(ns ms:List Int),xs=[.ref p,.ref r]/\H p=some (.tup (ns.map V.int))/\H r=some (.tup (ms.map V.int))/\Q (.ref (if HT.lexLt ms ns=true then r else p)) H):=by
 intro kb s σ H xs us Q I r h;obtain⟨p,r',ns,ms,rfl,hp,hr,q⟩:=h;obtain⟨u,v,rfl,ru,rv⟩:=jT r;cases ru;cases rv;obtain⟨lu,r1,p1,_⟩:=I.tuple (CY.of (K:=X.K) hp);obtain⟨its2,r2,p2,_⟩:=I.tuple (CY.of (K:=X.K) hr);have i1:qv lu.toArray.toList ns:=jO r1;have i2:qv its2.toArray.toList ms:=jO r2;obtain⟨o1,g1,c1⟩:=id p1;obtain⟨o2,g2,c2⟩:=id p2;refine B2l (G:=λh=>h.get? p=some o1/\h.get? r'=some o2) (bt:=λi j=>HT.lexLt (if i=0 then ns else ms) (if j=0 then ns else ms)) (I.ok.hd hc) ⟨g1,g2⟩ (λh h' g k=> ⟨k _ _ (by rw[g1];simp) g.1,k _ _ (by rw[g2];simp) g.2⟩) ?_ λh' tk k=> ?_
 ·intro i j vi vj s' Q' E' g hi hj hq;have key:∀(i:Nat)(v:jt),(#[jx p,jx r']:Array jt)[i]?=some v->∃(b:ju)(lu:Array jt),v= .ref b/\BE s'.heap b lu/\qv lu.toList (if i=0 then ns else ms):=λi v e=>by
   match i,e with
   |0,e=>exact⟨p,_,by simpa using e.symm,⟨o1,g.1,c1⟩,i1⟩
   |1,e=>exact⟨r',_,by simpa using e.symm,⟨o2,g.2,c2⟩,i2⟩
   |i+2,e=>simp at e
  obtain⟨b,its1,rfl,t1,k1⟩:=key i vi hi;obtain⟨b',its2,rfl,t2,k2⟩:=key j vj hj;exact HT.lt_tupInts (A:=X.A.in1) t1 t2 k1 k2 hu hq
 ·refine⟨.ref _,H,I.kept (h':=h') (t':=tk) λb o e=>k b o e,?_,q⟩;show(if HT.lexLt ms ns=true then jx r' else jx p)=_
  split<;>rfl
end L2
namespace Wy
open PySem
theorem snoc_ind {α:Type}{P:List α->Prop}(h0:P [])(h1:∀l a,P l->P (l++[a]))(l:List α):P l:=by
 have:∀r:List α,P r.reverse:=by
  intro r
  induction r with
  |nil=>exact h0
  |cons a r ih=>rw[List.reverse_cons];exact h1 _ _ ih
 have h:=this l.reverse
 rwa [List.reverse_reverse]at h
section
variable {α:Type}
noncomputable def V4 (C:List α)(f:α->Int):Int:=C.foldl (λm c=>m*4+f c) 0
theorem V4_snoc (C:List α)(c:α)(f:α->Int):V4 (C++[c]) f=V4 C f*4+f c:=by unfold V4;rw[cj];rfl
theorem V4_add (f g:α->Int)(C:List α):V4 C (λc=>f c+g c)=V4 C f+V4 C g:=by refine snoc_ind (P:=λC=>V4 C (λc=>f c+g c)=V4 C f+V4 C g) rfl (λC c ih=> ?_) C;rw[V4_snoc,V4_snoc,V4_snoc,ih];omega
theorem V4_mul (h:Int)(f:α->Int)(C:List α):V4 C (λc=>h*f c)=h*V4 C f:=by refine snoc_ind (P:=λC=>V4 C (λc=>h*f c)=h*V4 C f) (Int.mul_zero h).symm (λC c ih=> ?_) C;rw[V4_snoc,V4_snoc,ih,Int.mul_add,qo]
theorem V4_congr {f g:α->Int}{C:List α}(h:∀c∈C,f c=g c):V4 C f=V4 C g:=by
 revert h
 refine snoc_ind (P:=λC=>(∀c∈C,f c=g c)->V4 C f=V4 C g) (λ_=>rfl) (λC c ih h=> ?_) C;rw[V4_snoc,V4_snoc,ih λd hd=>h d (d9 _ hd),h c (fc _ CQ)]
noncomputable def Fig (C:List α)(f:α->Int):Prop:=∀c∈C,0<=f c/\f c<4
theorem Fig.init (h:Fig (C++[c]) f):Fig C f/\0<=f c/\f c<4:=⟨λd hd=>h d (d9 _ hd),h c (fc _ CQ)⟩
theorem sQ {f:α->Int}{C:List α}(h:Fig C f):0<=V4 C f/\V4 C f<4^C.length:=by
 revert h
 refine snoc_ind (P:=λC=>Fig C f->0<=V4 C f/\V4 C f<4^C.length) (λ_=> ⟨ur _,(by decide:(0:Int)<1)⟩) (λC c ih h=> ?_) C;have h1:=ih h.init.1;have h2:=h.init.2;rw[V4_snoc,c8,dq,Int.pow_succ];omega
theorem A3r {f g:α->Int}{C:List α}(hf:Fig C f)(hg:Fig C g)(e:V4 C f=V4 C g):∀c∈C,f c=g c:=by
 revert hf hg e
 refine snoc_ind (P:=λC=>Fig C f->Fig C g->V4 C f=V4 C g->∀c∈C,f c=g c) (λ_ _ _ c hc=>by cases hc) (λC c ih hf hg e=> ?_) C;rw[V4_snoc,V4_snoc]at e;have h1:=hf.init.2;have h2:=hg.init.2;intro d hd;rcases d8.mp hd with z|z
 ·exact ih hf.init.1 hg.init.1 (by omega) d z
 ·rw[fy.mp z];omega
theorem A1p (f:α->Int)(c:α)(C:List α):V4 (c::C) f=f c*4^C.length+V4 C f:=by refine snoc_ind (P:=λC=>V4 (c::C) f=f c*4^C.length+V4 C f) (by show 0*4+f c=f c*1+0;omega) (λC d ih=> ?_) C;rw[←aq,V4_snoc,V4_snoc,ih,c8,dq,Int.pow_succ,←qo];omega
theorem V4_lex:∀{C:List α},Fig C f->Fig C g->(HT.lexLt (C.map f) (C.map g)=true↔V4 C f<V4 C g)
 | [],_,_=>Iff.intro (λh=>by cases h) (λh=>by cases h)
 |c::C,hf,hg=>by
  have hf':Fig C f:=λd hd=>hf d (CP _ hd);have hg':Fig C g:=λd hd=>hg d (CP _ hd);have ih:=V4_lex hf' hg';have r1:=sQ hf';have r2:=sQ hg';rw[d6,d6,HT.lexLt_cons,A1p,A1p];generalize (4:Int)^C.length=N at r1 r2;by_cases e:f c=g c
  ·rw[if_pos e,ih,e];omega
  ·rw[if_neg e,decide_eq_true_eq];constructor
   ·intro h;have:f c*N+N<=g c*N:=by
     have:=uo (show f c+1<=g c by omega) (show 0<=N by omega)
     rwa [Int.add_mul,Int.one_mul]at this
    omega
   ·intro h;by_cases z:f c<g c
    ·exact z
    ·have:g c*N+N<=f c*N:=by
      have:=uo (show g c+1<=f c by omega) (show 0<=N by omega)
      rwa [Int.add_mul,Int.one_mul]at this
     omega
end
section
variable {α:Type} [DecidableEq α]
noncomputable def ind (A:List α)(c:α):Int:=if c∈A then 1 else 0
noncomputable def mk (C A:List α):Int:=V4 C (ind A)
theorem sN (C A:List α):Fig C (ind A):=λc _=>by unfold ind;split<;>decide
theorem mk_ran (C A:List α):0<=mk C A/\mk C A<4^C.length:=sQ (sN C A)
theorem A40 (x y a b:Nat)(ha:a<4)(hb:b<4):(x*4+a)&&&(y*4+b)=(x&&&y)*4+(a&&&b):=by
 have h1:((x*4+a)&&&(y*4+b))/2^2=(x&&&y):=by
  rw[Nat.and_div_two_pow]
  congr 1<;>omega
 have h2:((x*4+a)&&&(y*4+b))%2^2=(a&&&b):=by
  rw[Nat.and_mod_two_pow]
  congr 1<;>omega
 have h3:=Nat.div_add_mod ((x*4+a)&&&(y*4+b)) (2^2);rw[h1,h2]at h3;omega
theorem mk_and (C A B:List α):mq (mk C A) (mk C B)=0↔ ∀c∈C,¬(c∈A/\c∈B):=by
 have key:∀C:List α,((mk C A).toNat&&&(mk C B).toNat)=0↔ ∀c∈C,¬(c∈A/\c∈B):=by
  refine snoc_ind (Iff.intro (λ_ c hc=>by cases hc) λ_=>(by decide:((0:Int).toNat&&&(0:Int).toNat)=0)) λC c ih=> ?_;have r1:=(mk_ran C A).1;have r2:=(mk_ran C B).1;obtain⟨x,ex⟩:=md r1;obtain⟨y,ey⟩:=md r2;have e1:mk (C++[c]) A=((x*4+(if c∈A then 1 else 0):Nat):Int):=by
   unfold mk at ex⊢;rw[V4_snoc,ex];unfold ind
   split<;>simp
  have e2:mk (C++[c]) B=((y*4+(if c∈B then 1 else 0):Nat):Int):=by
   unfold mk at ey⊢;rw[V4_snoc,ey];unfold ind
   split<;>simp
  rw[e1,e2,lq,lq,A40 _ _ _ _ (by split<;>decide) (by split<;>decide)];rw[ex,ey,lq,lq]at ih;have h3:((if c∈A then 1 else 0:Nat)&&&(if c∈B then 1 else 0))=0↔ ¬(c∈A/\c∈B):=by
   by_cases z1:c∈A<;>by_cases z2:c∈B<;>simp[z1,z2]
  constructor
  ·intro h d hd;rcases d8.mp hd with z|z
   ·exact ih.mp (by omega) d z
   ·rw[fy.mp z];exact h3.mp (by omega)
  ·intro h;have h4:=ih.mpr λd hd=>h d (d9 _ hd);have h5:=h3.mpr (h c (fc _ CQ));omega
 rw[←key C];have r1:=(mk_ran C A).1;have r2:=(mk_ran C B).1;have e:mq (mk C A) (mk C B)=(((mk C A).toNat&&&(mk C B).toNat:Nat):Int):=by simp[mq,r1,r2]
 rw[e];omega
theorem mk_app {C A B:List α}(h:∀c∈C,¬(c∈A/\c∈B)):mk C (A++B)=mk C A+mk C B:=by unfold mk;rw[←V4_add];refine V4_congr λc hc=> ?_;have:=h c hc;unfold ind;by_cases z1:c∈A<;>by_cases z2:c∈B<;>simp_all
theorem mk_whole {C A:List α}:mk C A=mk C C↔ ∀c∈C,c∈A:=by
 constructor
 ·intro h c hc;have:=A3r (sN C A) (sN C C) h c hc;unfold ind at this;rw[if_pos hc]at this;by_cases z:c∈A
  ·exact z
  ·rw[if_neg z]at this;cases this
 ·intro h;refine V4_congr λc hc=> ?_;unfold ind;rw[if_pos hc,if_pos (h c hc)]
end
noncomputable abbrev W:=Int×(Int×Int)
noncomputable def lt2 (a b:Int×Int):Bool:=HT.lexLt [a.1,a.2] [b.1,b.2]
theorem lt2_iff:lt2 a b=true↔a.1<b.1\/(a.1=b.1/\a.2<b.2):=by
 unfold lt2;rw[HT.lexLt_cons,HT.lexLt_cons];by_cases e:a.1=b.1
 ·rw[if_pos e];by_cases e2:a.2=b.2
  ·rw[if_pos e2];exact⟨λh=>(by cases h),λh=>by omega⟩
  ·rw[if_neg e2,decide_eq_true_eq];omega
 ·rw[if_neg e,decide_eq_true_eq];omega
noncomputable def mn2 (a b:Int×Int):Int×Int:=if lt2 b a=true then b else a
noncomputable def le2 (a b:Int×Int):Prop:=lt2 b a=false
theorem le2_iff:le2 a b↔ ¬(b.1<a.1\/(b.1=a.1/\b.2<a.2)):=by unfold le2;rw[←lt2_iff];simp
theorem xG (a b:Int×Int):(mn2 a b=a\/mn2 a b=b)/\le2 (mn2 a b) a/\le2 (mn2 a b) b:=by
 unfold mn2;by_cases h:lt2 b a=true
 ·rw[if_pos h];have h':=lt2_iff.mp h;exact⟨.inr rfl,le2_iff.mpr (by omega),le2_iff.mpr (by omega)⟩
 ·rw[if_neg h];have h':=mt lt2_iff.mpr h;exact⟨.inl rfl,le2_iff.mpr (by omega),le2_iff.mpr (by omega)⟩
theorem A0j (h:le2 a b)(k:le2 b c):le2 a c:=by rw[le2_iff]at*;omega
theorem le2_refl (a:Int×Int):le2 a a:=le2_iff.mpr (by omega)
theorem A9t (x y:Int)(h:le2 a b):le2 (a.1+x,a.2+y) (b.1+x,b.2+y):=by rw[le2_iff]at*;simp only;omega
noncomputable def look (M:List (Int×W))(k:Int):Option W:=(M.find? λe=>decide (e.1=k)).map (·.2)
noncomputable def put (M:List (Int×W))(k:Int)(v:W):List (Int×W):=if (M.any λe=>decide (e.1=k))=true then M.map (λe=>if e.1=k then(e.1,v)else e)else M++[(k,v)]
theorem A5h (k:Int):look [] k=none:=rfl
theorem look_cons (e:Int×W)(M:List (Int×W))(k:Int):look (e::M) k=if e.1=k then some e.2 else look M k:=by
 unfold look;by_cases h:e.1=k
 ·rw[b6 (by simpa using h),if_pos h];rfl
 ·rw[bz (by simpa using h),if_neg h]
theorem look_none:look M k=none↔k∉M.map (·.1):=by
 induction M with
 |nil=>exact⟨λ_ h=>(by cases h),λ_=>rfl⟩
 |cons e M ih=>
  rw[look_cons,d6,fe];by_cases z:e.1=k
  ·rw[if_pos z];exact⟨λh=>(by cases h),λh=>absurd (.inl z.symm) h⟩
  ·rw[if_neg z,ih];exact⟨λh y=>y.elim (λy=>z y.symm) h,λh y=>h (.inr y)⟩
theorem mem_look (nd:(M.map (·.1)).Nodup)(h:e∈M):look M e.1=some e.2:=by
 induction M with
 |nil=>cases h
 |cons d M ih=>
  rw[d6,f9]at nd;rw[look_cons];rcases fe.mp h with rfl|h
  ·rw[if_pos rfl]
  ·rw[if_neg (λz=>nd.1 (by rw[z];exact fm.mpr ⟨e,h,rfl⟩))];exact ih nd.2 h
theorem A02 (M:List (Int×W))(k:Int):(M.any λe=>decide (e.1=k))=(look M k).isSome:=by
 induction M with
 |nil=>rfl
 |cons e M ih=>
  rw[af,ih,look_cons];by_cases z:e.1=k<;>simp[z]
theorem zL (M:List (Int×W))(k:Int)(v:W):(put M k v).map (·.1)=if k∈M.map (·.1)then M.map (·.1)else M.map (·.1)++[k]:=by
 unfold put;rw[A02];by_cases h:k∈M.map (·.1)
 ·have hs:(look M k).isSome=true:=by
   cases e:look M k with
   |none=>exact absurd h (look_none.mp e)
   |some _=>rfl
  rw[if_pos hs,if_pos h,d7];refine d5 λe _=> ?_;show(if e.1=k then(e.1,v)else e).1=e.1
  split<;>rfl
 ·rw[look_none.mpr h,if_neg h];simp
theorem wQ (nd:(M.map (·.1)).Nodup):((put M k v).map (·.1)).Nodup:=by
 rw[zL]
 split
 ·exact nd
 ·rename_i h;rw[f7];exact⟨nd,f9.mpr ⟨by simp,gg⟩,λa ha b hb e=>h (by rw[←fy.mp hb,←e];exact ha)⟩
theorem wU (M:List (Int×W))(k j:Int)(v:W):look (put M k v) j=if j=k then some v else look M j:=by
 unfold put;rw[A02];cases e:look M k with
 |some u=>
  rw[if_pos (show(some u).isSome=true from rfl)]
  induction M with
  |nil=>cases e
  |cons d M ih=>
   rw[d6,look_cons];rw[look_cons]at e;by_cases z:d.1=k
   ·rw[if_pos z];by_cases y:j=k
    ·rw[if_pos (by rw[y];exact z),if_pos y]
    ·rw[if_neg (show¬d.1=j from λx=>y (by rw[←x,z])),if_neg y,look_cons,if_neg (show¬d.1=j from λx=>y (by rw[←x,z]))];clear ih e
     induction M with
     |nil=>rfl
     |cons d' M ih=>
      rw[d6,look_cons,look_cons,ih];by_cases x:d'.1=k
      ·rw[if_pos x];rw[if_neg (show¬d'.1=j from λw=>y (by rw[←w,x])),if_neg (show¬d'.1=j from λw=>y (by rw[←w,x]))]
      ·rw[if_neg x]
   ·rw[if_neg z]at e⊢;rw[ih e,look_cons];by_cases y:j=k
    ·rw[if_neg (show¬d.1=j from λx=>z (by rw[x,y])),if_pos y,if_pos y]
    ·rw[if_neg y,if_neg y]
 |none=>
  rw[if_neg (by simp)]
  induction M with
  |nil=>
   rw[f6,look_cons,A5h];by_cases y:j=k
   ·rw[if_pos y,if_pos y.symm]
   ·rw[if_neg y,if_neg (λx=>y x.symm)]
  |cons d M ih=>
   rw[look_cons]at e;have z:¬d.1=k:=λz=>by rw[if_pos z]at e;cases e
   rw[if_neg z]at e;rw[aq,look_cons,ih e,look_cons];by_cases y:j=k
   ·rw[if_neg (show¬d.1=j from λx=>z (by rw[x,y])),if_pos y,if_pos y]
   ·rw[if_neg y,if_neg y]
noncomputable abbrev Tr:=Int×(Int×Int)
structure Rep (M:List (Int×W))(T:List Tr):Prop where
 nd:(M.map (·.1)).Nodup
 no:∀k,look M k=none->∀t∈T,t.1≠k
 yes:∀k m cn,look M k=some (m,cn)->m=(T.filter λt=>decide (t.1=k)).length/\(k,cn)∈T/\∀t∈T,t.1=k->le2 cn t.2
theorem Rep.perm (h:Rep M T)(p:T.Perm U):Rep M U:=
 ⟨h.nd,λk e t ht=>h.no k e t (p.mem_iff.mpr ht),λk m cn e=>let ⟨a,b,c⟩:=h.yes k m cn e;⟨a.trans (by rw[(p.filter _).length_eq]),p.mem_iff.mp b,λt ht=>c t (p.mem_iff.mpr ht)⟩⟩
noncomputable def tr (h:Int)(l:Int×Int)(t:Tr):Tr:=(t.1+l.1,(t.2.1+l.2,t.2.2+h*l.1))
noncomputable def step1 (h:Int)(e:Int×W)(acc:List (Int×W))(l:Int×Int):List (Int×W):=
 if mq e.1 l.1=0 then
  put acc (e.1+l.1) ((((look acc (e.1+l.1)).getD (0,(e.2.2.1+l.2,e.2.2.2+h*l.1))).1+e.2.1),mn2 ((look acc (e.1+l.1)).getD (0,(e.2.2.1+l.2,e.2.2.2+h*l.1))).2 (e.2.2.1+l.2,e.2.2.2+h*l.1))
 else acc
structure Lot (d m:Int)(cn:Int×Int)(G:List Tr):Prop where
 al:∀t∈G,t.1=d
 ln:m=G.length
 mm:(d,cn)∈G
 le:∀t∈G,le2 cn t.2
theorem A3o (r:Rep acc U)(g:Lot e.1 e.2.1 e.2.2 G):Rep (step1 h e acc l) (U++if mq e.1 l.1=0 then G.map (tr h l)else []):=by
 unfold step1;by_cases hb:mq e.1 l.1=0
 ·rw[if_pos hb,if_pos hb];generalize hk:e.1+l.1=k0;generalize hw:(e.2.2.1+l.2,e.2.2.2+h*l.1)=way;have gk:∀t∈G.map (tr h l),t.1=k0:=λt ht=>by
   obtain⟨u,hu,rfl⟩:=fm.mp ht;show u.1+l.1=k0;rw[g.al u hu,hk]
  have gm:(k0,way)∈G.map (tr h l):=by
   refine fm.mpr ⟨_,g.mm,?_⟩;rw[←hk,←hw];rfl
  have gl:∀t∈G.map (tr h l),le2 way t.2:=λt ht=>by
   obtain⟨u,hu,rfl⟩:=fm.mp ht;rw[←hw];exact A9t _ _ (g.le u hu)
  have gf:((G.map (tr h l)).filter λt=>decide (t.1=k0))=G.map (tr h l):=bq.mpr λt ht=>CM (gk t ht);have gn:∀k,k≠k0->((G.map (tr h l)).filter λt=>decide (t.1=k))=[]:=λk hk'=>bp.mpr λt ht=>by rw[decide_eq_true_eq,gk t ht];exact λz=>hk' z.symm
  refine⟨wQ r.nd,λk hn t ht=> ?_,λk m cn hs=> ?_⟩
  ·rw[wU]at hn;by_cases z:k=k0
   ·rw[if_pos z]at hn;cases hn
   ·rw[if_neg z]at hn;rcases d8.mp ht with y|y
    ·exact r.no k hn t y
    ·rw[gk t y];exact λx=>z x.symm
  ·rw[wU]at hs;by_cases z:k=k0
   ·rw[if_pos z]at hs;have hs:=j7 hs;subst z;cases hl:look acc k with
    |none=>
     rw[hl]at hs;simp only[AI]at hs;have e1:=congrArg BJ hs;have e2:=congrArg Prod.snd hs;simp only at e1 e2;have hu:(U.filter λt=>decide (t.1=k))=[]:=bp.mpr λt ht=>by simpa using r.no k hl t ht
     have ew:mn2 way way=way:=(xG way way).1.elim id id;rw[ew]at e2;refine⟨?_,?_,λt ht hk'=> ?_⟩
     ·rw[bg,hu,gf,f6,di,←g.ln];omega
     ·rw[←e2];exact fc _ gm
     ·rcases d8.mp ht with y|y
      ·exact absurd hk' (r.no k hl t y)
      ·rw[←e2];exact gl t y
    |some v=>
     rw[hl]at hs;simp only[Option.getD_some]at hs;have e1:=congrArg BJ hs;have e2:=congrArg Prod.snd hs;simp only at e1 e2;obtain⟨y1,y2,y3⟩:=r.yes k v.1 v.2 hl;obtain⟨m1,m2,m3⟩:=xG v.2 way;rw[e2]at m1 m2 m3;refine⟨?_,?_,λt ht hk'=> ?_⟩
     ·rw[bg,gf,c8,di];have:=g.ln;omega
     ·rcases m1 with m1|m1
      ·rw[m1];exact d9 _ y2
      ·rw[m1];exact fc _ gm
     ·rcases d8.mp ht with y|y
      ·exact A0j m2 (y3 t y hk')
      ·exact A0j m3 (gl t y)
   ·rw[if_neg z]at hs;obtain⟨y1,y2,y3⟩:=r.yes k m cn hs;refine⟨?_,d9 _ y2,λt ht hk'=> ?_⟩
    ·rw[bg,gn k z,ak];exact y1
    ·rcases d8.mp ht with y|y
     ·exact y3 t y hk'
     ·exact absurd ((gk t y).symm.trans hk') (λx=>z x.symm)
 ·rw[if_neg hb,if_neg hb,ak];exact r
theorem A06 (g:Lot e.1 e.2.1 e.2.2 G):∀(lands:List (Int×Int)){acc:List (Int×W)}{U:List Tr},Rep acc U->Rep (lands.foldl (step1 h e) acc) (U++lands.flatMap λl=>if mq e.1 l.1=0 then G.map (tr h l)else [])
 | [],acc,U,r=>by simpa using r
 |l::lands,acc,U,r=>by
  have:=A06 (h:=h) g lands (A3o (h:=h) (l:=l) r g);rw[aj]at this;exact this
noncomputable def more1 (h:Int)(lands:List (Int×Int))(acc:List (Int×W))(e:Int×W):List (Int×W):=lands.foldl (step1 h e) acc
noncomputable def more (h:Int)(M:List (Int×W))(lands:List (Int×Int)):List (Int×W):=M.foldl (more1 h lands) []
theorem A0t (rM:Rep M T):∀(es:List (Int×W)){acc:List (Int×W)}{U:List Tr},(∀e∈es,e∈M)->Rep acc U->Rep (es.foldl (more1 h lands) acc) (U++es.flatMap λe=>lands.flatMap λl=>if mq e.1 l.1=0 then(T.filter λt=>decide (t.1=e.1)).map (tr h l)else [])
 | [],acc,U,_,r=>by simpa using r
 |e::es,acc,U,hm,r=>by
  have he:=hm e CQ;obtain⟨y1,y2,y3⟩:=rM.yes e.1 e.2.1 e.2.2 (mem_look rM.nd he);have g:Lot e.1 e.2.1 e.2.2 (T.filter λt=>decide (t.1=e.1)):=⟨λt ht=>of_decide_eq_true (ff.mp ht).2,y1,ff.mpr ⟨y2,CM rfl⟩,λt ht=>y3 t (ff.mp ht).1 (of_decide_eq_true (ff.mp ht).2)⟩;have:=A0t (h:=h) (lands:=lands) rM es (λd hd=>hm d (CP _ hd)) (A06 (h:=h) g lands r);rw[aj]at this;exact this
theorem flat_swap {α β γ:Type}(f:α->β->List γ):∀(xs:List α)(ys:List β),(xs.flatMap λx=>ys.flatMap λy=>f x y).Perm (ys.flatMap λy=>xs.flatMap λx=>f x y)
 | [],ys=>by
  have:(ys.flatMap λy=>([]:List α).flatMap λx=>f x y)=[]:=by induction ys<;>simp
  rw[this];exact .refl _
 |x::xs,ys=>by
  have ih:=flat_swap f xs ys;have app:∀ys:List β,((ys.flatMap λy=>f x y)++ys.flatMap λy=>xs.flatMap λx=>f x y).Perm (ys.flatMap λy=>(x::xs).flatMap λx=>f x y):=by
   intro ys
   induction ys with
   |nil=>exact .refl _
   |cons y ys ihy=>
    simp only[b8,aj]at ihy⊢;refine l7 _ ?_;refine m7.trans ?_ (l7 _ ihy);rw[←aj,←aj];exact m7.append_right _ gy
  exact(l7 _ ih).trans (app ys)
theorem B0p (p:Int->Bool)(f:Tr->β):∀(ks:List Int){T:List Tr},ks.Nodup->(∀t∈T,t.1∈ks)->(ks.flatMap λk=>if p k=true then(T.filter λt=>decide (t.1=k)).map f else []).Perm ((T.filter λt=>p t.1).map f):=by
 intro ks
 induction ks with
 |nil=>
  intro T _ h;have:T=[]:=List.eq_nil_iff_forall_not_mem.mpr λt ht=>by cases h t ht
  subst this;exact .refl _
 |cons k ks ih0=>
  intro T nd h;rw[f9]at nd;have ih:=ih0 (T:=T.filter λt=> !decide (t.1=k)) nd.2 λt ht=>by
   obtain⟨h1,h2⟩:=ff.mp ht;rcases fe.mp (h t h1)with z|z
   ·rw[z]at h2;simp at h2
   ·exact z
  have e1:(ks.flatMap λk'=>if p k'=true then(T.filter λt=>decide (t.1=k')).map f else [])=ks.flatMap λk'=>if p k'=true then((T.filter λt=> !decide (t.1=k)).filter λt=>decide (t.1=k')).map f else []:=by
   have cg:∀(F G:Int->List β)(l:List Int),(∀x∈l,F x=G x)->l.flatMap F=l.flatMap G:=by
    intro F G l
    induction l with
    |nil=>intro _;rfl
    |cons x l ihl=>intro hx;rw[b8,b8,hx x CQ,ihl λy hy=>hx y (CP _ hy)]
   refine cg _ _ ks λk' hk'=> ?_;have:(T.filter λt=>decide (t.1=k'))=(T.filter λt=> !decide (t.1=k)).filter λt=>decide (t.1=k'):=by
    rw[br];refine bh λt _=> ?_;by_cases z:t.1=k'
    ·have:¬k'=k:=λy=>nd.1 (y▸hk');simp[z,this]
    ·simp[z]
   rw[this]
  have e2:(if p k=true then(T.filter λt=>decide (t.1=k)).map f else [])=((T.filter λt=>decide (t.1=k)).filter λt=>p t.1).map f:=by
   by_cases z:p k=true
   ·rw[if_pos z]
    congr 1
    symm
    exact bq.mpr λt ht=>by rw[of_decide_eq_true (ff.mp ht).2];exact z
   ·rw[if_neg z]
    symm
    rw[List.map_eq_nil_iff];exact bp.mpr λt ht=>by rw[of_decide_eq_true (ff.mp ht).2];exact z
  rw[b8,e1,e2];refine(l7 _ ih).trans ?_;rw[←dz,←bg];exact((A3 _ T).filter _).map _
theorem rep_more (r:Rep M T):Rep (more h M lands) (lands.flatMap λl=>(T.filter λt=>decide (mq t.1 l.1=0)).map (tr h l)):=by
 have r0:Rep [] []:=⟨gg,λ_ _ t ht=>(by cases ht),λk m cn e=>(by cases e)⟩;have r1:=A0t (h:=h) (lands:=lands) r M (λ_ he=>he) r0;rw[f6]at r1;refine Rep.perm (M:=M.foldl (more1 h lands) []) r1 ((flat_swap _ M lands).trans ?_);have pc:∀(F G:Int×Int->List Tr)(l:List (Int×Int)),(∀x∈l,(F x).Perm (G x))->(l.flatMap F).Perm (l.flatMap G):=by
  intro F G l
  induction l with
  |nil=>intro _;exact .refl _
  |cons x l ihl=>intro hx;exact m7.append (hx x CQ) (ihl λy hy=>hx y (CP _ hy))
 refine pc _ _ lands λl _=> ?_;have key:=B0p (λk=>decide (mq k l.1=0)) (tr h l) (M.map (·.1)) (T:=T) r.nd λt ht=>by
  by_cases z:t.1∈M.map (·.1)
  ·exact z
  ·exact absurd rfl (r.no t.1 (look_none.mpr z) t ht)
 rw[List.flatMap_map]at key;simpa using key
theorem step1_keys (nd:(acc.map (·.1)).Nodup)(hk:∀k∈acc.map (·.1),0<=k/\k<2*B)(he:0<=e.1/\e.1<B)(hl:0<=l.1/\l.1<B):((step1 h e acc l).map (·.1)).Nodup/\∀k∈(step1 h e acc l).map (·.1),0<=k/\k<2*B:=by
 unfold step1
 split
 ·refine⟨wQ nd,λk hk'=> ?_⟩;rw[zL]at hk'
  split at hk'
  ·exact hk k hk'
  ·rcases d8.mp hk' with z|z
   ·exact hk k z
   ·rw[fy.mp z];omega
 ·exact⟨nd,hk⟩
end Wy
namespace L2
open PySem PySem.Spec PyProof.Rows
theorem uH (r:Vals xs us)(f:Nat->Nat):∀ks:List Nat,Vals (ks.filterMap λk=>xs[f k]?) (ks.filterMap λk=>us[f k]?)
 | []=> .nil
 |k::ks=>by
  rw[bb,bb];cases e:xs[f k]? with
  |none=>rw[r.none_of e];exact uH r f ks
  |some x=>
   obtain⟨u,hu,ru⟩:=r.get e;rw[hu];exact .cons ru (uH r f ks)
noncomputable def jZ (xs:List V):List V:=(Ce ((xs.length:Int) - 1) (-1) (-1)).filterMap λk=>xs[k]?
theorem A92 (xs:List V):(jZ xs).length<=xs.length:=by
 unfold jZ;refine jd (xc _ _) ?_;unfold Ce;rw[di,dm,if_neg (by decide)]
 split
 ·have:-(-1:Int)=1:=by decide
  rw[this,Int.ediv_one];omega
 ·simp
section
variable {X:Cx}{e st:om}{te ts:TE}{pos p2:Pos}
theorem A4l (he:PE X e te)(hst:PE X st ts):PE X (.Subscript e (.Slice none none (some st) p2) pos) (λσ H Q=>te σ H λx H1=>ts σ H1 λy H2=>y= .int (-1)/\∃a xs,x= .ref a/\H2 a=some (.lst xs)/\∀p,H2 p=none->Q (.ref p) (upd H2 p (.lst (jZ xs)))):=by
 intro kb s σ H Q I h;refine B9 (thn (he kb s σ H _ I h) λv s1 ⟨x,H1,I1,r1,q1⟩=> ?_);refine wpAny_Slice ?_;rw[BZ];refine CJ ?_;refine CJ ?_;rw[evalPart_some];refine thn (hst kb s1 σ H1 _ I1 q1) λvs s3 ⟨y,H3,I3,ry,q3⟩=> ?_;obtain⟨rfl,a,xs,rfl,ha,q⟩:=q3;obtain⟨t,rfl⟩:=ry;cases (show v=jx a from r1);have I4:Inv X kb σ H3 {s3 with heap:=s3.heap.push {cls:=.type "slice",data:=.fields #[.none,.none,.int (-1) t]}}:=I3.kept (t':=s3.toks) λb ob q=>CK _ q;obtain⟨lu,r,ht,hz⟩:=I4.list (CW.of (K:=X.K) ha);have ue:lu.length=xs.length:=r.length.symm;show jy (kg X.prog X.w) X.A (Au e (.Slice none none (some st) p2) (.ref a) (.ref s3.heap.objs.size)) (EP X kb σ Q) X.xe {s3 with heap:=s3.heap.push {cls:=.type "slice",data:=.fields #[.none,.none,.int (-1) t]}};refine tail_any (ops:=[.ref a,.ref s3.heap.objs.size]) ht.isList.typeIs Al.lookup ?_ (by with_unfolding_all rfl);refine Av (vs:=.int (-1) t) (lo:=none) (hi:=none) (st:=some (-1)) ht.isList (kj.IsSliceOf.new ..) .none .none (.int _ t) (by decide) ?_ (by rw[ic,ue];exact hz);have e:Cs lu.toArray none none (some (-1))=((Ce ((xs.length:Int) - 1) (-1) (-1)).filterMap λk=>lu[k]?).toArray:=by
  unfold Cs;show((Ce ((lu.toArray.size:Int) - 1) (-1) (-1)).filterMap (lu.toArray[·]?)).toArray=_;rw[ic,ue];simp only[List.getElem?_toArray]
 rw[e];refine⟨.ref _,_,I4.laid (t':=s3.toks) (o:=.lst (jZ xs)) (λb ob q=>CK _ q) (CT _) ⟨jd (A92 xs) hz,_,0,?_,iy _ rfl⟩,rfl,q _ (I4.hok.fresh (CT _))⟩;exact uH r (λk=>k) _
end
theorem B0h (xs:List V):jZ xs=xs.reverse:=by
 unfold jZ;rw[W.krv_sliceRange,List.filterMap_map];have key:∀n,n<=xs.length->(kz n).filterMap ((λk=>xs[k]?)∘λk=>xs.length - 1 - k)=xs.reverse.take n:=by
  intro n
  induction n with
  |zero=>intro _;rfl
  |succ n ih=>
   intro h;have e:xs.reverse[n]?=xs[xs.length - 1 - n]?:=List.getElem?_reverse (by omega);rw[gz,Bw,ih (by omega),iu,e]
   congr 1
 rw[key _ (CT _),iq (by rw[List.length_reverse];exact CT _)]
end L2
namespace PySem
theorem A4x (hit:s.heap.IsKeyIter it d i n ep)(h:Q (.ref it) s):jy (kg prog w) A (A7 (.ref it)) Q E s:=by have hT:s.TypeIs (.ref it) "dict_keyiterator":=hit.typeIs;refine vm hT yw (ly yw hT F.entry_dict_keyiterator_iter ?_ (F.args_dict_keyiterator_iter_1 _));show jy _ _ (ret (.ref it)) _ _ s;exact CJ ⟨_,rfl,"dict_keyiterator",_,hT,F.slot_dict_keyiterator_next.lookup,h⟩
end PySem
namespace L2
open PySem PySem.Spec PyProof.Rows
noncomputable def Itd (d:ju)(o:Obj)(kvs:List (Key×V)):It:=
 ⟨λi H=>H d=some (.frz o (.dK kvs))/\i<kvs.length,λi H v H'=>H'=H/\∃k x,kvs[i]?=some (k,x)/\v=kV k,λi H=>H d=some (.frz o (.dK kvs))/\i=kvs.length⟩
theorem A5d {κ:Type}{l:List (κ×V)}{m:List (κ×jt)}(r:KV l m):∀{j:Nat}{k:κ}{x:V},l[j]?=some (k,x)->∃u,m[j]?=some (k,u):=by
 induction r with
 |nil=>intro j k x h;simp at h
 |cons r t ih=>
  intro j k x h;cases j with
  |zero=>
   simp only[xp,pq]at h⊢;subst h;exact⟨_,AH r.1.symm rfl⟩
  |succ j=>simp only[xq]at h⊢;exact ih h
theorem A6y (h:(cH P w).is k u=true):RelV (kV k) u:=by
 rcases keyIs_shape h with⟨i,t,rfl,rfl⟩| ⟨x,t,rfl,rfl⟩
 ·exact⟨t,rfl⟩
 ·exact⟨t,rfl⟩
theorem xV (hd:o.data= .dict ens ep)(x:ObjOk P w H h d (.frz o (.dK kvs))):∃vs,KV kvs vs/\h.DictAt (cH P w) d vs ep:=by obtain⟨ho,_,_,vs,r,o',es',ep',ho',hx',hd',rest⟩:=x;rw[ho]at ho';cases ho';rw[hd]at hd';cases hd';exact⟨vs,r,o,ens,ho,hx',hd,rest⟩
theorem B5s {P:j9}{w:kl}{K:W.Frag}{tg:om}(it d:ju)(o:Obj)(kvs:List (Key×V))(ens:Array wc)(ep:Nat)(hd:o.data= .dict ens ep):
  fX P w K tg (Itd d o kvs) [it] it (λi h=>h.IsKeyIter it d i kvs.length ep)where
 mem:=by simp
 obj:=λi h st b hb=>by
  have e:b=it:=by simpa using hb
  subst e;obtain⟨o,e,c,d⟩:=st;exact⟨o,e,λv z=>by rw[d]at z;cases z⟩
 keep:=λi h h' st k=>by
  obtain⟨o,e,c⟩:=st;exact⟨o,k it (by simp) o e,c⟩
 item:=by
  intro X hP hw hK hc i kb s σ H E I hf st hg;subst hP hw hK;obtain⟨g1,g2⟩:=hg;obtain⟨vs,r,hm⟩:=xV hd (show ObjOk X.prog X.w H s.heap d (.frz o (.dK kvs))from I.hok _ _ g1);have hl:kvs.length=vs.length:=Paired.length r;obtain⟨f0,f1,f2,f3,f4,f5⟩:=hf it (by simp);obtain⟨u,hu⟩:=A5d r (cx g2:kvs[i]?=some (kvs[i].1,kvs[i].2));have st0:s.heap.IsKeyIter it d i vs.length ep:=by rw[←hl];exact st
  refine wpAny_pyNext_dict_item st0 hm hu λkey h' hk st2 sb=> ?_;have I1:Inv X kb σ H {s with heap:=h'}:=I.turned (t':=s.toks) (λb o hb e=>(sb.2 b hb).trans e) f0 f1 f3 f4 f5;have st3:h'.IsKeyIter it d (i+1) kvs.length ep:=by rw[hl];exact st2
  obtain⟨o',e,c,d'⟩:=id st2;exact⟨key,rfl,mU (s:={s with heap:=h'}) e c d' (by decide) ⟨kV kvs[i].1,H,I1,A6y hk,⟨rfl,_,_,cx g2,rfl⟩,st3,λb hb=>(hf b hb).1⟩⟩
 done:=by
  intro X hP hw hK hc i kb s σ H E I hf st hg;subst hP hw hK;obtain⟨g1,g2⟩:=hg;obtain⟨vs,r,hm⟩:=xV hd (show ObjOk X.prog X.w H s.heap d (.frz o (.dK kvs))from I.hok _ _ g1);have hl:kvs.length=vs.length:=Paired.length r;obtain⟨f0,f1,f2,f3,f4,f5⟩:=hf it (by simp);have st0:s.heap.IsKeyIter it d i vs.length ep:=by rw[←hl];exact st
  exact wpAny_pyNext_dict_end (I.ok.hd hc) st0 hm (yc (by omega)) λh' eb=> ⟨rfl,I.turned (t':=s.toks) (λb o hb e=>eb b o hb e) f0 f1 f3 f4 f5⟩
 self:=λ_ _ _ _ _ st h=>A4x st h
noncomputable def B16 (td:TE):TI:=λσ H R=>td σ H λx H1=> ∃d kvs,x= .ref d/\H1 d=some (.dK kvs)/\∀o,R (Itd d o kvs) (upd H1 d (.frz o (.dK kvs)))
theorem A3c {a:om}{td:TE}(ha:PE X a td):PI X tg a (B16 td):=by intro kb s σ H R I h;refine thn (ha kb s σ H _ I h) λv s1 ⟨x,H1,I1,r1,d,kvs,e,q1,q⟩=> ?_;subst e;cases r1;obtain⟨_,hs,vs,rp,o,ens,ep,ho,hx,hd,rest⟩:=(show ObjOk X.prog X.w H1 s1.heap d (.dK kvs)from I1.hok _ _ q1);have hl:kvs.length=vs.length:=Paired.length rp;refine wpAny_pyIter_dict (knd:=cH X.prog X.w) hs ⟨o,ens,ho,hx,hd,rest⟩ ?_;have I2:=(I1.freeze (by rw[q1];trivial) q1 ho).kept (h':=s1.heap.push {cls:=.type "dict_keyiterator",data:=.fields #[.ref d,.int 0 0,.int vs.length 0,.int ep 0]}) (t':=s1.toks) λb ob e=>CK _ e;refine⟨_,[_],_,_,_,rfl,I2,B5s _ d o kvs ens ep hd,⟨_,iy _ rfl,rfl,by rw[hl];rfl⟩,λc hc=> ?_,q o⟩;rw[fy.mp hc];exact I1.fpOk (CT _) (by rw[aN (jn (CO ho))];exact I1.hok.fresh (CT _))
theorem A2g (Pv:Nat->St->Hp->Prop)(h0:Pv 0 σ H)(hl:∀i σ H,Pv i σ H->H d=some (.frz o (.dK kvs)))
  (hs:∀i k x σ H,kvs[i]?=some (k,x)->Pv i σ H->g (kV k) σ H λσ2 H2=>tb {D with nx:=Pv (i+1),ct:=Pv (i+1),bk:=D.nx} σ2 H2)(hd:∀σ H,Pv kvs.length σ H->D.nx σ H):
  cP (Itd d o kvs) g tb D σ H:=by
 refine⟨λi m σ H=>m=kvs.length - i/\i<=kvs.length/\Pv i σ H,⟨kvs.length,by simp,js _,h0⟩,?_⟩;rintro i m σ H ⟨rfl,hi,p⟩;by_cases CA:i<kvs.length
 ·refine .inr ⟨⟨hl i σ H p,CA⟩,Pv (i+1),λσ' H' p'=> ⟨kvs.length -(i+1),by omega,rfl,CA,p'⟩,λv H' y=> ?_⟩;obtain⟨rfl,k,x,e4,rfl⟩:=y;exact hs i k x σ _ e4 p
 ·have e:i=kvs.length:=by omega
  subst e;exact .inl ⟨⟨hl _ σ H p,rfl⟩,hd σ H p⟩
end L2
namespace L2
open PySem
theorem vS [DecidableEq κ]:∀{l:List (κ×V)}{i:Nat}{k:κ}{x:V},(l.map (·.1)).Nodup->l[i]?=some (k,x)->bW l k=some x
 | [],_,_,_,_,h=>by simp at h
 | (k0,x0)::l,0,k,x,_,h=>by
  simp only[xp,pq,yj]at h;obtain⟨rfl,rfl⟩:=h;simp[bW]
 | (k0,x0)::l,i+1,k,x,hn,h=>by
  rw[d6,f9]at hn;rw[xq]at h;have ne:k0≠k:=λe=>hn.1 (by rw[e];exact fm.mpr ⟨(k,x),fq h,rfl⟩);have:=vS hn.2 h;unfold bW at this⊢;rw[bz (by simp[ne])];exact this
open PySem.Spec PyProof.Rows
noncomputable def rO:TE:=λ_ H Q=> ∀dw a b H',H dw=none->(∀c o,H c=some o->H' c=some o)->H' dw=some (.dK [(kr 0,.ref a)])->H' a=some (.tup [.int 1,.ref b])->H' b=some (.tup [.int 0,.int 0])->Q (.ref dw) H'
noncomputable def lC:TE:=jW (bX (tC (.int 1)) (bX (jW (bX (tC (.int 0)) (bX (tC (.int 0)) iJ))) iJ))
theorem A85:PEq X (.Tuple [.Constant (.int 1) k1 p1,.Tuple [.Constant (.int 0) j1 p2,.Constant (.int 0) j2 p3] k2 p4] k3 p5) lC:=tupq (bL (lZ (tupq (bL (bL cT))) cT))
theorem A80 (hv:PEq X v tv):PEq X (.Dict [some (.Constant (.int 0) j1 p1)] [v] pd) (kZ [(tC (.int 0),tv)]):=by unfold PEq at*;exact B50 (B3b aU hv A6b) rfl rfl (by simp) (by simp)
theorem A7o (hq:PEq X e (kZ [(tC (.int 0),lC)])):PE X e rO:=by
 have hd:PE X e (kZ [(tC (.int 0),lC)]):=by unfold PEq at hq;exact hq
 intro kb s σ H Q I h;refine hd kb s σ H Q I ?_;clear hd;intro dw hdw;refine⟨by show 2<=jv;decide,λb hb=> ?_⟩;refine⟨by show 2<=jv;decide,λa ha=> ?_⟩;have e1:(upd (upd (upd H dw (.dK [])) b (.tup [.int 0,.int 0])) a (.tup [.int 1,.ref b])) dw=some (.dK []):=by
  have nb:dw≠b:=λz=>by rw[←z,aG]at hb;cases hb
  have na:dw≠a:=λz=>by rw[←z,aN nb,aG]at ha;cases ha
  rw[aN na,aN nb,aG]
 have nd:∀c o,c≠dw->(upd (upd (upd H dw (.dK [])) b (.tup [.int 0,.int 0])) a (.tup [.int 1,.ref b])) c=some o->(upd (upd (upd (upd H dw (.dK [])) b (.tup [.int 0,.int 0])) a (.tup [.int 1,.ref b])) dw (.dK (kW [] [(kr 0,.ref a)]))) c=some o:=λc o n e=>by rw[aN n];exact e
 have ndb:b≠dw:=λz=>by rw[z,aG]at hb;cases hb
 have nab:b≠a:=λz=>by rw[←z,aG]at ha;cases ha
 have nda:a≠dw:=λz=>by
  rw[z,aN (Ne.symm ndb),aG]at ha;cases ha
 refine⟨e1,[(kr 0,.ref a)],rfl,(by show 1<=15;decide),h dw a b _ hdw (λc o e=> ?_) aG (nd _ _ nda aG) (nd _ _ ndb ?_)⟩
 ·have n1:c≠dw:=λz=>by rw[z,hdw]at e;cases e
  have f1:(upd H dw (.dK [])) c=some o:=by rw[aN n1];exact e
  have n2:c≠b:=λz=>by rw[z,hb]at f1;cases f1
  have f2:(upd (upd H dw (.dK [])) b (.tup [.int 0,.int 0])) c=some o:=by rw[aN n2];exact f1
  have n3:c≠a:=λz=>by rw[z,ha]at f2;cases f2
  exact nd c o n1 (by rw[aN n3];exact f2)
 ·rw[aN nab];exact aG
theorem B5c:PEq X (.Dict [some (.Constant (.int 0) j0 p0)] [.Tuple [.Constant (.int 1) k1 p1,.Tuple [.Constant (.int 0) j1 p2,.Constant (.int 0) j2 p3] k2 p4] k3 p5] pd) (kZ [(tC (.int 0),lC)]):=A80 A85
theorem A5z (hN:X.N.Nodup)(hi:X.N[i]?=some x)(hx:Loc X.env.scope x)(h:PEq X e (kZ [(tC (.int 0),lC)]))(hs:BR e (some (.Name x pos')) pos.line X.env=pure false:=by rfl)(hf:X.fn x=true\/X.env.scope.names.lookup x=some .local:=by first|exact .inl rfl|exact .inr rfl|assumption):
  PSq X (.Assign [.Name x pos'] e pos) (gY rO (cN i)):=by
 unfold PSq;exact bJ hN hi hx (A7o h) hs hf
end L2
namespace PySem
structure rS {K:Type} [DecidableEq K](knd:KeyKind prog w K)(h:kj)(ps:List ju)(xs:List (List K×ju×jt)):Prop where
 l:ps.length=xs.length
 p:∀(j:Nat) p x,ps[j]?=some p->xs[j]?=some x->(∃o n,h.get? p=some o/\o.cls= .type "tuple"/\o.data= .seq #[.ref x.2.1,x.2.2] n)/\IsTupleKey knd h x.1 x.2.1
section
variable {prog:j9}{w:kl}{K:Type} [DecidableEq K]{knd:KeyKind prog w K}{A:mh}{R:Result->jw->Prop}{I l d:ju}{ps:List ju}{xs:List (List K×ju×jt)}
theorem A4u (hh:A.handled=none)(hu:A.units+1<nj)(hlI:l≠I)(hdI:d≠I)(hdl:d≠l)(hz:xs.length<=jv)(hnd:(xs.map (·.1)).Nodup)(res:jt):∀(k i:Nat)(s:jw),ps.length=i+k->s.heap.IsListIter I l i->s.heap.IsList l (ps.map jx).toArray->s.heap.DictOfH (qd knd) d (xs.take i)->rS knd s.heap ps xs->(∀p∈ps,p≠I/\p≠d)->(∀x∈xs,x.2.1≠I/\x.2.1≠d)->
  (∀h' tk,h'.DictOfH (qd knd) d xs->(∀b o,b≠I->b≠d->s.heap.get? b=some o->h'.get? b=some o)->R (.ok (.ret res)) {s with heap:=h',toks:=tk})->
  tq (kg prog w) A (.builtin "dict.update.loop" ⟨[.ref d,.ref I,vh i,res],[]⟩) R s:=by
 intro k
 induction k with
 |zero=>
  intro i s hk it ls dd pr np nx hR;refine nu F.entry_dict_update_loop ?_;rw[mv F.plain_dict_update_loop _];refine CI (m:=ub (.ref I)) (Bu (A:=A.in1) hh it ls (by simp;omega) λh' he=> ?_);have e:xs.take i=xs:=iq (by have:=pr.l;omega);rw[e]at dd;refine CI (m:=j6.Dict.addKeywords d []) (CJ (CJ (hR h' s.toks ?_ λb o n1 _ e=>he b o n1 e)));obtain⟨o,es,ep,g1,g2,g3,g4,g5,g6⟩:=dd;refine⟨o,es,ep,he _ _ hdI g1,g2,g3,g4,λx hx=> ?_,g6⟩;obtain⟨oq,lu,n,q1,q2,q3,q4⟩:=g5 x hx;exact⟨oq,lu,n,he _ _ (nx x hx).1 q1,q2,q3,q4⟩
 |succ k ih=>
  intro i s hk it ls dd pr np nx hR;have hi:i<ps.length:=by omega
  have hix:i<xs.length:=by have:=pr.l;omega
  have ep:ps[i]?=some ps[i]:=cx hi;have ex:xs[i]?=some xs[i]:=cx hix;generalize ps[i]=p at ep;generalize xs[i]=x at ex;obtain⟨⟨op,n,o1,o2,o3⟩,tk1⟩:=pr.p i p x ep ex;have hp:=np p (fq ep);have hx:=nx x (fq ex);refine nu F.entry_dict_update_loop ?_;rw[mv F.plain_dict_update_loop _];refine CI (m:=ub (.ref I)) (A8 (A:=A.in1) it ls (x:=.ref p) (by simp[ep]) λh1 it1 s1=> ?_);have k1:∀b o,b≠I->s.heap.get? b=some o->h1.get? b=some o:=λb o n e=>s1.extBut b o n e;have hT:w9 {s with heap:=h1} (.ref p) "tuple":=⟨op,k1 _ _ hp.1 o1,o2⟩;refine CI (l8 (CI (m:=(Bi (.ref p)).tryCatch _) (x8 ?_)));unfold Bi;refine CI (we hT ?_);rw[if_pos (by decide)];refine CI (n9 (k1 _ _ hp.1 o1) o3 (CJ ?_));refine l8 ?_;have dd1:h1.DictOfH (qd knd) d (xs.take i):=by
   obtain⟨o,es,ep,g1,g2,g3,g4,g5,g6⟩:=dd;refine⟨o,es,ep,k1 _ _ hdI g1,g2,g3,g4,λy hy=> ?_,g6⟩;obtain⟨oq,lu,n,q1,q2,q3,q4⟩:=g5 y hy;exact⟨oq,lu,n,k1 _ _ (nx y (fu hy)).1 q1,q2,q3,q4⟩
  have tk2:IsTupleKey knd h1 x.1 x.2.1:=by
   obtain⟨oq,lu,n,q1,q2,q3,q4⟩:=tk1;exact⟨oq,lu,n,k1 _ _ hx.1 q1,q2,q3,q4⟩
  refine wpAny_dictSet_heap (s:={s with heap:=h1}) (knd:=qd knd) hu tk2 dd1 (λh2 dd2 s2=> ?_) (by rw[du];omega);have k2:∀b o,b≠d->h1.get? b=some o->h2.get? b=some o:=λb o n e=>s2.extBut b o n e;have hno:Bk (xs.take i) x.1=none:=by
   unfold Bk;rw[b7.mpr λy hy=> ?_];rfl;obtain⟨j,hj⟩:=fk.mp hy;have jl:j<i:=by have:=(CL.mp hj).1;rw[du]at this;omega
   rw[uc jl]at hj;have e1:(xs.map (·.1))[j]?=some y.1:=by rw[cy,hj];rfl
   have e2:(xs.map (·.1))[i]?=some x.1:=by rw[cy,ex];rfl
   simp only[decide_eq_true_eq];intro z;have:=(List.getElem?_inj (by rw[di];omega) hnd).mp (e1.trans (by rw[z,e2]));omega
  rw[storedH_new hno]at dd2;have et:xs.take i++[(x.1,x.2.1,x.2.2)]=xs.take (i+1):=by rw[iu,ex];rfl
  rw[et]at dd2;refine CJ ⟨oz F.plain_dict_update_loop _,?_⟩;have key:=ih (i+1) {s with heap:=h2,toks:=s.toks+(qd knd).draws x.1} (by omega) (it1.at λo e=>k2 _ _ (Ne.symm hdI) e) ((ls.at λo e=>k1 _ _ hlI e).at λo e=>k2 _ _ (Ne.symm hdl) e) dd2 ⟨pr.l,λj q y e1 e2=> ?_⟩ np nx λh' tk dd' k'=>hR h' tk dd' λb o n1 n2 e=>k' b o n1 n2 (k2 b o n2 (k1 b o n1 e))
  ·have ei:vh ((i+1:Nat):Int)=vh ((i:Int)+1):=by rw[show((i+1:Nat):Int)=(i:Int)+1 by omega]
   rw[ei]at key;exact key
  ·obtain⟨⟨oq,n',q1,q2,q3⟩,oq',lu,n'',r1,r2,r3,r4⟩:=pr.p j q y e1 e2;have hq:=np q (fq e1);have hy:=nx y (fq e2);exact⟨⟨oq,n',k2 _ _ hq.2 (k1 _ _ hq.1 q1),q2,q3⟩,oq',lu,n'',k2 _ _ hy.2 (k1 _ _ hy.1 r1),r2,r3,r4⟩
end
noncomputable def vB (u v:jt):Obj:={cls:=.type "tuple",data:=.seq #[u,v]}
noncomputable def iX (acc:Array jt)(c:Nat):Obj:={cls:=.type "list",dict:=none,data:=.seq acc c,slots:=#[]}
structure RG (es:Array wc)(lo:ju)(h:kj)(as:List ju):Prop where
 rise:as.Pairwise (· < ·)
 above:∀a∈as,lo<a
 at':∀(j:Nat)(a:ju),as[j]?=some a->∃e,es[j]?=some e/\h.get? a=some (vB e.key e.val)
theorem RG.there (g:RG es lo h as)(ha:a∈as):a<h.objs.size:=by obtain⟨j,hj⟩:=fk.mp ha;obtain⟨_,_,e⟩:=g.at' j a hj;exact CO e
theorem B3c (hst:W.KdxSt s.heap it d S i es.size ep)(hS:S<s.heap.objs.size)(ho:s.heap.get? d=some o)(hd:o.data= .dict es ep)(hi:i<es.size)
  (hQ:∀h',W.KdxSt h' it d S (i+1) es.size ep->h'.get? s.heap.objs.size=some (vB es[i].key es[i].val)->h'.objs.size=s.heap.objs.size+1->(∀b o,b≠it->s.heap.get? b=some o->h'.get? b=some o)->Q (some (.ref s.heap.objs.size)) {s with heap:=h'}):jy (kg prog w) A (ub (.ref it)) Q E s:=by
 rcases hst with⟨rfl,ok,ov,hit⟩| ⟨ok,ov,a,f,oa,hit,ha,hai,haS⟩
 ·exact qN hit ho hd hi (.inl ⟨rfl,rfl,λh' k1 k2 k3 k4=>hQ h' (.inr ⟨_,_,_,false,_,k1,k2,jn (CO hit),jn hS⟩) k2 k3 k4⟩)
 ·exact qN hit ho hd hi (.inr ⟨a,f,oa,rfl,rfl,ha,hai,λh' k1 k2 k3 k4=>hQ h' (.inr ⟨ok,ov,a,true,oa,k1,k4 a oa hai ha,hai,haS⟩) k2 k3 k4⟩)
theorem A53 (hh:A.handled=none)(hst:W.KdxSt s.heap it d S i es.size ep)(ho:s.heap.get? d=some o)(hd:o.data= .dict es ep)(hi:es.size<=i)(hQ:∀h',BI it s.heap h'->Q none {s with heap:=h'}):jy (kg prog w) A (ub (.ref it)) Q E s:=by
 rcases hst with⟨rfl,ok,ov,hit⟩| ⟨ok,ov,a,f,oa,hit,_,_,_⟩
 ·exact qL hh hit ho hd hi hQ
 ·exact qL hh hit ho hd hi hQ
section
variable {prog:j9}{w:kl}{A:mh}{s:jw}{R:Result->jw->Prop}{S I d:ju}{ep:Nat}{o:Obj}{es:Array wc}
theorem A6k (hh:A.handled=none)(hSI:S<I)(hSd:d≠S)(hId:d≠I)(hn:es.size<=jv)(hd:o.data= .dict es ep)(res:jt){h0:kj}
  (hR:∀h' tk acc c as,(∀b o,b≠S->b≠I->h0.get? b=some o->h'.get? b=some o)->h'.get? S=some (iX acc c)->as.length=es.size->RG es I h' as->acc.toList=as.map jx->R (.ok (.ret res)) {s with heap:=h',toks:=tk}):
  ∀(k i:Nat)(h:kj)(tk c:Nat)(acc:Array jt)(as:List ju),es.size=i+k->W.KdxSt h I d S i es.size ep->h.get? d=some o->(∀b o,b≠S->b≠I->h0.get? b=some o->h.get? b=some o)->h.get? S=some (iX acc c)->acc.toList=as.map jx->as.length=i->RG es I h as->I<h.objs.size->
   tq (kg prog w) A (.builtin "list.extend.loop" ⟨[.ref S,.ref I,res],[]⟩) R {s with heap:=h,toks:=tk}:=by
 have hne:S≠I:=jo hSI;intro k
 induction k with
 |zero=>
  intro i h tk c acc as hk st ho kp eS ea la G lI;refine nu F.entry_extend_loop ?_;rw[mv ui _];refine CI (m:=ub (.ref I)) (A53 (s:={s with heap:=h,toks:=tk}) (A:=A.in1) hh st ho hd (by omega) λh' he=>CJ (hR h' tk acc c as (λb o n1 n2 e=>he b o n2 (kp b o n1 n2 e)) (he S _ hne eS) (by omega) ⟨G.rise,G.above,λj a hj=> ?_⟩ ea));obtain⟨e,e1,e2⟩:=G.at' j a hj;exact⟨e,e1,he a _ (jn (G.above a (fq hj))) e2⟩
 |succ k ih=>
  intro i h tk c acc as hk st ho kp eS ea la G lI;have hi:i<es.size:=by omega
  have sz:acc.size=i:=by rw[←k5,ea,di,la]
  refine nu F.entry_extend_loop ?_;rw[mv ui _];refine CI (m:=ub (.ref I)) (B3c (s:={s with heap:=h,toks:=tk}) (S:=S) st (CO eS) ho hd hi λh' yf ht hz hk'=> ?_);dsimp only at ht hz hk'⊢;have eS':=hk' S _ hne eS;have up:∀b o,b≠S->h'.get? b=some o->(h'.update S (m8 (·.push (jx h.objs.size)))).get? b=some o:=λb o hb e=>by rw[i0 _ _ (Ne.symm hb)];exact e
  have lS:S<h.objs.size:=CO eS;have nT:h.objs.size≠S:=jn lS;refine CI (m:=yg S (·.push (jx h.objs.size))) (qc eS' rfl (CJ ⟨oz ui _,ih (i+1) _ tk _ (acc.push (jx h.objs.size)) (as++[h.objs.size]) (by omega) (yf.keep up (Ne.symm hne)) (up d o hSd (hk' d o hId ho)) (λb o n1 n2 e=>up b o n1 (hk' b o n2 (kp b o n1 n2 e))) (i5 _ eS' rfl) (by rw[qa,ea,dz];rfl) (by rw[c8,la];rfl) ⟨?_,?_,?_⟩ ?_⟩) (by rw[sz];omega) (by show(acc.push (jx h.objs.size)).size<=jv+1;rw[Array.size_push,sz];omega))
  ·exact gq.mpr ⟨G.rise,gw _ _,λa ha b hb=>by rw[fy.mp hb];exact G.there ha⟩
  ·intro a ha;rcases d8.mp ha with ha|ha
   ·exact G.above a ha
   ·rw[fy.mp ha];exact lI
  ·intro j b hj;by_cases jl:j<as.length
   ·rw[cp jl]at hj;obtain⟨e,e1,e2⟩:=G.at' j b hj;have hb:=G.above b (fq hj);exact⟨e,e1,up b _ (jn (jk hSI hb)) (hk' b _ (jn hb) e2)⟩
   ·have jl':j=as.length:=by
     have:=(CL.mp hj).1;rw[c8,dq]at this;omega
    subst jl';have hb:h.objs.size=b:=by simpa using hj
    subst hb;exact⟨es[i],by rw[la];exact ph hi,up _ _ nT ht⟩
  ·exact jk lI (CO (up _ _ nT ht))
end
section
variable {prog:j9}{w:kl}{A:mh}{E:jt->jw->Prop}{s:jw}{r d:ju}{ep:Nat}{o:Obj}{es:Array wc}
theorem B34 {R:Result->jw->Prop}(hh:A.handled=none)(hv:s.heap.IsItemsView r d)(ho:s.heap.get? d=some o)(hd:o.data= .dict es ep)(S:ju)(hSr:S≠r)(hSd:d≠S)(res:jt)(c0:Nat)(hS:s.heap.get? S=some (iX #[] c0))
  (hR:∀h' tk acc c as,(∀b o,b≠S->s.heap.get? b=some o->h'.get? b=some o)->h'.get? S=some (iX acc c)->as.length=es.size->RG es s.heap.objs.size h' as->acc.toList=as.map jx->R (.ok (.ret res)) {s with heap:=h',toks:=tk})(hn:es.size<=jv):
  jy (kg prog w) A.in1 (qx (.ref S) (.ref r) res) (λfin s'=>match fin with| .done f=>R (.ok f) s'| .again c'=>c'.quiet=true/\tq (kg prog w) A c' R s') (λe s'=>R (.error e) s') s:=by
 have lS:S<s.heap.objs.size:=CO hS;have ld:d<s.heap.objs.size:=CO ho;have key:∀(h:kj)(c1 tk:Nat),(∀b o,b≠S->(s.heap.push {cls:=.type "dict_itemiterator",data:=.fields #[.none,.bool false,.ref d,.int 0 0,.int es.size 0,.int ep 0,.none,.none]}).get? b=some o->h.get? b=some o)->h.get? S=some (iX #[] c1)->tq (kg prog w) A (.builtin "list.extend.loop" ⟨[.ref S,.ref s.heap.objs.size,res],[]⟩) R {s with heap:=h,toks:=tk}:=by
  intro h c1 tk kp eS;have eI:=kp s.heap.objs.size _ (jn lS) (iy _ rfl);exact A6k (s:=s) (h0:=s.heap) hh lS hSd (jo ld) hn hd res (λh' tk' acc c as kp' eS' l G ea=>hR h' tk' acc c as (λb o hb e=>kp' b o hb (jo (CO e)) e) eS' l G ea) es.size 0 h tk c1 #[] [] (jr _).symm (.inl ⟨rfl,.none,.none,eI⟩) (kp d o hSd (CK _ ho)) (λb o hb _ e=>kp b o hb (CK _ e)) eS rfl rfl ⟨vk,(λ_ ha=>nomatch ha),λj a hj=>(by simp at hj)⟩ (CO eI)
 have hT:=hv.typeIs (s:=s);unfold qx;refine CI (we hT ?_);simp only[show ug (.ref S) (.ref r)=false by simp[ug,hSr],show(oj "dict_items" ==oj "list")=false by decide,show(oj "dict_items" ==oj "tuple")=false by decide,Bool.or_false,km,if_false];refine CI (yZ hv ho hd ?_);have eS:=CK {cls:=.type "dict_itemiterator",data:=.fields #[.none,.bool false,.ref d,.int 0 0,.int es.size 0,.int ep 0,.none,.none]} hS;refine CI (l8 (W.kdx_hint (let ⟨o,ho,hc,_⟩:=hv;⟨o,CK _ ho,hc⟩) ?_));refine wpAny_ite_split (λ_=> ?_) λ_=>CJ ⟨oz ui _,key _ c0 _ (λb o _ e=>e) eS⟩;refine CI (pj (CI ?_));refine CI (m:=yg S (·.push .none)) (qc eS rfl ?_);have eS2:=i5 (m8 (·.push ke)) eS rfl;refine qc (hz:=by seq_fits) eS2 rfl ?_;exact CJ ⟨oz ui _,key _ _ _ (λb o hb e=>by rw[i0 _ _ (Ne.symm hb),i0 _ _ (Ne.symm hb)];exact e) (i5 (m8 (·.pop)) eS2 rfl)⟩
theorem B5n (hh:A.handled=none)(hv:s.heap.IsItemsView r d)(ho:s.heap.get? d=some o)(hd:o.data= .dict es ep)(hn:es.size<=jv)
  (hQ:∀h' tk acc c as,(∀b o,s.heap.get? b=some o->h'.get? b=some o)->h'.get? s.heap.objs.size=some (iX acc c)->as.length=es.size->RG es s.heap.objs.size h' as->acc.toList=as.map jx->Q (.ref s.heap.objs.size) {s with heap:=h',toks:=tk}):jy (kg prog w) A (call (.type "list") [.ref r]) Q E s:=by
 refine callType_codes (Q₁:=λobj s₁=>obj= .ref s.heap.objs.size/\s₁={s with heap:=s.heap.push {cls:=.type "list",data:=.seq #[]}}) F.called_list (F.typeCall_list_1 _) F.entry_list_init (code_list_new _ ⟨rfl,rfl⟩) λobj s₁ h₁=> ?_;obtain⟨rfl,rfl⟩:=h₁;have hS:(s.heap.push {cls:=.type "list",data:=.seq #[]}).get? s.heap.objs.size=some {cls:=.type "list",data:=.seq #[]}:=iy _ rfl;have hr:r<s.heap.objs.size:=let ⟨_,ho,_⟩:=hv;CO ho;have ld:d<s.heap.objs.size:=CO ho;refine⟨⟨_,hS,rfl⟩,F.args_list_init_2 _ _,?_⟩;refine CI (m:=Bj (.ref s.heap.objs.size)) ?_;unfold Bj;refine CI (n9 hS rfl (CJ ?_));refine CI (m:=yg s.heap.objs.size (λ_=> #[])) (qc hS rfl (CI (m:=letGo (#[]:Array jt).toList.reverse) (vw ?_)));have oth:∀b o,b≠s.heap.objs.size->s.heap.get? b=some o->((s.heap.push {cls:=.type "list",data:=.seq #[]}).update s.heap.objs.size (m8 (λ_=>(#[]:Array jt)))).get? b=some o:=λb o hb e=>by rw[i0 _ _ (Ne.symm hb)];exact CK _ e
 have lt:∀{b o},s.heap.get? b=some o->b≠s.heap.objs.size:=λe=>jo (CO e);have eS2:=i5 (m8 (λ_=>(#[]:Array jt))) hS rfl;refine B34 (A:=A.in1) hh (let ⟨o,ho,x⟩:=hv;⟨o,oth r o (lt ho) ho,x⟩) (oth d o (lt ho) ho) hd _ (jn hr) (jo ld) .none _ eS2 (λh' tk acc c as kp eS l G ea=> ⟨rfl,hQ h' tk acc c as (λb o e=>kp b o (lt e) (oth b o (lt e) e)) eS l ⟨G.rise,λa ha=>jk (CO eS2) (G.above a ha),G.at'⟩ ea⟩) hn
end
end PySem
namespace L2
open PySem PySem.Spec PyProof.Rows
theorem Inv.laidN (I:Inv X kb σ H s)(k:∀b u,s.heap.get? b=some u->h'.get? b=some u)(old:∀b,b<s.heap.objs.size->H' b=H b)(grow:∀b u,H b=some u->H' b=some u)
  (new:∀b u,H' b=some u->H b=none->ObjOk X.prog X.w H' h' b u):Inv X kb σ H' {s with heap:=h',toks:=t'}:=by
 refine I.un ⟨λb u q _ _ _=>k b u q,λb u q _ _ _=> ⟨u.slots,k b u q⟩,λb u q n _=>by rw[old b (CO q)];exact n,λb u q _=> ⟨u,k b u q⟩,λb xs q=>grow b _ q,λb u xs q=>grow b _ q,λb ps q=> ⟨#[],by rw[grow b _ q];simp⟩⟩ λb u e=> ?_;cases q:H b with
 |none=>exact new b u e q
 |some u'=>
  have:=grow b u' q;rw[this]at e;cases e;exact(I.hok b _ q).stay (λc v _ q=>k c v q) (λc q=>grow _ _ q) λc xs q=>grow _ _ q
noncomputable def fS (H:Hp):List (ju×V×V)->Hp
 | []=>H
 |t::r=>upd (fS H r) t.1 (.tup [t.2.1,t.2.2])
theorem qM:∀{r:List (ju×V×V)}{b:ju},b∉r.map (·.1)->fS H r b=H b
 | [],_,_=>rfl
 |t::r,b,h=>by
  rw[d6,fe,not_or]at h;show upd (fS H r) t.1 _ b=_;rw[aN h.1];exact qM h.2
theorem wH:∀{r:List (ju×V×V)}{t:ju×V×V},(r.map (·.1)).Nodup->t∈r->fS H r t.1=some (.tup [t.2.1,t.2.2])
 | [],_,_,h=>by cases h
 |u::r,t,hn,h=>by
  rw[d6,f9]at hn;show upd (fS H r) u.1 _ t.1=_;rcases fe.mp h with e|e
  ·rw[e,aG]
  ·have:t.1≠u.1:=λz=>hn.1 (by rw[←z];exact fm.mpr ⟨t,e,rfl⟩);rw[aN this];exact wH hn.2 e
theorem A1y:∀{r:List (ju×V×V)}{b:ju}{u:HO},fS H r b=some u->H b=none->∃t∈r,t.1=b/\u= .tup [t.2.1,t.2.2]
 | [],_,_,h,hn=>by
  have h:_=some _:=h;rw[show fS H []=H from rfl,hn]at h;cases h
 |t::r,b,u,h,hn=>by
  by_cases e:b=t.1
  ·have h:upd (fS H r) t.1 (.tup [t.2.1,t.2.2]) b=some u:=h;rw[e,aG]at h;cases h;exact⟨t,CQ,e.symm,rfl⟩
  ·have h:upd (fS H r) t.1 (.tup [t.2.1,t.2.2]) b=some u:=h;rw[aN e]at h;obtain⟨t',h1,h2⟩:=A1y h hn;exact⟨t',CP _ h1,h2⟩
theorem yC:∀ts:List ju,Vals (ts.map V.ref) (ts.map jx)
 | []=> .nil
 |_::ts=> .cons rfl (yC ts)
noncomputable def tLI (td:TE):TE:=λσ H Q=>td σ H λx H1=> ∃d kvs,x= .ref d/\H1 d=some (.dT kvs)/\∀l ps H',H1 l=none->Same H1 H'->H' l=some (.lst ((ps:List ju).map V.ref))->Paired (λp (kv:List Key×V)=> ∃b,H' p=some (.tup [.ref b,kv.2])/\H' b=some (.tup (kv.1.map kV))) ps kvs->Q (.ref l) H'
theorem wL:∀{ts:List α}{zs:List β},ts.length=zs.length->(∀(j:Nat) t z,ts[j]?=some t->zs[j]?=some z->F t z)->Paired F ts zs
 | [],[],_,_=> .nil
 |t::ts,z::zs,h,hf=> .cons (hf 0 t z rfl rfl) (wL (by simpa using h) λj t z h1 h2=>hf (j+1) t z (by simpa using h1) (by simpa using h2))
 | [],_::_,h,_=>by cases h
 |_::_,[],h,_=>by cases h
theorem A7f (hc:X.calm=true)(hL:Gl X "list")(mL:X.mg "list" =none)(ha:PE X a td)(hbase:Aw a "items" X.env (sf a X.env)=sf a X.env:=by rfl)(hline:(apos.endLine==CF.line)=true:=by rfl)
  (hs3:ni [.Call (.Attribute a "items" apos) [] [] CF] X.env=[(false,sf (.Call (.Attribute a "items" apos) [] [] CF) X.env)]:=by rfl):PE X (.Call (.Name "list" p) [.Call (.Attribute a "items" apos) [] [] CF] [] pos) (tLI td):=by
 intro kb s σ H Q I h;refine va (iE I hL mL AX ?_ (by decide) (by decide));refine ot ?_ hs3 rfl;rw[hs3];refine rm (AQ hbase hline (thn (ha kb s σ H _ I h) λv s1 ⟨x,H1,I1,r1,d,kvs,e,q1,q⟩=> ?_));subst e;cases r1;obtain⟨hz,hs,xs,rp,o,ens,ep,ho,hx,hd,he,_⟩:=(show ObjOk X.prog X.w H1 s1.heap d (.dT kvs)from I1.hok _ _ q1);have hsz:ens.size=kvs.length:=by rw[size_of_entries he];exact(Paired.length rp).symm
 refine⟨"dict","dict.items",um,AR,AS,⟨o,ho,hx.1⟩,λa e=>by cases e;exact⟨o,ho,hx.2.1⟩,qw rfl (PySem.evalArgs_none ?_)⟩;refine zJ ho hx hs (xt ?_);have hh:X.A.handled=none:=I1.ok.hd hc;have kV1:∀b ob,s1.heap.get? b=some ob->(s1.heap.push {cls:=.type "dict_items",data:=.fields #[.ref d]}).get? b=some ob:=λb ob e=>CK _ e;have eV:(s1.heap.push {cls:=.type "dict_items",data:=.fields #[.ref d]}).IsItemsView s1.heap.objs.size d:=⟨_,iy _ rfl,rfl,rfl⟩;have szV:(s1.heap.push {cls:=.type "dict_items",data:=.fields #[.ref d]}).objs.size=s1.heap.objs.size+1:=i6 ..;generalize s1.heap.push {cls:=.type "dict_items",data:=.fields #[.ref d]}=h1 at kV1 eV szV;have I2:Inv X kb σ H1 {s1 with heap:=h1}:=I1.kept (t':=s1.toks) kV1;refine B5n (s:={s1 with heap:=h1}) hh eV (kV1 _ _ ho) hd (by omega) λh2 tk acc c Ts kp hS hTl G hacc=> ?_;have kA:∀b o,s1.heap.get? b=some o->h2.get? b=some o:=λb o e=>kp b o (kV1 b o e);have hxl:kvs.length=xs.length:=Paired.length rp;have hTm:∀T∈Ts,h1.objs.size<T:=G.above;have hTn:Ts.Nodup:=G.rise.imp fun{a b} z e=>by rw[e]at z;exact je _ z
 have hTs:∀(j:Nat) T,Ts[j]?=some T->∃kv x,kvs[j]?=some kv/\xs[j]?=some x/\kv.1=x.1/\H1 x.2.1=some (.tup (kv.1.map kV))/\RelV kv.2 x.2.2/\h2.get? T=some (vB (.ref x.2.1) x.2.2):=λj T e=>by
  obtain⟨en,e1,e2⟩:=G.at' j T e;have jl:j<kvs.length:=by have:=(CL.mp e).1;omega
  have ek:kvs[j]?=some kvs[j]:=cx jl;obtain⟨x,hxj,g1,g2,g3⟩:=jG rp ek;have:ens.toList[j]?=some en:=by simpa using e1
  rw[he,cy,hxj]at this;cases this;exact⟨kvs[j],x,ek,hxj,g1,g2,g3,e2⟩
 generalize hzs:(xs.zip kvs).map (λz:(List Key×ju×jt)×(List Key×V)=>(V.ref z.1.2.1,z.2.2))=zs;have hzl:zs.length=kvs.length:=by rw[←hzs,di,length_zip];omega
 have hzj:∀(j:Nat) kv x,kvs[j]?=some kv->xs[j]?=some x->zs[j]?=some (V.ref x.2.1,kv.2):=λj kv x e1 e2=>by
  have e3:(xs.zip kvs)[j]?=some (x,kv):=su.mpr ⟨e2,e1⟩;rw[←hzs,cy,e3];rfl
 have hfst:(Ts.zip zs).map (·.1)=Ts:=List.map_fst_zip (by omega);have hS0:H1 h1.objs.size=none:=I2.hok.fresh (CT _);have hT0:∀T∈Ts,H1 T=none:=λT hT=>I2.hok.fresh (jb (hTm T hT));have hSn:h1.objs.size∉Ts:=λz=>je _ (hTm _ z);have grow:Same H1 (upd (fS H1 (Ts.zip zs)) h1.objs.size (.lst (Ts.map V.ref))):=λb u e=>by
  rw[aN (bG e hS0),qM]
  ·exact e
  ·rw[hfst];exact λz=>by rw[hT0 b z]at e;cases e
 have atT:∀t∈Ts.zip zs,(upd (fS H1 (Ts.zip zs)) h1.objs.size (.lst (Ts.map V.ref))) t.1=some (.tup [t.2.1,t.2.2]):=λt ht=>by
  have hm:t.1∈Ts:=by rw[←hfst];exact fm.mpr ⟨t,ht,rfl⟩
  rw[aN (λz=>hSn (by rw[←z];exact hm))];exact wH (by rw[hfst];exact hTn) ht
 have IF:Inv X kb σ (upd (fS H1 (Ts.zip zs)) h1.objs.size (.lst (Ts.map V.ref))) {s1 with heap:=h2,toks:=tk}:=by
  refine I1.laidN kA (λb hb=> ?_) grow λb u e hn0=> ?_
  ·have n1:b≠h1.objs.size:=by rw[szV];exact jo (ji hb)
   rw[aN n1,qM];rw[hfst];intro z;have:=hTm b z;rw[szV]at this;exact je _ (jk (jk hb (jj _)) this)
  ·by_cases eb:b=h1.objs.size
   ·rw[eb,aG]at e;cases e;rw[eb];have hacc2:acc=(Ts.map jx).toArray:=by rw[←hacc]
    rw[hacc2]at hS;exact⟨by rw[di];omega,Ts.map jx,c,yC Ts,hS⟩
   ·rw[aN eb]at e;obtain⟨t,ht,e1,e2⟩:=A1y e hn0;obtain⟨j,hj⟩:=fk.mp ht;obtain⟨hj1,hj2⟩:=su.mp hj;obtain⟨kv,x,g1,g2,_,_,g5,g6⟩:=hTs j t.1 hj1;have:=hzj j kv x g1 g2;rw[hj2]at this;have et:=j7 this;rw[e2,←e1,et];exact⟨by show 2<=jv;rw[ko];decide,[.ref x.2.1,x.2.2],.cons rfl (.cons g5 .nil),⟨_,g6,rfl,_,rfl⟩⟩
 refine⟨.ref h1.objs.size,_,IF,rfl,q _ Ts _ hS0 grow aG (wL (by omega) λj t kv e1 e2=> ?_)⟩;obtain⟨kv',x,g1,g2,_,g4,_,_⟩:=hTs j t e1;rw[e2]at g1;cases g1;have hz':=hzj j kv x e2 g2;exact⟨x.2.1,atT (t,(V.ref x.2.1,kv.2)) (fk.mpr ⟨j,su.mpr ⟨e1,hz'⟩⟩),grow _ _ g4⟩
end L2
namespace PySem
section
variable {prog:j9}{w:kl}{K:Type} [DecidableEq K]{knd:KeyKind prog w K}{A:mh}{E:jt->jw->Prop}{s:jw}{l:ju}{ps:List ju}{xs:List (List K×ju×jt)}
theorem A9y (hh:A.handled=none)(hu:A.units+2<nj)(hl:s.heap.get? l=some (iX (ps.map jx).toArray c))(hz:xs.length<=jv)(hnd:(xs.map (·.1)).Nodup)(pr:rS knd s.heap ps xs)
  (hQ:∀h' tk,h'.DictOfH (qd knd) s.heap.objs.size xs->(∀b o,s.heap.get? b=some o->h'.get? b=some o)->Q (.ref s.heap.objs.size) {s with heap:=h',toks:=tk}):jy (kg prog w) A (call (.type "dict") [.ref l]) Q E s:=by
 refine callType_codes (Q₁:=λobj s₁=>obj= .ref s.heap.objs.size/\s₁={s with heap:=s.heap.push {cls:=.type "dict",data:=.dict #[]}}) F.kt_called_dict (F.kt_typeCall_dict_1 _) F.entry_dict_init (kt_code_dict_new _ ⟨rfl,rfl⟩) ?_;rintro obj s₁ ⟨rfl,rfl⟩;have hnew:(s.heap.push {cls:=.type "dict",data:=.dict #[]}).DictOfH (qd knd) s.heap.objs.size []:=kj.DictOfH.new s.heap;have up:∀b o,s.heap.get? b=some o->(s.heap.push {cls:=.type "dict",data:=.dict #[]}).get? b=some o:=λb o e=>CK _ e;have lt:∀{b:ju}{o:Obj},s.heap.get? b=some o->b<s.heap.objs.size:=λe=>CO e;have sz:(s.heap.push {cls:=.type "dict",data:=.dict #[]}).objs.size=s.heap.objs.size+1:=i6 ..;have hT:w9 {s with heap:=s.heap.push {cls:=.type "dict",data:=.dict #[]}} (.ref l) "list":=⟨_,up _ _ hl,rfl⟩;generalize s.heap.push {cls:=.type "dict",data:=.dict #[]}=h1 at hnew up sz hT;refine⟨hnew.typeIs,F.args_dict_init_2 _ _,?_⟩;unfold j6.«dict.__init__»;refine CI ?_;unfold j6.Dict.selfAndRest;refine CI (By hnew.typeIs ?_);show jy _ _ (pure (s.heap.objs.size,[jx l])) _ _ _;refine CJ ?_;show jy _ _ (A4 "dict.__init__" s.heap.objs.size (.ref l) [] .none) _ _ _;unfold A4;refine CI (we hT ?_);rw[if_pos (by decide)];refine CI (B1f (s:={s with heap:=h1}) (up _ _ hl) (by simp[hh]) λh2 tk2 k2=> ?_);rw[if_pos (by rfl)];refine CI (pj ?_);have ls:h2.IsList l (ps.map jx).toArray:=⟨_,k2 _ _ (up _ _ hl),rfl,c,rfl⟩;refine CI (tj (s:={s with heap:=h2,toks:=tk2}) ls ?_);have k3:∀b o,s.heap.get? b=some o->h2.get? b=some o:=λb o e=>k2 _ _ (up _ _ e);have hd:∀{b:ju}{o:Obj},s.heap.get? b=some o->b≠s.heap.objs.size:=λe=>jo (lt e);have d2:h2.DictOfH (qd knd) s.heap.objs.size []:=by
  obtain⟨o,es,ep,g1,g2,g3,g4,_,g6⟩:=hnew;exact⟨o,es,ep,k2 _ _ g1,g2,g3,g4,λx hx=>(by cases hx),g6⟩
 have l2:s.heap.objs.size<h2.objs.size:=let ⟨_,_,_,g1,_⟩:=d2;CO g1;have hI:∀{b:ju}{o:Obj},s.heap.get? b=some o->b≠h2.objs.size:=λe=>jo (jk (lt e) l2);refine CJ ⟨oz F.plain_dict_update_loop _,?_⟩;refine A4u (knd:=knd) (l:=l) (ps:=ps) (xs:=xs) (A:=A.in1) (by simp[hh]) hu (hI hl) (jo l2) (Ne.symm (hd hl)) hz hnd .none ps.length 0 _ (jr _).symm ⟨_,iy _ rfl,rfl,rfl⟩ (ls.push _) ?_ ⟨pr.l,λj p x e1 e2=> ?_⟩ (λp hp=> ?_) (λx hx=> ?_) λh' tk dd k'=> ⟨rfl,hQ h' tk dd λb o e=>k' b o (hI e) (hd e) (CK _ (k3 _ _ e))⟩
 ·obtain⟨o,es,ep,g1,g2,g3,g4,_,g6⟩:=d2;exact⟨o,es,ep,CK _ g1,g2,g3,g4,λx hx=>(by cases hx),g6⟩
 ·obtain⟨⟨oq,n',q1,q2,q3⟩,oq',lu,n'',r1,r2,r3,r4⟩:=pr.p j p x e1 e2;exact⟨⟨oq,n',CK _ (k3 _ _ q1),q2,q3⟩,oq',lu,n'',CK _ (k3 _ _ r1),r2,r3,r4⟩
 ·obtain⟨j,hj⟩:=fk.mp hp;have jl:j<xs.length:=by have:=(CL.mp hj).1;have:=pr.l;omega
  obtain⟨⟨oq,n',q1,_⟩,_⟩:=pr.p j p _ hj (cx jl);exact⟨hI q1,hd q1⟩
 ·obtain⟨j,hj⟩:=fk.mp hx;have jl:j<ps.length:=by have:=(CL.mp hj).1;have:=pr.l;omega
  obtain⟨_,oq',lu,n'',r1,_⟩:=pr.p j _ x (cx jl) hj;exact⟨hI r1,hd r1⟩
end
end PySem
namespace L2
open PySem PySem.Spec PyProof.Rows
noncomputable def PrA (H:Hp)(ps:List ju)(kvs:List (List Key×V)):Prop:=Paired (λp (kv:List Key×V)=> ∃b,H p=some (.tup [.ref b,kv.2])/\H b=some (.tup (kv.1.map kV))) ps kvs
theorem A76 (hc:X.calm=true)(hu:X.A.units+2<nj):cV X (.type "dict") (λvs H Q=> ∃l ps kvs,vs=[.ref l]/\H l=some (.lst ((ps:List ju).map V.ref))/\PrA H ps kvs/\(kvs.map (·.1)).Nodup/\kvs.length<=1000/\∀d,H d=none->Q (.ref d) (upd H d (.dT kvs))):=by
 intro kb s σ H vs us Q I r h;obtain⟨l,ps,kvs,rfl,el,hP,hn,h1000,q⟩:=h;obtain⟨u,rfl,ru⟩:=dR r;cases ru;obtain⟨hz,lu,c,rv,eo⟩:=(show ObjOk X.prog X.w H s.heap l (.lst (ps.map V.ref))from I.hok _ _ el);have hits:lu=ps.map jx:=by
  have go:∀{ps:List ju}{lu:List jt},Vals (ps.map V.ref) lu->lu=ps.map jx:=by
   intro ps
   induction ps with
   |nil=>intro lu r;cases r;rfl
   |cons p ps ih=>intro lu r;cases r with|cons r1 r2=>cases r1;rw[ih r2];rfl
  exact go rv
 subst hits;have hpl:ps.length=kvs.length:=Paired.length hP;have hex:∀{ps:List ju}{kvs:List (List Key×V)},PrA H ps kvs->∃xs:List (List Key×ju×jt),KT H kvs xs/\xs.map (·.1)=kvs.map (·.1)/\rS (cH X.prog X.w) s.heap ps xs:=by
  intro ps kvs hP
  induction hP with
  |nil=>exact⟨[],.nil,rfl,rfl,λj p x e=>by simp at e⟩
  | @cons p kv ps kvs r t ih=>
   obtain⟨xs,i1,i2,i3⟩:=ih;obtain⟨b,r1,r2⟩:=r;obtain⟨_,it,rv,o,g1,g2,n,g3⟩:=(show ObjOk X.prog X.w H s.heap p (.tup [.ref b,kv.2])from I.hok _ _ r1);obtain⟨u,v,rfl,ru,rv'⟩:=jT rv;cases ru;refine⟨(kv.1,b,v)::xs,.cons ⟨rfl,r2,rv'⟩ i1,by rw[d6,d6,i2],?_,λj q x e1 e2=> ?_⟩
   ·rw[c9,c9,i3.l]
   ·cases j with
    |zero=>
     simp only[xp,pq]at e1 e2;subst e1 e2;exact⟨⟨o,n,g1,g2,g3⟩,jA I.hok r2⟩
    |succ j=>simp only[xq]at e1 e2;exact i3.p j q x e1 e2
 obtain⟨xs,i1,i2,i3⟩:=hex hP;have hxl:kvs.length=xs.length:=Paired.length i1;refine A9y (knd:=cH X.prog X.w) (I.ok.hd hc) hu eo (by rw[ko];omega) (by rw[i2];exact hn) i3 λh' tk dd kp=> ?_;have hn0:H s.heap.objs.size=none:=I.hok.fresh (CT _);refine⟨.ref _,_,I.laid (t':=tk) (o:=.dT kvs) kp (CT _) ?_,rfl,q _ hn0⟩;obtain⟨o,es,ep,g1,g2,g3,g4,_,g6⟩:=dd;exact⟨by rw[ko];omega,beq_eq_false_iff_ne.mpr (Ne.symm (jo I.big)),xs,i1.keeps λb ys e=>by rw[aN (bG e hn0)];exact e,o,es,ep,g1,g2,g3,g4,g6⟩
mutual
noncomputable def Dd (H:Hp):m6->V->Prop
 | .none,v=>v= .non
 | .bool b,v=>v= .bl b
 | .int i,v=>v= .int i
 | .str x,v=>v= .str x
 | .list ds,v=> ∃a xs,v= .ref a/\H a=some (.lst xs)/\RdAs H ds xs
 | .tuple ds,v=> ∃a xs,v= .ref a/\H a=some (.tup xs)/\RdAs H ds xs
 | .dict kvs,v=> ∃a ks,v= .ref a/\H a=some (.dK ks)/\mI H kvs ks
noncomputable def RdAs (H:Hp):List m6->List V->Prop
 | [],xs=>xs=[]
 |d::ds,xs=> ∃y ys,xs=y::ys/\Dd H d y/\RdAs H ds ys
noncomputable def mI (H:Hp):List (m6×m6)->List (Key×V)->Prop
 | [],xs=>xs=[]
 | (k,d)::r,xs=> ∃j y ys,xs=(j,y)::ys/\Dd H k (kV j)/\Dd H d y/\mI H r ys
end
mutual
noncomputable def fD:m6->Bool
 | .none| .bool _| .int _| .str _=>false
 | .list _=>true
 | .tuple xs=>gV xs
 | .dict kvs=>oO kvs
noncomputable def gV:List m6->Bool
 | []=>false
 |x::xs=>fD x||gV xs
noncomputable def oO:List (m6×m6)->Bool
 | []=>false
 | (k,v)::r=>fD k||fD v||oO r
end
theorem B1r (h1:KV ks vs)(h2:Pairs (cH P w) es vs):Paired (λ(p:Key×V) (e:wc)=>RelV (kV p.1) e.key/\RelV p.2 e.val) ks es:=by
 unfold KV at h1
 induction h1 generalizing es with
 |nil=>cases h2;exact .nil
 |cons r t ih=>
  cases h2 with|cons p q s=> ?_;refine .cons ⟨?_,?_⟩ (ih s)
  ·rw[r.1];rcases keyIs_shape p with⟨i,t',e1,e2⟩| ⟨x,t',e1,e2⟩
   ·rw[e1,e2];exact⟨t',rfl⟩
   ·rw[e1,e2];exact⟨t',rfl⟩
  ·rw[q];exact r.2
mutual
theorem nR (ok:CU P w H h):∀(d:m6)(v:V)(u:jt),Dd H d v->RelV v u->∃as,Reads h u d as/\(fD d=false->n4∉as)
 | .none,_,_,e,r=>by
  simp only[Dd]at e;subst e;cases (show _=ke from r);exact⟨[],.none,λ_=>by simp⟩
 | .bool b,_,_,e,r=>by
  simp only[Dd]at e;subst e;cases (show _=rj b from r);exact⟨[],.bool b,λ_=>by simp⟩
 | .int i,_,_,e,r=>by
  simp only[Dd]at e;subst e;obtain⟨t,rfl⟩:=(show∃t,_=sv i t from r);exact⟨[],.int i t,λ_=>by simp⟩
 | .str x,_,_,e,r=>by
  simp only[Dd]at e;subst e;obtain⟨t,rfl⟩:=(show∃t,_=AE x t from r);exact⟨[],.str x t,λ_=>by simp⟩
 | .list ds,_,_,e,r=>by
  simp only[Dd]at e;obtain⟨a,xs,rfl,ha,hx⟩:=e;cases (show _=jx a from r);obtain⟨_,lu,n,rv,ho⟩:=(show ObjOk P w H h a (.lst xs)from ok _ _ ha);obtain⟨as,h1,h2⟩:=sV ok ds xs lu hx rv;exact⟨a::as,.list ho rfl rfl h1,λz=>by simp[fD]at z⟩
 | .tuple ds,_,_,e,r=>by
  simp only[Dd]at e;obtain⟨a,xs,rfl,ha,hx⟩:=e;cases (show _=jx a from r);obtain⟨_,lu,rv,o,ho,hc,n,hd⟩:=(show ObjOk P w H h a (.tup xs)from ok _ _ ha);obtain⟨as,h1,h2⟩:=sV ok ds xs lu hx rv;exact⟨as,.tuple ho hc hd h1,λz=>h2 (by simpa only [fD]using z)⟩
 | .dict kvs,_,_,e,r=>by
  simp only[Dd]at e;obtain⟨a,ks,rfl,ha,hx⟩:=e;cases (show _=jx a from r);obtain⟨_,hs,vs,hk,o,es,ep,ho,hex,hd,_,hp,_⟩:=(show ObjOk P w H h a (.dK ks)from ok _ _ ha);obtain⟨as,bs,h1,h2,h3⟩:=A09 ok kvs ks es.toList hx (B1r hk hp);refine⟨a::as++bs,.dict ho hex.1 hd h1 h2,λz=> ?_⟩;obtain⟨z1,z2⟩:=h3 (by simpa only [fD]using z);rw[aq,fe,d8];rintro(q|q|q)
  ·rw[←q]at hs;simp at hs
  ·exact z1 q
  ·exact z2 q
theorem sV (ok:CU P w H h):∀(ds:List m6)(xs:List V)(us:List jt),RdAs H ds xs->Vals xs us->∃as,ReadsAll h us ds as/\(gV ds=false->n4∉as)
 | [],_,_,e,r=>by
  simp only[RdAs]at e;subst e;cases r;exact⟨[],.nil,λ_=>by simp⟩
 |d::ds,_,_,e,r=>by
  simp only[RdAs]at e;obtain⟨y,ys,rfl,h1,h2⟩:=e;cases r with
  |cons r1 r2=>
   obtain⟨as,g1,g2⟩:=nR ok d y _ h1 r1;obtain⟨bs,g3,g4⟩:=sV ok ds ys _ h2 r2;refine⟨as++bs,.cons g1 g3,λz=> ?_⟩;simp only[gV,vt]at z;rw[d8];rintro(q|q)
   ·exact g2 z.1 q
   ·exact g4 z.2 q
theorem A09 (ok:CU P w H h):∀(ds:List (m6×m6))(xs:List (Key×V))(es:List wc),mI H ds xs->Paired (λ(p:Key×V) (e:wc)=>RelV (kV p.1) e.key/\RelV p.2 e.val) xs es->
  ∃as bs,ReadsAll h (es.map (·.key)) (ds.map (·.1)) as/\ReadsAll h (es.map (·.val)) (ds.map (·.2)) bs/\(oO ds=false->n4∉as/\n4∉bs)
 | [],_,_,e,r=>by
  simp only[mI]at e;subst e;cases r;exact⟨[],[],.nil,.nil,λ_=>by simp⟩
 | (k,d)::ds,_,_,e,r=>by
  simp only[mI]at e;obtain⟨j,y,ys,rfl,h0,h1,h2⟩:=e;cases r with
  |cons r1 r2=>
   obtain⟨as,g1,g2⟩:=nR ok k _ _ h0 r1.1;obtain⟨bs,g3,g4⟩:=nR ok d y _ h1 r1.2;obtain⟨as',Cw,g5,g6,g7⟩:=A09 ok ds ys _ h2 r2;refine⟨as++as',bs++Cw,.cons g1 g5,.cons g3 g6,λz=> ?_⟩;simp only[oO,vt]at z;obtain⟨q1,q2⟩:=g7 z.2;constructor
   ·rw[d8];rintro(q|q)
    ·exact g2 z.1.1 q
    ·exact q1 q
   ·rw[d8];rintro(q|q)
    ·exact g4 z.1.2 q
    ·exact q2 q
end
mutual
noncomputable def mB:m6->Bool
 | .none| .bool _| .int _| .str _| .dict _=>true
 | .list xs=>mK xs
 | .tuple xs=>decide (xs.length<=1000)&&mK xs
noncomputable def mK:List m6->Bool
 | []=>true
 |x::xs=>mB x&&mK xs
end
structure Gd (n D:Nat)(d:m6):Prop where
 sh:d.showable=true
 lv:d.leavesShort 64=true
 wt:d.weight<=n
 dp:d.depth<=D
 ln:mB d=true
theorem Gd.mono (g:Gd n D d)(h:n<=m)(h2:D<=E):Gd m E d:=⟨g.sh,g.lv,jd g.wt h,jd g.dp h2,g.ln⟩
theorem Gd.all:∀{ds:List m6},(∀d∈ds,Gd n D d)->m6.showableAll ds=true/\BD 64 ds=true/\A5 ds<=ds.length*(n+1)/\Br ds<=D/\mK ds=true
 | [],_=> ⟨rfl,rfl,by simp[A5],by simp[Br],rfl⟩
 |d::ds,h=>by
  obtain⟨h1,h2,h3,h4,h5⟩:=Gd.all λd' hd'=>h d' (CP _ hd');have g:=h d CQ;refine⟨by simp only[m6.showableAll,g.sh,h1,B6],by simp only[BD,g.lv,h2,B6],?_,?_,by simp only[mK,g.ln,h5,B6]⟩
  ·have:=g.wt;simp only[A5,c9,Nat.succ_mul];omega
  ·have:=g.dp;simp only[Br];omega
theorem Gd.fits (g:Gd n D d)(hn:n<=100000):d.shown.length<=jv:=by have h:=m6.shown_le 64 (by decide) d g.lv;have:=g.wt;have h2:(64+2)*d.weight<=66*100000:=jm (by decide) (by omega);rw[ko];omega
structure Shw (d:m6):Prop where
 gd:Gd 100000 40 d
 dl:d.hasDict=true->fD d=false
theorem A1c (hg:X.A.guards=some [])(hu:X.A.units+64<nj):cV X (.builtin "repr") (λxs H Q=> ∃v d,xs=[v]/\Dd H d v/\Shw d/\Q (.str d.shown) H):=by
 intro kb s σ H xs us Q I r h;obtain⟨v,d,rfl,hr,hS,q⟩:=h;obtain⟨u,rfl,rx⟩:=dR r;have hfit:=hS.gd.fits (CT _);have hdp:=hS.gd.dp;have ref:∀a,v= .ref a->jy (kg X.prog X.w) X.A (call (.builtin "repr") [u]) (EP X kb σ Q) X.xe s:=λa e=>by
  subst e;cases (show _=jx a from rx);obtain⟨as,g1,g2⟩:=nR I.hok d _ _ hr rx;refine repr_of_reads' g1 hS.gd.sh (λz=>g2 (hS.dl z)) hg (by omega) (λ_ _ e=>e) (λh' u' tk hk=> ?_) hfit;exact⟨.str d.shown,H,I.kept hk,⟨u',rfl⟩,q⟩
 cases d with
 |none=>
  simp only[Dd]at hr;subst hr;cases (show _=ke from rx);exact PySem.P.repr_of_none ⟨.str "None",H,I.tok _,⟨_,rfl⟩,q⟩
 |bool b=>
  simp only[Dd]at hr;subst hr;cases (show _=rj b from rx);refine PySem.P.repr_of_bool ⟨_,H,I.tok _,?_,q⟩;cases b<;>exact⟨_,rfl⟩
 |int i=>
  simp only[Dd]at hr;subst hr;obtain⟨t,rfl⟩:=(show∃t,_=sv i t from rx);exact PySem.P.repr_of_int (by simpa only [Bs,decide_eq_true_eq]using hS.gd.sh) ⟨.str (Cr (.int i)),H,I.tok _,⟨_,rfl⟩,q⟩
 |str x=>
  simp only[Dd]at hr;subst hr;obtain⟨t,rfl⟩:=(show∃t,_=AE x t from rx);refine PySem.P.repr_of_str ⟨.str (Cr (.str x)),H,I.tok _,⟨_,rfl⟩,q⟩ ?_;simpa only [Cr]using hfit
 |list ds=>
  simp only[Dd]at hr;exact ref _ hr.choose_spec.choose_spec.1
 |tuple ds=>
  simp only[Dd]at hr;exact ref _ hr.choose_spec.choose_spec.1
 |dict kvs=>
  simp only[Dd]at hr;exact ref _ hr.choose_spec.choose_spec.1
noncomputable def Dp (H:Hp)(n D:Nat)(v:V):Prop:=∃d,Dd H d v/\Gd n D d/\d.hasDict=false/\fD d=false
theorem Dp.mono (h:Dp H n D v)(h1:n<=m)(h2:D<=E):Dp H m E v:=let ⟨d,a,b,c⟩:=h;⟨d,a,b.mono h1 h2,c⟩
theorem Gd.atom (h1:d.showable=true)(h2:d.leavesShort 64=true)(h3:d.weight<=n)(h4:d.depth=0)(h5:mB d=true:=by simp only[mB]):Gd n D d:=⟨h1,h2,h3,by omega,h5⟩
theorem Dp.int (i:Int)(h:i.natAbs<10^40)(hw:i.natAbs<2^n)(h1:1<=n):Dp H n D (.int i):=by
 refine⟨.int i,by simp only[Dd],.atom ?_ ?_ ?_ (by simp only[m6.depth]),by simp only[Af],by simp only[fD]⟩
 ·simp only[Bs,decide_eq_true_eq];by_cases z:i.natAbs=0
  ·rw[z];decide
  ·rw[Nat.log2_lt z];exact jf h (by decide +kernel)
 ·simp only[m6.leavesShort,decide_eq_true_eq];have e:=int_text_length_le10 (k:=40) (by decide) h;show(qi (toString i)).length<=64;rw[PySem.ofString_length];omega
 ·simp only[m6.weight]
  split
  ·omega
  ·rename_i z;have z':i.natAbs≠0:=by simpa using z
   have:=(Nat.log2_lt z').mpr hw;omega
theorem Dp.num (i:Int)(h:i.natAbs<128):Dp H 7 D (.int i):=Dp.int i (jf h (by decide +kernel)) h (by decide)
theorem Dp.all:∀{xs:List V},(∀x∈xs,Dp H n D x)->∃ds,RdAs H ds xs/\ds.length=xs.length/\(∀d∈ds,Gd n D d)/\vo ds=false/\gV ds=false
 | [],_=> ⟨[],by simp only[RdAs],rfl,λd h=>by simp at h,by simp only[vo],by simp only[gV]⟩
 |x::xs,h=>by
  obtain⟨d,a1,a2,a3,a4⟩:=h x CQ;obtain⟨ds,b1,b2,b3,b4,b5⟩:=Dp.all λy hy=>h y (CP _ hy);refine⟨d::ds,?_,by rw[c9,c9,b2],λd' h'=> ?_,?_,?_⟩
  ·simp only[RdAs];exact⟨x,xs,rfl,a1,b1⟩
  ·rcases fe.mp h' with rfl|h'
   ·exact a2
   ·exact b3 d' h'
  ·simp only[vo,a3,b4,Bool.or_self]
  ·simp only[gV,a4,b5,Bool.or_self]
theorem Gd.tup (h:∀d∈ds,Gd n D d)(hm:ds.length<=m)(hk:m<=1000):Gd (m*(n+1)) (D+1) (.tuple ds):=by obtain⟨h1,h2,h3,h4,h5⟩:=Gd.all h;refine⟨by simp only[Bs];exact h1,by simp only[m6.leavesShort];exact h2,?_,by simp only[m6.depth];omega,by simp only[mB,h5,Bool.and_true,decide_eq_true_eq];omega⟩;simp only[m6.weight];exact jd h3 (Nat.mul_le_mul_right _ hm)
theorem Dp.tup (ha:H a=some (.tup xs))(h:∀x∈xs,Dp H n D x)(hm:xs.length<=m)(hk:m<=1000:=by first|decide|omega):Dp H (m*(n+1)) (D+1) (.ref a):=by obtain⟨ds,b1,b2,b3,b4,b5⟩:=Dp.all h;exact⟨.tuple ds,by simp only[Dd];exact⟨a,xs,rfl,ha,b1⟩,Gd.tup b3 (by omega) hk,by simp only[Af];exact b4,by simp only[fD];exact b5⟩
end L2
namespace L2
open PySem PyProof.Rows
mutual
theorem Dd.tp (e:∀a xs,H a=some (.tup xs)->H' a=some (.tup xs)):∀{d:m6}{v:V},d.hasDict=false->fD d=false->Dd H d v->Dd H' d v
 | .none,_,_,_,h=>h
 | .bool _,_,_,_,h=>h
 | .int _,_,_,_,h=>h
 | .str _,_,_,_,h=>h
 | .list ds,_,_,hl,_=>by simp[fD]at hl
 | .dict kvs,_,hd,_,_=>by simp[Af]at hd
 | .tuple ds,_,hd,hl,h=>by
  simp only[Dd,Af,fD]at h hd hl⊢;obtain⟨a,xs,e',ha,hx⟩:=h;exact⟨a,xs,e',e _ _ ha,RdAs.tp e hd hl hx⟩
theorem RdAs.tp (e:∀a xs,H a=some (.tup xs)->H' a=some (.tup xs)):∀{ds:List m6}{xs:List V},vo ds=false->gV ds=false->RdAs H ds xs->RdAs H' ds xs
 | [],_,_,_,h=>h
 |d::ds,_,hd,hl,h=>by
  simp only[RdAs,vo,gV,vt]at h hd hl⊢;obtain⟨y,ys,e',h1,h2⟩:=h;exact⟨y,ys,e',Dd.tp e hd.1 hl.1 h1,RdAs.tp e hd.2 hl.2 h2⟩
end
theorem Dp.mid (i:Int)(h:i.natAbs<2048):Dp H 11 D (.int i):=Dp.int i (jf h (by decide +kernel)) h (by decide)
end L2
namespace M09
open PySem L2 PyProof.Rows Grd Wlk Cyc Srt Set4 Lk
noncomputable def top (i:Nat):mw:=PySem.Challenge.pw_meadshares_k09_first_and_how_many.main.body.getD i (.Pass ⟨0,0,0,0⟩)
noncomputable abbrev A2p:mw:=top 8
noncomputable abbrev A2l:mw:=top 9
noncomputable abbrev A1z:mw:=top 10
noncomputable abbrev tG:mw:=top 11
noncomputable abbrev tO:mw:=top 12
noncomputable abbrev uG:mw:=top 19
noncomputable abbrev A2y:mw:=top 20
noncomputable abbrev nI:mw:=top 21
noncomputable abbrev A10:mw:=top 22
noncomputable abbrev xE:mw:=top 23
noncomputable abbrev sX:mw:=top 24
noncomputable abbrev wM:mw:=top 25
noncomputable abbrev qU:mw:=top 26
noncomputable abbrev zX:mw:=top 27
noncomputable abbrev pP:mw:=top 28
noncomputable abbrev tX:mw:=top 29
noncomputable abbrev qB:mw:=top 30
noncomputable abbrev xU:mw:=top 31
noncomputable abbrev A1w:mw:=top 32
noncomputable abbrev pK:mw:=top 40
noncomputable abbrev oN:mw:=top 41
noncomputable abbrev wB:mw:=top 42
noncomputable abbrev rQ:mw:=top 43
noncomputable abbrev yI:mw:=top 44
noncomputable abbrev tP:mw:=top 45
noncomputable abbrev mQ:mw:=top 46
noncomputable abbrev xA:mw:=top 47
noncomputable abbrev yA:mw:=top 48
noncomputable abbrev nH:mw:=top 50
noncomputable abbrev yG:mw:=top 51
noncomputable abbrev qZ:mw:=top 52
noncomputable abbrev qV:mw:=top 53
noncomputable abbrev A3e:mw:=top 56
noncomputable abbrev A16:mw:=top 57
noncomputable abbrev yY:mw:=top 58
noncomputable abbrev A2n:mw:=top 59
noncomputable abbrev A0w:mw:=top 60
noncomputable abbrev A2d:mw:=top 61
noncomputable abbrev rX:mw:=top 62
noncomputable abbrev tL:mw:=top 63
noncomputable abbrev nG:mw:=top 64
noncomputable abbrev xH:mw:=top 75
noncomputable abbrev yS:mw:=top 76
noncomputable abbrev sK:mw:=top 77
noncomputable abbrev vX:mw:=top 78
noncomputable abbrev jQ:mw:=top 79
noncomputable abbrev jR:mw:=top 80
noncomputable abbrev sW:mw:=top 81
noncomputable abbrev pC:mw:=top 82
noncomputable abbrev zU:mw:=top 83
noncomputable abbrev rD:mw:=top 84
noncomputable abbrev A3a:mw:=top 85
noncomputable abbrev yO:mw:=top 86
noncomputable abbrev pB:mw:=top 87
noncomputable abbrev tY:mw:=top 88
noncomputable abbrev rY:mw:=top 89
noncomputable abbrev yX:mw:=top 90
noncomputable abbrev qG:mw:=top 91
noncomputable abbrev zW:mw:=top 92
noncomputable abbrev tF:mw:=top 93
noncomputable abbrev sY:mw:=top 94
noncomputable abbrev mV:mw:=top 96
noncomputable abbrev zZ:mw:=top 67
noncomputable abbrev A0n:mw:=top 68
noncomputable abbrev lE:mw:=top 69
noncomputable abbrev fZ:mw:=top 70
noncomputable abbrev zC:mw:=top 71
noncomputable abbrev wO:mw:=top 72
noncomputable abbrev A0r:mw:=top 73
noncomputable abbrev gB:mw:=top 95
structure Txt (mg:Str->Option jt):Prop where
 isinstance:mg "isinstance" =none
 int:mg "int" =none
 bool:mg "bool" =none
 tuple:mg "tuple" =none
 len:mg "len" =none
 all:mg "all" =none
 enumerate:mg "enumerate" =none
 rows:∃t,mg "MOST_ROWS" =some (.int 4 t)
 cols:∃t,mg "MOST_COLUMNS" =some (.int 6 t)
 cells:∃t,mg "MOST_CELLS" =some (.int 10 t)
 worth:∃t,mg "MOST_WORTH" =some (.int 99 t)
 water:∃t,mg "WATER" =some (.int (-2) t)
noncomputable def pW:Sp:=λvs H Q _=> ∃v,vs=[v]/\Kn H 1 v/\Q (.bl (isInt v)) H
noncomputable def mW:Sp:=λvs H Q _=> ∃v lo hi,vs=[v,.int lo,.int hi]/\Kn H 1 v/\Q (.bl (eW lo hi v)) H
noncomputable def dS (H:Hp)(lo hi:Int)(v:V):Bool:=match fF H v with|some xs=>decide (lo<=xs.length)&&decide ((xs.length:Int)<=hi)|none=>false
noncomputable def iU:Sp:=λvs H Q _=> ∃v lo hi,vs=[v,.int lo,.int hi]/\Kn H 1 v/\Q (.bl (dS H lo hi v)) H
section
variable {P:j9}{w:kl}{K:W.Frag}{mg:Str->Option jt}{base:kj}
theorem A4p (F:D1 K mg "is_number" A2p ["thing"])(T:Txt mg):A1 P w K mg base 1 "is_number" pW:=by
 refine F.k ["thing"] ?_;ac_nf
 ·obtain⟨v,rfl,k,q⟩:=h;refine⟨_,aR (aY (hJ (bD jH rfl T.isinstance qb (bA (pv 0) (bA (gA (v:=.ty "int") rfl T.int boot_int rfl) aB)))
   (gT (B0f (bD jH rfl T.isinstance qb (bA (pv 0) (bA (gA (v:=.ty "bool") rfl T.bool boot_bool rfl) aB))))))),?_⟩
  obtain⟨t,ty,k1,k2,_⟩:=vW (K:=K) k;refine⟨_,rfl,_,"int",t,_,rfl,ty,k1,_,rfl,fB (λe=> ?_) λe=> ?_⟩
  ·refine⟨_,rfl,_,"bool",t,_,rfl,ty,k2,_,rfl,?_⟩;have:(!sI v)=isInt v:=by cases v<;>first|rfl|cases e
   rw[this];exact q
  ·have:isInt v=false:=(vt.mp e).1;rw[this]at q;exact q
theorem A7v (F:D1 K mg "is_number_within" A2l ["thing","least","most"])(a1:A1 P w K mg base 1 "is_number" pW):A1 P w K mg base 2 "is_number_within" mW:=by
 refine F.k ["thing","least","most"] ?_;ac_nf
 ·obtain⟨v,lo,hi,rfl,k,q⟩:=h;refine⟨_,aR (aY (hJ (a1.c hr (bA (pv 0) aB)) (gT (tN jJ jJ (pv 1) (pv 0) (pv 2))))),?_⟩;refine⟨_,rfl,v,rfl,k,_,rfl,fB (λe=> ?_) λe=> ?_⟩
  ·cases v with
   |int i=>
    refine⟨_,rfl,_,rfl,_,_,rfl,rfl,_,rfl,dY (λh1=> ?_) λh1=> ?_⟩
    ·refine⟨_,rfl,_,_,rfl,rfl,?_⟩;have:eW lo hi (.int i)=decide (i<=hi):=by simp[eW,h1]
     rw[this]at q;exact q
    ·have:eW lo hi (.int i)=false:=by simp[eW,h1]
     rw[this]at q;exact q
   |_=>cases e
  ·have:eW lo hi v=false:=by cases v<;>first|rfl|cases e
   rw[this]at q;exact q
theorem A7h (F:D1 K mg "is_tuple_within" A1z ["thing","least","most"])(T:Txt mg):A1 P w K mg base 1 "is_tuple_within" iU:=by
 refine F.k ["thing","least","most"] ?_;ac_nf
 ·obtain⟨v,lo,hi,rfl,k,q⟩:=h;refine⟨_,aR (aY (hJ (bD jH rfl T.isinstance qb (bA (pv 0) (bA (gA (v:=.ty "tuple") rfl T.tuple r6 rfl) aB)))
   (gT (tN jJ jJ (pv 1) (bD eJ rfl T.len m9 (bA (pv 0) aB)) (pv 2))))),?_⟩
  obtain⟨t,ty,_,_,k3⟩:=vW (K:=K) k;refine⟨_,rfl,_,"tuple",t,_,rfl,ty,k3,_,rfl,fB (λe=> ?_) λe=> ?_⟩
  ·obtain⟨xs,ex⟩:=qh.mp e;obtain⟨a,rfl,ha⟩:=A6a ex;refine⟨_,rfl,_,rfl,a,xs,rfl,.inr (CY.of ha),_,_,rfl,rfl,_,rfl,dY (λh1=> ?_) λh1=> ?_⟩
   ·refine⟨_,rfl,_,_,rfl,rfl,?_⟩;have:dS H lo hi (.ref a)=decide ((xs.length:Int)<=hi):=by simp[dS,ex,h1]
    rw[this]at q;exact q
   ·have:dS H lo hi (.ref a)=false:=by simp[dS,ex,h1]
    rw[this]at q;exact q
  ·have:dS H lo hi v=false:=by
    unfold dS;cases z:fF H v with
    |none=>rfl
    |some xs=>rw[z]at e;cases e
   rw[this]at q;exact q
theorem nd4:(["at","row","k","mark"]:List Str).Nodup:=by decide +kernel
structure dZ (mg:Str->Option jt):Prop where
 range:mg "range" =none
 list:mg "list" =none
 zip:mg "zip" =none
 sum:mg "sum" =none
 dict:mg "dict" =none
 set:mg "set" =none
 sorted:mg "sorted" =none
 any:mg "any" =none
 abs:mg "abs" =none
 road:∃t,mg "ROAD" =some (.int (-1) t)
noncomputable def eT (f:Int->Bool):Sp:=λvs H Q _=> ∃a g w,vs=[.ref a]/\GridAt H a g/\dM g w/\∀H' l ps,H l=none->Same H H'->H' l=some (.lst (ps.map V.ref))->PlAt H' ps (aQ f g)->Q (.ref l) H'
noncomputable def A3g:Sp:=λvs H Q _=> ∃b xs,vs=[.ref b]/\H b=some (.tup ((xs:List Int).map V.int))/\1<=xs.length/\xs.length<=6/\(∀n∈xs,-2<=n/\n<=99)/\∀H',Same H H'->Q (.bl true) H'
noncomputable def qS:Sp:=λvs H Q _=> ∃a g w,vs=[.ref a]/\GridAt H a g/\dM g w/\∀H',Same H H'->Q (.bl true) H'
theorem vN {H:Hp}{a:ju}{xs:List V}{lo hi:Int}(h:H a=some (.tup xs))(h1:lo<=xs.length)(h2:(xs.length:Int)<=hi):dS H lo hi (.ref a)=true:=by
 unfold dS;rw[lT h];dsimp only
 rw[CM h1,CM h2];rfl
theorem pU (xs:List α):(xs.map λ_=>true).all id=true:=by simp
noncomputable def qP:Sp:=λvs H Q _=> ∃a g w,vs=[.ref a]/\GridAt H a g/\dM g w/\∀H',Same H H'->Q .non H'
theorem B52 (F:D1 K mg "places_of_cells" rQ ["mead"])(T:Txt mg):A1 P w K mg base 1 "places_of_cells" (eT pos):=by
 refine F.k ["mead"] ?_;ac_nf
 ·obtain⟨a,g,w',rfl,⟨bs,ha,hG⟩,G,q⟩:=h;refine⟨_,aR (aY (A0f (bB rQ).names ["mead"] ["at","row","k","mark"] [] rfl (kP rfl rfl T.enumerate (bA (pv 0) aB)) rfl rfl rfl (by decide +kernel)
   (λZ=>bI rfl (aV (CZ 0 nd4) (aV (CZ 1 nd4) bH))) (λZ=>cF)
   (λZ=>kP rfl rfl T.enumerate (bA (pv 1) aB)) (λZ=>bI rfl (aV (CZ 2 nd4) (aV (CZ 3 nd4) bH)))
   (λZ=>dX (cB mP (pv 3) aU (nomark _))) (λZ=>bT (bA (pv 0) (bA (pv 2) aB))))),?_⟩
  refine⟨_,rfl,a,_,rfl,CY.of ha,λZ l hl=> ?_⟩;exact wW (f:=pos) ha hG hl G.h4 (λxs hx=>by have:=G.len xs hx;have:=G.w5;omega) (λat' k r i H' Q' hq=> ⟨_,rfl,_,_,rfl,rfl,_,rfl,hq⟩) λσ H' ps hs Ao hP=>q H' l ps hl hs Ao hP
theorem A9p (F:D1 K mg "is_row" pK ["thing"])(T:Txt mg)(a1:A1 P w K mg base 1 "is_tuple_within" iU)(a2:A1 P w K mg base 2 "is_number_within" mW):A1 P w K mg base 3 "is_row" A3g:=by
 obtain⟨t1,mCol⟩:=T.cols;obtain⟨t2,mWa⟩:=T.water;obtain⟨t3,mWo⟩:=T.worth;refine F.k ["thing"] ?_;ac_nf
 ·obtain⟨b,xs,rfl,hb,h1,h6,hn,q⟩:=h;refine⟨_,aT (bV (cX (cA (a1.c hr (bA (pv 0) (bA aU (bA (dW (v:=.int 6) rfl mCol ⟨_,rfl⟩) aB)))))) (aR (aY fH)) bU)
   (aR (aY (bD (iF rfl) rfl T.all zw (bA (bQ (bB pK).names ["thing"] ["mark"] [] rfl (cW (pv 0)) rfl rfl rfl (by decide +kernel)
    (λZ=>aJ (i:=0) (show(["mark"]:List Str).Nodup by decide +kernel) rfl (ng rfl)) (λZ=>cF)
    (λZ=>a2.c hr (bA (pv 0) (bA (dW (v:=.int (-2)) rfl mWa ⟨_,rfl⟩) (bA (dW (v:=.int 99) rfl mWo ⟨_,rfl⟩) aB))))) aB)))),?_⟩
  have hz:(xs.map V.int).length<=1000:=by rw[di];omega
  refine⟨_,rfl,.ref b,1,6,rfl,.inr (.inr ⟨_,hb,hz,λ_ _=>trivial⟩),_,rfl,?_⟩;rw[vN hb (by rw[di];omega) (by rw[di];omega)];refine bY ⟨_,rfl,b,rfl,⟨_,CY.of hb⟩,λZ l hl=> ?_⟩;refine mN (λ_=> .bl true) hb hl hz (λx H' Q' hm hs hq=> ?_) λσ H' hs Ao=> ?_
  ·obtain⟨n,hn',rfl⟩:=fm.mp hm;have:=hn n hn';refine⟨_,rfl,.int n,-2,99,rfl,trivial,?_⟩;rw[show eW (-2) 99 (.int n)=true by simp[eW,this]];exact hq _ (Same.refl _)
  ·refine⟨l,(xs.map V.int).map λ_=>true,rfl,CW.of (by rw[Ao];simp only[d7];rfl),?_⟩;rw[pU];exact q H' hs
theorem A7m (F:D1 K mg "is_mead" oN ["thing"])(T:Txt mg)(a1:A1 P w K mg base 1 "is_tuple_within" iU)(a2:A1 P w K mg base 3 "is_row" A3g)(a3:A1 P w K mg base 1 "places_of_cells" (eT pos)):A1 P w K mg base 4 "is_mead" qS:=by
 obtain⟨t1,mRow⟩:=T.rows;obtain⟨t2,mCel⟩:=T.cells;refine F.k ["thing"] ?_;ac_nf
 ·obtain⟨a,g,w',rfl,hA,G,q⟩:=h;refine⟨_,aT (bV (cX (cA (a1.c hr (bA (pv 0) (bA aU (bA (dW (v:=.int 4) rfl mRow ⟨_,rfl⟩) aB)))))) (aR (aY fH)) bU)
   (aT (bV (cX (cA (bD (iF rfl) rfl T.all zw (bA (bQ (bB oN).names ["thing"] ["row"] [] rfl (cW (pv 0)) rfl rfl rfl (by decide +kernel)
    (λZ=>aJ (i:=0) (show(["row"]:List Str).Nodup by decide +kernel) rfl (ng rfl)) (λZ=>cF) (λZ=>a2.c hr (bA (pv 0) aB))) aB)))) (aR (aY fH)) bU)
   (aT (bV (cX (cA (bD (iF rfl) rfl T.all zw (bA (bQ (bB oN).names ["thing"] ["row"] [("thing",0)] rfl (cW (pv 0)) rfl rfl rfl (by decide +kernel)
    (λZ=>aJ (i:=0) (show(["row","thing"]:List Str).Nodup by decide +kernel) rfl (ng rfl)) (λZ=>cF)
    (λZ=>eX fN (bD eJ rfl T.len m9 (bA (pv 0) aB)) (bD eJ rfl T.len m9 (bA (bK cD (pv 1) aU (λ_ _=>rfl)) aB)) (nomark _))) aB)))) (aR (aY fH)) bU)
   (aR (aY (tN jJ jJ aU (bD eJ rfl T.len m9 (bA (a3.c hr (bA (pv 0) aB)) aB)) (dW (v:=.int 10) rfl mCel ⟨_,rfl⟩)))))),?_⟩
  obtain⟨bs,ha,hG⟩:=id hA;have hbl:bs.length=g.length:=Paired.length hG;have h4:=G.h4;have h1:=G.h1;have w5:=G.w5;have hz:(bs.map V.ref).length<=1000:=by rw[di];omega
  refine⟨_,rfl,.ref a,1,4,rfl,.inr (.inr ⟨_,ha,hz,λ_ _=>trivial⟩),_,rfl,?_⟩;rw[vN ha (by rw[di];omega) (by rw[di];omega)];refine bY ⟨_,rfl,a,rfl,⟨_,CY.of ha⟩,λZ l hl=> ?_⟩;have row:∀x∈bs.map V.ref,∃b xs,x= .ref b/\H b=some (.tup ((xs:List Int).map V.int))/\xs∈g:=λx hx=>by
   obtain⟨b,hb,rfl⟩:=fm.mp hx;obtain⟨i,hi⟩:=fk.mp hb;obtain⟨xs,h1,h2⟩:=hG.row hi;exact⟨b,xs,rfl,h2,fq h1⟩
  refine mN (λ_=> .bl true) ha hl hz (λx H' Q' hm hs hq=> ?_) λσ H1 s1 hl1=> ?_
  ·obtain⟨b,xs,rfl,hb,hx⟩:=row x hm;have:=G.len xs hx;have:=G.w1;exact⟨_,rfl,b,xs,rfl,hs _ _ hb,by omega,by omega,G.num xs hx,λH3 s3=>hq H3 s3⟩
  ·refine⟨l,(bs.map V.ref).map λ_=>true,rfl,CW.of (by rw[hl1];simp only[d7];rfl),_,rfl,?_⟩;rw[pU];refine bY ⟨_,rfl,a,rfl,⟨_,CY.of (s1 _ _ ha)⟩,λZ2 l2 Cz=> ?_⟩;refine mN (rest:=[some (.ref a)]) (λ_=> .bl true) (s1 _ _ ha) Cz hz (λx H' Q' hm hs hq=> ?_) λσ H2 s2 hl2'=> ?_
   ·obtain⟨b,xs,rfl,hb,hx⟩:=row x hm;obtain⟨xs0,e0⟩:∃xs0,g[0]?=some xs0:=⟨g[0],cx (by omega)⟩;obtain⟨b0,hb0,eb0⟩:=hG.get e0;have sH:=s1.trans hs;refine⟨_,rfl,b,_,rfl,.inr (CY.of (sH _ _ hb)),_,rfl,a,_,0,.ref b0,rfl,rfl,CY.of (sH _ _ ha),cK (j:=0) (by rw[cy,hb0];rfl),b0,_,rfl,.inr (CY.of (sH _ _ eb0)),rfl,?_⟩;rw[CM (by rw[di,di,G.len xs hx,G.len xs0 (fq e0)])];exact hq _ (Same.refl _)
   ·refine⟨l2,(bs.map V.ref).map λ_=>true,rfl,CW.of (by rw[hl2'];simp only[d7];rfl),_,rfl,?_⟩;rw[pU];have s12:=s1.trans s2;refine bY ⟨_,rfl,a,g,w',rfl,hA.same s12,G,λH3 l3 ps hl3' s3 hl3 hP=> ?_⟩;have hp:ps.length=_:=Paired.length hP;rw[eD]at hp;have c1:=G.c1;have c10:=G.c10;refine⟨l3,_,rfl,.inl (CW.of hl3),_,_,rfl,rfl,_,rfl,dY (λz=> ?_) λz=>absurd ?_ z⟩
    ·refine⟨_,_,rfl,rfl,?_⟩;dsimp only
     rw[CM (show(((ps.map V.ref).length:Nat):Int)<=10 by rw[di];omega)];exact q H3 (s12.trans s3)
    ·rw[di];omega
theorem A6u (F:D1 K mg "check_mead" wB ["mead"])(aI:A1 P w K mg base 4 "is_mead" qS):A1 P w K mg base 5 "check_mead" qP:=by
 refine F.k ["mead"] ?_;ac_nf
 ·obtain⟨a,g,w',rfl,hA,G,q⟩:=h;refine⟨_,aR (bV (cX (cA (aI.c hr (aD (pv 0) aB)))) gJ bU),?_⟩;exact⟨_,rfl,a,g,w',rfl,hA,G,λH' hs=> ⟨_,rfl,bY (q H' hs)⟩⟩
theorem A35 (F:D1 K mg "cells_of" yI ["mead"])(aC:A1 P w K mg base 5 "check_mead" qP)(aP:A1 P w K mg base 1 "places_of_cells" (eT pos)):A1 P w K mg base 6 "cells_of" (eT pos):=by
 refine F.k ["mead"] ?_;ac_nf
 ·obtain⟨a,g,w',rfl,hA,G,q⟩:=h;refine⟨_,aT (dP (aC.c hr (aD (pv 0) aB)))<|aR (aY (aP.c hr (aD (pv 0) aB))),?_⟩;refine⟨_,rfl,a,g,w',rfl,hA,G,λH1 s1=> ?_⟩;exact⟨_,rfl,a,g,w',rfl,hA.same s1,G,λH2 l ps hl s2 Ao hP=>q H2 l ps (s1.free hl) (s1.trans s2) Ao hP⟩
theorem B4r (F:D1 K mg "roads_of" tP ["mead"])(T:Txt mg)(T2:dZ mg)(aC:A1 P w K mg base 5 "check_mead" qP):A1 P w K mg base 6 "roads_of" (eT road):=by
 obtain⟨tR,mR⟩:=T2.road;refine F.k ["mead"] ?_;ac_nf
 ·obtain⟨a,g,w',rfl,hA,G,q⟩:=h;refine⟨_,aT (dP (aC.c hr (aD (pv 0) aB)))<|aR (aY (A0f (bB tP).names ["mead"] ["at","row","k","mark"] [] rfl (kP rfl rfl T.enumerate (bA (pv 0) aB)) rfl rfl rfl (by decide +kernel)
   (λZ=>bI rfl (aV (CZ 0 nd4) (aV (CZ 1 nd4) bH))) (λZ=>cF)
   (λZ=>kP rfl rfl T.enumerate (bA (pv 1) aB)) (λZ=>bI rfl (aV (CZ 2 nd4) (aV (CZ 3 nd4) bH)))
   (λZ=>dX (cB fN (pv 3) (dW (v:=.int (-1)) rfl mR ⟨_,rfl⟩) (nomark _))) (λZ=>bT (bA (pv 0) (bA (pv 2) aB))))),?_⟩
  refine⟨_,rfl,a,g,w',rfl,hA,G,λH1 s1=> ?_⟩;obtain⟨bs,ha,hG⟩:=hA.same s1;refine⟨_,rfl,a,_,rfl,CY.of ha,λZ l hl=> ?_⟩;refine wW (f:=road) ha hG hl G.h4 (λxs hx=>by have:=G.len xs hx;have:=G.w5;omega) (λat' k r i H' Q' hq=> ⟨_,rfl,rfl,_,rfl,?_⟩) λσ H' ps hs Ao hP=>q H' l ps (s1.free hl) (s1.trans hs) Ao hP;have e:decide (V.int i=V.int (-1))=road i:=by
   unfold road;rw[k6];simp
  rw[e];exact hq
noncomputable def wS:Sp:=λvs H Q _=> ∃a l g w ps,vs=[.ref a,.ref l]/\GridAt H a g/\dM g w/\H l=some (.lst ((ps:List ju).map V.ref))/\PlAt H ps (aQ pos g)/\∀H',Same H H'->Q (.int (bP g)) H'
theorem nM:(["row","column","mead"]:List Str).Nodup:=by decide +kernel
theorem A77 (F:D1 K mg "worth_together" mQ ["mead","places"])(T2:dZ mg):A1 P w K mg base 1 "worth_together" wS:=by
 refine F.k ["mead","places"] λnd f cdv A outer s H2 vs Q E hr h=> ?_
 ·obtain⟨a,l,g,w',ps,rfl,hA,G,Ao,hP,q⟩:=h;refine⟨_,aR (aY (bD (A29 rfl) rfl T2.sum boot_sum (cY (bQ (bB mQ).names ["mead","places"] ["row","column"] [("mead",0)] rfl (cR (pv 1)) rfl rfl rfl (by decide +kernel)
    (λZ=>bI rfl (aV (CZ 0 nM) (aV (CZ 1 nM) bH))) (λZ=>cF) (λZ=>bK cD (bK cD (pv 2) (pv 0) (λ_ _=>rfl)) (pv 1) (λ_ _=>rfl))) aB))),?_⟩
  have s12:Same H2 H2:=Same.refl H2;refine⟨_,rfl,?_⟩;have hpl:ps.length=(aQ pos g).length:=Paired.length hP;have h20:ps.length<=10:=by rw[hpl,eD];exact G.c10
  refine⟨l,rfl,⟨_,CW.of Ao⟩,λZ l3 hl3=> ?_⟩;refine eU (K:=K) (a:=l) (xs:=ps.map V.ref) (λi σ H'=>(∃o1 o2,σ=[o1,o2,some (.ref a)])/\Same H2 H'/\H' l3=some (.lst ((((aQ pos g).take i).map (atG g)).map V.int))) ⟨⟨_,_,rfl⟩,aK hl3,by rw[aG];rfl⟩ (λi σ H' _ h=>CW.of (h.2.1 _ _ Ao)) ?_ ?_
  ·rintro i x σ H' hi ⟨⟨o1,o2,rfl⟩,hs,hl3'⟩;obtain⟨p,hpi,rfl⟩:∃p,ps[i]?=some p/\V.ref p=x:=by
    rw[cy]at hi;cases e:ps[i]? with
    |none=>rw[e]at hi;cases hi
    |some p=>rw[e]at hi;exact⟨p,rfl,j7 hi⟩
   have hil:i<ps.length:=(CL.mp hpi).1;obtain⟨cc,hci,hpc⟩:∃cc,(aQ pos g)[i]?=some cc/\H2 p=some (.tup [.int cc.1,.int cc.2]):=by
    have go:∀{ps:List ju}{cs:List (Int×Int)}{i:Nat}{p:ju},PlAt H2 ps cs->ps[i]?=some p->∃cc,cs[i]?=some cc/\H2 p=some (.tup [.int cc.1,.int cc.2]):=by
     intro ps cs i p h
     induction h generalizing i with
     |nil=>intro z;simp at z
     |cons r t ih=>
      intro z;cases i with
      |zero=>cases z;exact⟨_,rfl,r⟩
      |succ i=>exact ih (by simpa using z)
    exact go hP hpi
   obtain⟨i',j',xs,n,rfl,hg,hx,hf⟩:=mem_gridF.mp (fq hci);obtain⟨bs,b,h1,h2,h3,h4⟩:=(hA.same (s12.trans hs)).ix hg hx;refine⟨p,_,rfl,CY.of (hs _ _ hpc),rfl,_,_,rfl,_,_,rfl,rfl,?_⟩;refine gX ?_;refine⟨_,rfl,_,rfl,a,_,_,_,rfl,rfl,CY.of h1,h2,_,rfl,b,_,_,_,rfl,rfl,CY.of h3,h4,?_⟩;refine⟨_,hl3',cO (by rw[di,di,du];omega),⟨_,_,rfl⟩,λb' u e'=> ?_,?_⟩
   ·rw[aN (bG e' hl3)];exact hs _ _ e'
   ·rw[aG,iu,hci,dz,dz];show some (HO.lst (_++[V.int n]))=some (HO.lst (_++[V.int (atG g ((i':Int),(j':Int)))]));rw[jN hg hx]
  ·rintro σ H' ⟨_,hs,hl3'⟩;rw[di,hpl,iq (CT _)]at hl3';refine⟨l3,_,rfl,CW.of hl3',by rw[di,←hpl];omega,λn hn=> ?_,?_⟩
   ·rw[tU]at hn;obtain⟨ys,hy,hny⟩:=fi.mp hn;obtain⟨xs,hxg,rfl⟩:=fm.mp hy;have:=G.num xs hxg n (ff.mp hny).1;omega
   ·rw[A1x];exact q H' (s12.trans hs)
noncomputable def tM:Sp:=λvs H Q _=> ∃p c,vs=[.ref p]/\C4 H p c/\∀l qs H',H l=none->Same H H'->H' l=some (.lst ((qs:List ju).map V.ref))->PlAt H' qs (beside c)->Q (.ref l) H'
noncomputable abbrev nBs:List Str:=["place","row","column"]
theorem A87 (F:D1 K mg "places_beside" yA ["place"]):A1 P w K mg base 1 "places_beside" tM:=by
 refine F.k nBs ?_;ac_nf
 ·obtain⟨p,c,rfl,hp,q⟩:=h;refine⟨_,B31 (cQ (pv 0) (bI rfl (aV (CZ 1 nd) (aV (CZ 2 nd) bH))))<|
   B0q (lstq (lZ (tupq (kQ (bC iI (pv 1) aU) (nD (pv 2) cT))) (lZ (tupq (nD (pv 1) (kQ (bC iI (pv 2) aU) cT))) (lZ (tupq (nD (pv 1) (kQ (bC dG (pv 2) aU) cT))) (lZ (tupq (kQ (bC dG (pv 1) aU) (nD (pv 2) cT))) cT))))),?_⟩
  refine⟨_,rfl,p,_,rfl,CY.of hp,rfl,_,_,rfl,_,_,rfl,rfl,?_⟩;dsimp only
  refine A7g ?_;refine⟨_,rfl,_,_,rfl,rfl,_,rfl,by show 2<=jv;decide,λp1 h1=> ?_⟩;have s1:=aK (o:=.tup [.int (c.1 - 1),.int c.2]) h1;refine⟨_,rfl,_,rfl,_,_,rfl,rfl,by show 2<=jv;decide,λp2 h2=> ?_⟩;have s2:=aK (o:=.tup [.int c.1,.int (c.2 - 1)]) h2;refine⟨_,rfl,_,rfl,_,_,rfl,rfl,by show 2<=jv;decide,λp3 h3=> ?_⟩;have s3:=aK (o:=.tup [.int c.1,.int (c.2+1)]) h3;refine⟨_,rfl,_,_,rfl,rfl,_,rfl,by show 2<=jv;decide,λp4 h4=> ?_⟩;have s4:=aK (o:=.tup [.int (c.1+1),.int c.2]) h4;refine⟨by show 4<=jv;decide,λl hl=> ?_⟩;have s5:=aK (o:=.lst [.ref p1,.ref p2,.ref p3,.ref p4]) hl;have s14:=((s1.trans s2).trans s3).trans s4;exact q l [p1,p2,p3,p4] _ (s14.free hl) (s14.trans s5) aG (.cons (s5 _ _ (s4 _ _ (s3 _ _ (s2 _ _ aG)))) (.cons (s5 _ _ (s4 _ _ (s3 _ _ aG))) (.cons (s5 _ _ (s4 _ _ aG)) (.cons (s5 _ _ aG) .nil))))
theorem A7q (h:PlAt H ps cs)(h':PlAt H qs ds):PlAt H (ps++qs) (cs++ds):=by
 induction h with
 |nil=>exact h'
 |cons r t ih=>exact .cons r ih
end
theorem LandOf.len (G:dM g w)(h:LandOf g cs):cs.length<=10:=by have:=Cn.length_le h;rw[eD]at this;have:=G.c10;omega
noncomputable def unP (l:List Int):Pl:=(l.getD 0 0,l.getD 1 0)
theorem B2w {X:Cx}{H:Hp}{l:ju}{qs:List ju}{R:List Pl}{Q:VK}(hl:H l=some (.lst (qs.map V.ref)))(hP:PlAt H qs R)(h40:R.length<=40)(q:∀l9 qs' R' H',H l9=none->Same H H'->H' l9=some (.lst ((qs':List ju).map V.ref))->PlAt H' qs' R'->R'.Perm R->R'.Pairwise (λa b=>HT.lexLt [b.1,b.2] [a.1,a.2]=false)->Q (.ref l9) H'):
  ∃(p:ju)(zs:List (ju×List Int)),[V.ref l]=[.ref p]/\CW X.K H p (zs.map λz=>V.ref z.1)/\(∀z∈zs,H z.1=some (.tup (z.2.map V.int))/\z.2≠[])/\zs.length<64/\∀l Cv,H l=none->oC zs Cv->Q (.ref l) (upd H l (.lst (Cv.map λz=>V.ref z.1))):=by
 have hzz:∀{qs:List ju}{R:List Pl},PlAt H qs R->∃zs:List (ju×List Int),(zs.map λz=>z.1)=qs/\(zs.map λz=>z.2)=R.map (λs=> [s.1,s.2])/\∀z∈zs,H z.1=some (.tup (z.2.map V.int))/\z.2≠[]:=fun{qs R} h=>by
  induction h with
  |nil=>exact⟨[],rfl,rfl,λz hz=>by cases hz⟩
  |cons r t ih=>
   rename_i q s _ _;obtain⟨zs,i1,i2,i3⟩:=ih;refine⟨(q,[s.1,s.2])::zs,by rw[d6,i1],by rw[d6,i2];rfl,λz hz=> ?_⟩;rcases fe.mp hz with e|e
   ·rw[e];exact⟨r,by simp⟩
   ·exact i3 z e
 obtain⟨zs,i1,i2,i3⟩:=hzz hP;have un:∀z∈zs,∃s:Pl,z.2=[s.1,s.2]/\unP z.2=s:=λz hz=>by
  have e2:z.2∈zs.map λz=>z.2:=fm.mpr ⟨z,hz,rfl⟩;rw[i2]at e2;obtain⟨s,_,es⟩:=fm.mp e2;exact⟨s,es.symm,by rw[←es];rfl⟩
 have hzl:zs.length<=40:=by
  have h1:=congrArg pk i2;rw[di,di]at h1;omega
 refine⟨l,zs,rfl,CW.of (by rw[hl,←i1,d7];rfl),i3,by omega,λl9 Cv hl9 so=> ?_⟩;have s9:=aK (o:=.lst (Cv.map λz=>V.ref z.1)) hl9;refine q l9 (Cv.map λz=>z.1) (Cv.map λz=>unP z.2) _ hl9 s9 (by rw[aG,d7];rfl) ?_ ?_ ?_
 ·have key:∀ys:List (ju×List Int),(∀z∈ys,z∈zs)->PlAt (upd H l9 (.lst (Cv.map λz=>V.ref z.1))) (ys.map λz=>z.1) (ys.map λz=>unP z.2):=λys=>by
   induction ys with
   |nil=>intro _;exact .nil
   |cons z ys ih=>
    intro hm;refine .cons ?_ (ih λy hy=>hm y (CP _ hy));have hz:=hm z CQ;obtain⟨s,e1,e2⟩:=un z hz;show C4 _ z.1 (unP z.2);rw[e2];have:=(i3 z hz).1;rw[e1]at this;exact s9 _ _ this
  exact key Cv λz hz=>so.1.mem_iff.mp hz
 ·have h1:=(so.1.map λz=>z.2).map unP;rw[i2,d7,d7]at h1;refine h1.trans (xf ?_);have:(unP∘λs:Pl=> [s.1,s.2])=id:=rfl;rw[this,map_id]
 ·rw[gv];refine so.2.imp_of_mem fun{a b} ha hb hab=> ?_;obtain⟨s,e1,e2⟩:=un a (so.1.mem_iff.mp ha);obtain⟨s',e1',e2'⟩:=un b (so.1.mem_iff.mp hb);rw[e1,e1']at hab;rw[e2,e2'];exact hab
noncomputable def xK:Sp:=λvs H Q _=> ∃t p cs c,vs=[.ref t,.ref p]/\C1 H t cs/\cs.length<=10/\C4 H p c/\c∈cs/\∀t' P H',Same H H'->C1 H' t' P->rV cs c P->Q (.ref t') H'
section
variable {P:j9}{w:kl}{K:W.Frag}{mg:Str->Option jt}{base:kj}
noncomputable abbrev nPr:List Str:=["land","start","reached","at","beside"]
theorem A5b:(["place","land","reached"]:List Str).Nodup:=by decide +kernel
theorem B4v (F:D1 K mg "piece_round" nH ["land","start"])(T:Txt mg)(T2:dZ mg)(a1:A1 P w K mg base 1 "places_beside" tM):A1 P w K mg base 2 "piece_round" xK:=by
  refine F.k nPr ?_;ac_nf
  · obtain⟨t,pa,cs,c,rfl,hT,h10,hp,hc,q⟩:=h
    refine⟨_,aT (bJ (i:=2) nd rfl (qr rfl) (cZ (aD (pv 1) aB)))<|
      aT (bJ (i:=3) nd rfl (ng rfl) aU)<|
      aT (uX k9 (cB oX (pv 3) (bD eJ rfl T.len m9 (aD (pv 2) aB)) (nomark _))
        (aT (bJ (i:=4) nd rfl (ng rfl) (a1.c hr (fE (bK fG (pv 2) (pv 3) (λ_ _=>rfl)) aB)))<|
         aT (dP (iV ow Ay Az A14 (pv 2) (cY (bQ (bB nH).names nPr ["place"] [("land",0),("reached",2)] rfl (cR (pv 4)) rfl rfl rfl (by decide +kernel)
            (λZ=>CZ 0 A5b) (λZ=>dX (PW.pt (pT (cB (oK 1 (dI hr)) (pv 0) (pv 1) rfl) (uT (cB (nY 1 (dI hr)) (pv 0) (pv 2) rfl))))) (λZ=>pv 0)) aB)))<|
         aR (B2i (i:=3) nd rfl (ng rfl) aU A42)))<|
      aR (aY (eP gW rfl T.tuple r6 (bM (bD wN rfl T2.sorted Aq (aD (pv 2) aB)) aB))),?_⟩
    obtain⟨ts,ht,hP⟩:=hT;refine⟨_,rfl,by show 1<=jv;decide,λlr hlr=> ?_⟩;have s0:=aK (o:=.lst [.ref pa]) hlr;refine⟨λm σ H'=> ∃k o qs R,m+k=10/\σ=[some (.ref t),some (.ref pa),some (.ref lr),some (.int (k:Nat)),o]/\Same H H'/\H' lr=some (.lst ((qs:List ju).map V.ref))/\PlAt H' qs R/\Rch cs c R k,
      ⟨10,0,_,[pa],[c],rfl,rfl,s0,aG,.cons (s0 _ _ hp) .nil,Rch.start hc⟩,?_⟩
    rintro m σ H' ⟨k,o,qs,R,hm,rfl,hs,hlr',hR,rc⟩;have hqR:qs.length=R.length:=Paired.length hR;have hRl:=rc.len;refine⟨_,rfl,_,rfl,lr,_,rfl,.inl (CW.of hlr'),_,_,rfl,rfl,_,rfl,dY (λz=> ?_) λz=> ?_⟩
    · rw[di,hqR]at z
      have hk:k<R.length:=by omega
      have hkq:k<qs.length:=by omega
      have hqk:qs[k]?=some (qs[k]):=cx hkq;obtain⟨x,hx,he⟩:=hR.at hqk;refine⟨λσ' H2=> ∃o qs',σ'=[some (.ref t),some (.ref pa),some (.ref lr),some (.int ((k+1:Nat):Int)),o]/\Same H H2/\H2 lr=some (.lst ((qs':List ju).map V.ref))/\PlAt H2 qs' (R++nb cs R x),
        λσ' H2 ⟨o,qs',h1,h2,h3,h4⟩=> ⟨m - 1,by omega,k+1,o,qs',_,by omega,h1,h2,h3,h4,rc.step hx⟩,?_⟩
      refine⟨_,rfl,_,rfl,lr,_,_,_,rfl,rfl,CW.of hlr',cK (v:=V.ref qs[k]) (by rw[cy,hqk];rfl),?_⟩;refine⟨qs[k],x,rfl,he,λlb bs H2 hlb s2 hlb2 hB=> ?_⟩;have hR2:=hR.same s2;have hlr2:=s2 _ _ hlr';have hP2:=(hP.same hs).same s2;have ht2:=s2 _ _ (hs _ _ ht);have hb4:bs.length=4:=Paired.length hB;refine⟨_,rfl,.inl ⟨rfl,_,CW.of hlr2⟩,?_⟩;refine⟨_,rfl,lb,rfl,⟨_,CW.of hlb2⟩,λZ ln hln=> ?_⟩;refine eU (K:=K) (a:=lb) (xs:=bs.map V.ref) (λj σ H3=>(∃o,σ=[o,some (.ref t),some (.ref lr)])/\Same H2 H3/\∃ns,H3 ln=some (.lst ((ns:List ju).map V.ref))/\PlAt H3 ns (((beside x).take j).filter λy=>decide (y∈cs)&& !decide (y∈R)))
        ⟨⟨_,rfl⟩,aK hln,[],by rw[aG];rfl,.nil⟩ (λj σ H3 _ h=>CW.of (h.2.1 _ _ hlb2)) ?_ ?_
      · rintro j y σ H3 hy ⟨⟨o',rfl⟩,hs3,ns,hn,hN⟩
        obtain⟨b,hbj,rfl⟩:=eY hy;obtain⟨d,hd,hbd⟩:=hB.at hbj;have hj:j<4:=(CL.mp hd).1;have hbd3:=hs3 _ _ hbd;have hnl:ns.length<=4:=by
          have h1:ns.length=_:=Paired.length hN;have h2:=dh (λy=>decide (y∈cs)&& !decide (y∈R)) ((beside x).take j);rw[du]at h2;omega
        have et:((beside x).take (j+1)).filter (λy=>decide (y∈cs)&& !decide (y∈R))=((beside x).take j).filter (λy=>decide (y∈cs)&& !decide (y∈R))++(if (decide (d∈cs)&& !decide (d∈R))=true then [d]else []):=by
          rw[iu,hd,bg]
          congr 1
          cases e:(decide (d∈cs)&& !decide (d∈R))
          · simp[e]
          · simp[e]
        rw[et];show cL _ _ _ [some (.ref b),some (.ref t),some (.ref lr)] H3;refine⟨_,rfl,_,rfl,t,_,_,rfl,.inl (hs3 _ _ ht2),iM hbd3 (hP2.same hs3),_,rfl,?_⟩;rw[A20];refine fB (λz1'=> ?_) λz1'=> ?_
        · have z1:d∈cs:=by simpa using z1'
          refine⟨_,rfl,_,rfl,lr,_,_,rfl,.inr (hs3 _ _ hlr2),iM hbd3 (hR2.same hs3),_,rfl,?_⟩;rw[A20];refine fB (λz2'=> ?_) λz2'=> ?_
          · have z2:d∉R:=by simpa using z2'
            rw[if_pos (by rw[CM z1,CN z2];rfl)];refine⟨_,rfl,_,hn,cO (by rw[di];omega),⟨_,rfl⟩,λb' u e'=> ?_,ns++[b],?_,?_⟩
            · rw[aN (bG e' hln)];exact hs3 _ _ e'
            · rw[aG,dz];rfl
            · exact PlAt.snoc (Paired.mapP hN λ_ _ z=>C4.put hn z) (C4.put hn hbd3)
          · have z2:d∈R:=by simpa using z2'
            rw[if_neg (by rw[CM z2];simp),ak];exact⟨⟨_,rfl⟩,hs3,ns,hn,hN⟩
        · have z1:d∉cs:=by simpa using z1'
          rw[if_neg (by rw[CN z1];simp),ak];exact⟨⟨_,rfl⟩,hs3,ns,hn,hN⟩
      · rintro σ H3 ⟨⟨o',rfl⟩,hs3,ns,hn,hN⟩
        rw[di,hb4]at hN;have hN':PlAt H3 ns (nb cs R x):=hN;have hnl:ns.length<=4:=by
          have h1:ns.length=(nb cs R x).length:=Paired.length hN';have h2:(nb cs R x).length<=(beside x).length:=dh _ _;have h3:(beside x).length=4:=rfl;omega
        have hlr3:=hs3 _ _ hlr2;refine⟨lr,ln,_,_,rfl,rfl,hlr3,hn,by rw[di,di,ko];omega,?_⟩;refine⟨_,rfl,_,_,rfl,rfl,⟨_,qs++ns,rfl,λb' u e'=> ?_,by rw[aG,dz],?_⟩⟩
        · rw[aN (bG e' hlr)];exact hs3 _ _ (s2 _ _ (hs _ _ e'))
        · exact A7q (Paired.mapP (hR2.same hs3) λ_ _ z=>C4.put hlr3 z) (Paired.mapP hN' λ_ _ z=>C4.put hlr3 z)
    · rw[di,hqR]at z
      refine⟨_,rfl,?_⟩;refine B2w (X:=(fK CX0 P w K mg base nPr (qi "piece_round") (bB nH) f cdv A outer s H E).nox) (Q:=λv H1=> ∃p ys,[v]=[V.ref p]/\((CW K H1 p ys/\∀l,H1 l=none->Q (.ref l) (upd H1 l (.tup ys)))\/(CY K H1 p ys/\Q (.ref p) H1))) hlr' hR (by omega) λl9 qs' R' H9 h9 s9 hl9 hR9 pm up=> ?_;refine⟨l9,_,rfl,.inl ⟨CW.of hl9,λt' ht'=> ?_⟩⟩;have s10:=aK (o:=.tup (qs'.map V.ref)) ht';exact q t' R' _ ((hs.trans s9).trans s10) ⟨qs',aG,hR9.same s10⟩ (rc.fin (by omega) pm up)
theorem A2e:(["one","other"]:List Str).Nodup:=by decide +kernel
theorem pZ:qu "any" =some (.builtin "any"):=by decide +kernel
theorem kM (l:List (Int×Int))(x:Int×Int):(l.map λc=>decide (c=x)).any id=decide (x∈l):=by rw[k6,ai];simp
noncomputable def wF:Sp:=λvs H Q _=> ∃t cs,vs=[.ref t]/\C1 H t cs/\cs.length<=10/\∀b H',Same H H'->A0s cs b->Q (.bl b) H'
theorem A7i (F:D1 K mg "is_one_piece" yG ["land"])(a1:A1 P w K mg base 2 "piece_round" xK):A1 P w K mg base 3 "is_one_piece" wF:=by
 refine F.k ["land"] ?_;ac_nf
 ·obtain⟨t,cs,rfl,hT,h10,q⟩:=h;obtain⟨ps,ht,hP⟩:=id hT;have ue:ps.length=cs.length:=Paired.length hP;refine⟨_,aR (aY (hJ (eX (A34 (jg (dI hr))) (pv 0) (bT aB) (nomark _)) (gT (eX (vZ (dI hr)) (a1.c hr (aD (pv 0) (fE (bK cD (pv 0) aU (λ_ _=>rfl)) aB))) (pv 0) (nomark _))))),?_⟩;refine⟨_,rfl,by show 0<=jv;decide,λz hz=> ?_⟩;have s1:=aK (o:=.tup []) hz;refine⟨t,z,_,rfl,rfl,s1 _ _ ht,aG,_,rfl,?_⟩;cases hc:cs with
  |nil=>
   have e:ps=[]:=ay (by rw[ue,hc];rfl);subst e;exact q false _ s1 (.inl ⟨hc,rfl⟩)
  |cons c0 tl=>
   rw[hc]at hP;cases hP with
   |cons r0 t0=>
    rename_i p0 ps0;refine fY ?_;refine⟨_,rfl,_,rfl,t,_,0,.ref p0,rfl,rfl,CY.of (s1 _ _ ht),cK (j:=0) rfl,?_⟩;refine⟨t,p0,cs,c0,rfl,hT.same s1,h10,s1 _ _ r0,by rw[hc];exact CQ,λt' P0 H2 s2 hP0 p0=> ?_⟩;refine⟨_,rfl,t',t,P0,cs,rfl,rfl,hP0,hT.same (s1.trans s2),?_⟩;exact q _ H2 (s1.trans s2) (.inr ⟨c0,tl,P0,hc,p0,rfl⟩)
noncomputable def cM (g:bE)(cs:List Pl):Int:=(cs.map (atG g)).sum
noncomputable def fM (g:bE)(c:Pl):Bool:=(beside c).any λd=>decide (d∈aQ road g)
noncomputable def A0u:Sp:=λvs H Q _=> ∃a g w,vs=[.ref a]/\GridAt H a g/\dM g w/\∀H' l ps,H l=none->Same H H'->H' l=some (.lst ((ps:List ju).map V.ref))->PlAt H' ps ((aQ pos g).filter (fM g))->Q (.ref l) H'
noncomputable def A1j:Sp:=λvs H Q _=> ∃t l cs ps ds,vs=[.ref t,.ref l]/\C1 H t cs/\cs.length<=1000/\H l=some (.lst ((ps:List ju).map V.ref))/\PlAt H ps ds/\∀H',Same H H'->Q (.bl (cs.any λc=>decide (c∈ds))) H'
noncomputable def A3i:Sp:=λvs H Q _=> ∃a t g w cs,vs=[.ref a,.ref t]/\GridAt H a g/\dM g w/\C1 H t cs/\LandOf g cs/\∀H',Same H H'->Q (.int (cM g cs)) H'
theorem B1u:(["cell","cells"]:List Str).Nodup:=by decide +kernel
theorem B1x (F:D1 K mg "has_some_of" qV ["land","cells"])(T2:dZ mg):A1 P w K mg base 1 "has_some_of" A1j:=by
 refine F.k ["land","cells"] ?_;ac_nf
 ·obtain⟨t,lc,cs,qs,ds,rfl,⟨ps,ht,hP⟩,hz,hlc,hD,q⟩:=h;have ue:ps.length=cs.length:=Paired.length hP;refine⟨_,aR (aY (bD (tD rfl) rfl T2.any pZ (cY (bQ (bB qV).names ["land","cells"] ["cell"] [("cells",1)] rfl (cW (pv 0)) rfl rfl rfl (by decide +kernel)
   (λZ=>CZ 0 B1u) (λZ=>cF) (λZ=>eX (oK 1 (dI hr)) (pv 0) (pv 1) rfl)) aB))),?_⟩
  refine⟨_,rfl,t,rfl,⟨_,CY.of ht⟩,λZ l hl=> ?_⟩;refine gC (K:=K) (a:=t) (xs:=ps.map V.ref) (λi σ H'=>(∃o,σ=[o,some (.ref lc)])/\Same H H'/\H' l=some (.lst ((cs.take i).map λc=>V.bl (decide (c∈ds))))) ⟨⟨_,rfl⟩,aK hl,by rw[aG];rfl⟩ (λi σ H' _ h=>CY.of (h.2.1 _ _ ht)) ?_ ?_
  ·rintro i x σ H' hx ⟨⟨o,rfl⟩,hs,Ao⟩;obtain⟨p,hp,rfl⟩:=eY hx;obtain⟨c,hc,he⟩:=hP.at hp;have hi:i<cs.length:=(CL.mp hc).1;show cL _ _ _ [some (.ref p),some (.ref lc)] H';refine⟨_,rfl,_,rfl,lc,_,_,rfl,.inr (hs _ _ hlc),iM (hs _ _ he) (hD.same hs),?_⟩;rw[kM];refine⟨_,Ao,cO (by rw[di,du];omega),⟨_,rfl⟩,λb' u e'=> ?_,?_⟩
   ·rw[aN (bG e' hl)];exact hs _ _ e'
   ·rw[aG,iu,hc,dz];rfl
  ·rintro σ H' ⟨_,hs,Ao⟩;rw[di,ue,iq (CT _)]at Ao;refine⟨l,cs.map λc=>decide (c∈ds),rfl,CW.of (by rw[Ao,d7];rfl),?_⟩;have e:(cs.map λc=>decide (c∈ds)).any id=cs.any λc=>decide (c∈ds):=by rw[ai];rfl
   rw[e];exact q H' hs
theorem B1k:(["cell","roads"]:List Str).Nodup:=by decide +kernel
theorem A49:(["place","roads"]:List Str).Nodup:=by decide +kernel
theorem A4n (F:D1 K mg "cells_at_road" qZ ["mead"])(T2:dZ mg)(a1:A1 P w K mg base 6 "roads_of" (eT road))(a2:A1 P w K mg base 6 "cells_of" (eT pos))(a3:A1 P w K mg base 1 "places_beside" tM):A1 P w K mg base 7 "cells_at_road" A0u:=by
 refine F.k ["mead","roads"] ?_;ac_nf
 ·obtain⟨a,g,w',rfl,hA,G,q⟩:=h;refine⟨_,aT (bJ (i:=1) nd rfl (qr rfl) (a1.c hr (aD (pv 0) aB)))<|
   aR (aY (bQ (bB qZ).names ["mead","roads"] ["cell"] [("roads",1)] rfl (cR (a2.c hr (aD (pv 0) aB))) rfl rfl rfl (by decide +kernel)
    (λZ=>CZ 0 B1k) (λZ=>dX (cA (bD (tD rfl) rfl T2.any pZ (cY (bQ [(".0",.local),("cell",.local),("any",.globalImplicit),("places_beside",.globalImplicit),("roads",.cell)] ["cell","roads"] ["place"] [("roads",1)] rfl (cR (a3.c hr (aD (pv 0) aB))) rfl rfl rfl (by decide +kernel)
      (λZ=>CZ 0 A49) (λZ=>cF) (λZ=>eX (oK 1 (dI hr)) (pv 0) (pv 1) rfl)) aB)))) (λZ=>pv 0))),?_⟩
  refine⟨_,rfl,a,g,w',rfl,hA,G,λH1 lr rs hlr s1 hlr' hR=> ?_⟩;refine⟨_,rfl,a,g,w',rfl,hA.same s1,G,λH2 lc cs hlc s2 hlc' hC=> ?_⟩;refine⟨lc,rfl,⟨_,CW.of hlc'⟩,λZ l hl=> ?_⟩;have hcl:cs.length=(aQ pos g).length:=Paired.length hC;have h10:(aQ pos g).length<=10:=by rw[eD];exact G.c10
  have hlr2:=s2 _ _ hlr';have hR2:=hR.same s2;refine eU (K:=K) (a:=lc) (xs:=cs.map V.ref) (λi σ H'=>(∃o,σ=[o,some (.ref lr)])/\Same H2 H'/\∃ns,H' l=some (.lst ((ns:List ju).map V.ref))/\PlAt H' ns (((aQ pos g).take i).filter (fM g))) ⟨⟨_,rfl⟩,aK hl,[],by rw[aG];rfl,.nil⟩ (λi σ H' _ h=>CW.of (h.2.1 _ _ hlc')) ?_ ?_
  ·rintro i x σ H' hx ⟨⟨o,rfl⟩,hs,ns,hn,hN⟩;obtain⟨p,hp,rfl⟩:=eY hx;obtain⟨c,hc,he⟩:=hC.at hp;have hi:i<(aQ pos g).length:=(CL.mp hc).1;have hnl:ns.length<=10:=by
    have h1:ns.length=_:=Paired.length hN;have h2:=dh (fM g) ((aQ pos g).take i);rw[du]at h2;omega
   have et:((aQ pos g).take (i+1)).filter (fM g)=((aQ pos g).take i).filter (fM g)++(if fM g c=true then [c]else []):=by
    rw[iu,hc,bg]
    congr 1
    cases e:fM g c
    ·simp[e]
    ·simp[e]
   rw[et];show cL _ _ _ [some (.ref p),some (.ref lr)] H';refine⟨_,rfl,p,c,rfl,hs _ _ he,λlb bs H3 hlb s3 hlb3 hB=> ?_⟩;have hb4:bs.length=(beside c).length:=Paired.length hB;refine⟨lb,rfl,⟨_,CW.of hlb3⟩,λZ l2 Cz=> ?_⟩;refine eU (K:=K) (a:=lb) (xs:=bs.map V.ref) (λj σ H4=>(∃o,σ=[o,some (.ref lr)])/\Same H3 H4/\H4 l2=some (.lst (((beside c).take j).map λd=>V.bl (decide (d∈aQ road g))))) ⟨⟨_,rfl⟩,aK Cz,by rw[aG];rfl⟩ (λj σ H4 _ h=>CW.of (h.2.1 _ _ hlb3)) ?_ ?_
   ·rintro j y σ H4 hy ⟨⟨o',rfl⟩,hs4,hl24⟩;obtain⟨b,hbj,rfl⟩:=eY hy;obtain⟨d,hd,hbd⟩:=hB.at hbj;have hj:j<4:=(CL.mp hd).1;show cL _ _ _ [some (.ref b),some (.ref lr)] H4;refine⟨_,rfl,_,rfl,lr,_,_,rfl,.inr (hs4 _ _ (s3 _ _ (hs _ _ hlr2))),iM (hs4 _ _ hbd) (((hR2.same hs).same s3).same hs4),?_⟩;rw[kM];refine⟨_,hl24,cO (by rw[di,du];omega),⟨_,rfl⟩,λb' u e'=> ?_,?_⟩
    ·rw[aN (bG e' Cz)];exact hs4 _ _ e'
    ·rw[aG,iu,hd,dz];rfl
   ·rintro σ H4 ⟨_,hs4,hl24⟩;rw[di,hb4,iq (CT _)]at hl24;refine⟨l2,(beside c).map λd=>decide (d∈aQ road g),rfl,CW.of (by rw[hl24,d7];rfl),_,rfl,?_⟩;have e:((beside c).map λd=>decide (d∈aQ road g)).any id=fM g c:=by unfold fM;rw[ai];rfl
    rw[e];have s34:=s3.trans hs4;refine fB (λz=> ?_) λz=> ?_
    ·rw[if_pos z];have hn4:=s34 _ _ hn;refine⟨_,rfl,_,hn4,cO (by rw[di];omega),⟨_,rfl⟩,λb' u e'=> ?_,ns++[p],?_,?_⟩
     ·rw[aN (bG e' hl)];exact s34 _ _ (hs _ _ e')
     ·rw[aG,dz];rfl
     ·exact PlAt.snoc (Paired.mapP (hN.same s34) λ_ _ z=>C4.put hn4 z) (C4.put hn4 (s34 _ _ (hs _ _ he)))
    ·rw[if_neg (by rw[z];decide),ak];exact⟨⟨_,rfl⟩,hs.trans s34,ns,s34 _ _ hn,hN.same s34⟩
  ·rintro σ H' ⟨_,hs,ns,hn,hN⟩;rw[di,hcl,iq (CT _)]at hN;exact q H' l ns (s1.free (s2.free hl)) ((s1.trans s2).trans hs) hn hN
theorem B2k {K:W.Frag}{a t l:ju}{g:bE}{w':Nat}{cs:List Pl}{ps:List ju}{H:Hp}{Q:VK}(hA:GridAt H a g)(G:dM g w')(ht:H t=some (.tup (ps.map V.ref)))(hP:PlAt H ps cs)(hL:LandOf g cs)(hl:H l=none)(q:∀H',Same H H'->Q (.int (cM g cs)) H'):
  cP (Itt K t) (iR K 2 (fA (cN 0) (fA (cN 1) iS))) (cL gK (eN l (tOp (iP K) (tOp (iP K) (dE 2) (dE 0)) (dE 1)))) (eC λ_ H'=> ∃(p:ju)(ns:List Int),[V.ref l]=[.ref p]/\CW K H' p (ns.map V.int)/\ns.length<=1000/\(∀n∈ns,-1000<=n/\n<=1000)/\Q (.int ns.sum) H') [none,none,some (.ref a)] (upd H l (.lst [])):=by
 have hpl:ps.length=cs.length:=Paired.length hP;have h10:=LandOf.len G hL;refine gC (K:=K) (a:=t) (xs:=ps.map V.ref) (λi σ H'=>(∃o1 o2,σ=[o1,o2,some (.ref a)])/\Same H H'/\H' l=some (.lst (((cs.take i).map (atG g)).map V.int))) ⟨⟨_,_,rfl⟩,aK hl,by rw[aG];rfl⟩ (λi σ H' _ h=>CY.of (h.2.1 _ _ ht)) ?_ ?_
 ·rintro i x σ H' hi ⟨⟨o1,o2,rfl⟩,hs,Ao⟩;obtain⟨p,hpi,rfl⟩:=eY hi;obtain⟨cc,hci,hpc⟩:=hP.at hpi;have hil:i<cs.length:=(CL.mp hci).1;obtain⟨i',j',xs,n,rfl,hg,hx,hf⟩:=mem_gridF.mp (hL.subset (fq hci));obtain⟨bs,b,h1,h2,h3,h4⟩:=(hA.same hs).ix hg hx;refine⟨p,_,rfl,CY.of (hs _ _ hpc),rfl,_,_,rfl,_,_,rfl,rfl,?_⟩;refine gX ?_;refine⟨_,rfl,_,rfl,a,_,_,_,rfl,rfl,CY.of h1,h2,_,rfl,b,_,_,_,rfl,rfl,CY.of h3,h4,?_⟩;refine⟨_,Ao,cO (by rw[di,di,du];omega),⟨_,_,rfl⟩,λb' u e'=> ?_,?_⟩
  ·rw[aN (bG e' hl)];exact hs _ _ e'
  ·rw[aG,iu,hci,dz,dz];show some (HO.lst (_++[V.int n]))=some (HO.lst (_++[V.int (atG g ((i':Int),(j':Int)))]));rw[jN hg hx]
 ·rintro σ H' ⟨_,hs,Ao⟩;rw[di,hpl,iq (CT _)]at Ao;refine⟨l,_,rfl,CW.of Ao,by rw[di];omega,λn hn=> ?_,q H' hs⟩;obtain⟨c,hc,rfl⟩:=fm.mp hn;obtain⟨i',j',xs,n,rfl,hg,hx,hf⟩:=mem_gridF.mp (hL.subset hc);rw[jN hg hx];have:=G.num xs (fq hg) n (fq hx);omega
theorem A8f (F:D1 K mg "worth_together" mQ ["mead","places"])(T2:dZ mg):A1 P w K mg base 1 "worth_together" A3i:=by
 refine F.k ["mead","places"] ?_;ac_nf
 ·obtain⟨a,t,g,w',cs,rfl,hA,G,⟨ps,ht,hP⟩,hL,q⟩:=h;refine⟨_,aR (aY (bD (A29 rfl) rfl T2.sum boot_sum (cY (bQ (bB mQ).names ["mead","places"] ["row","column"] [("mead",0)] rfl (cW (pv 1)) rfl rfl rfl (by decide +kernel)
    (λZ=>bI rfl (aV (CZ 0 nM) (aV (CZ 1 nM) bH))) (λZ=>cF) (λZ=>bK cD (bK cD (pv 2) (pv 0) (λ_ _=>rfl)) (pv 1) (λ_ _=>rfl))) aB))),?_⟩
  refine⟨_,rfl,t,rfl,⟨_,CY.of ht⟩,λZ l hl=> ?_⟩;exact B2k hA G ht hP hL hl q
structure C5 (mg:Str->Option jt):Prop where
 isinstance:mg "isinstance" =none
 int:mg "int" =none
 bool:mg "bool" =none
 tuple:mg "tuple" =none
 len:mg "len" =none
 all:mg "all" =none
 any:mg "any" =none
 zip:mg "zip" =none
 range:mg "range" =none
 sum:mg "sum" =none
 list:mg "list" =none
 set:mg "set" =none
 sorted:mg "sorted" =none
 sorts:∃t,mg "MOST_SORTS" =some (.int 6 t)
 counted:∃t,mg "MOST_COUNTED" =some (.int 100 t)
 holders:∃t,mg "MOST_HOLDERS" =some (.int 4 t)
 rights:∃t,mg "MOST_RIGHTS" =some (.int 20 t)
 claims:∃t,mg "MOST_CLAIMS" =some (.int 12 t)
noncomputable def wV:Sp:=λvs H Q _=> ∃l ps prs,vs=[.ref l]/\H l=some (.lst (ps.map V.ref))/\PlAt H ps prs/\1<=prs.length/\prs.length<=100/\(prs.Pairwise λa b=>lt2 a b=true)/\∀H',Same H H'->Q (.bl true) H'
noncomputable def uV:Sp:=λvs H Q _=> ∃a cs,vs=[.ref a]/\fI H a cs/\fC cs/\∀H',Same H H'->Q (.bl true) H'
noncomputable def A2q:Sp:=λvs H Q _=> ∃(b:ju)(c:C3),vs=[.ref b]/\H b=some (.tup [.int c.1,.int c.2.1,.int c.2.2])/\((0<=c.1/\c.1<=3)/\(0<=c.2.1/\c.2.1<=5)/\1<=c.2.2/\c.2.2<=20)/\Q (.bl true) H
noncomputable def uK:Sp:=λvs H Q _=> ∃a cl,vs=[.ref a]/\ClT H a cl/\fQ cl/\∀H',Same H H'->Q (.bl true) H'
noncomputable def A0x:Sp:=λvs H Q _=> ∃a cs,vs=[.ref a]/\fI H a cs/\fC cs/\∀H',Same H H'->Q .non H'
noncomputable def pY:Sp:=λvs H Q _=> ∃a cl,vs=[.ref a]/\ClT H a cl/\fQ cl/\∀H',Same H H'->Q .non H'
theorem B47 (ps:List ju)(h:1<=ps.length):cI (ps.map V.ref) (some 1) none=(ps.drop 1).map V.ref:=by have e1:HT.sIx (ps.map V.ref).length 0 (some 1)=min 1 (ps.map V.ref).length:=HT.sIx_nat _ _ 1;have e2:HT.sIx (ps.map V.ref).length (ps.map V.ref).length none=(ps.map V.ref).length:=rfl;unfold cI;rw[e1,e2,di,show min 1 ps.length=1 by omega,iq (by rw[de,di];omega),map_drop]
theorem PlAt.get2:∀{ps:List ju}{cs:List (Int×Int)}{i:Nat}{p:ju},PlAt H ps cs->ps[i]?=some p->∃c,cs[i]?=some c/\H p=some (.tup [.int c.1,.int c.2]):=λh e=>jG h e
theorem B1y (F:D1 K mg "is_rising" tG ["things"])(T:C5 mg):A1 P w K mg base 1 "is_rising" wV:=by
 refine F.k ["things"] ?_;ac_nf
 ·obtain⟨l,ps,prs,rfl,hl,hP,h1,h100,hup,q⟩:=h;have ue:ps.length=prs.length:=Paired.length hP;refine⟨_,aR (aY (bD (iF rfl) rfl T.all zw (cY (bQ (bB tG).names ["things"] ["one","other"] [] rfl (rZ A1m rfl T.zip (aD (pv 0) (fE (jY pI (pv 0) (iQ aU) lW) aB))) rfl rfl rfl (by decide +kernel)
   (λZ=>bI rfl (aV (CZ 0 A2e) (aV (CZ 1 A2e) bH))) (λZ=>cF) (λZ=>eX (A63 (jg (vJ hr))) (pv 0) (pv 1) (nomark _))) aB))),?_⟩
  refine⟨_,rfl,_,rfl,_,rfl,l,_,rfl,CW.of hl,λt ht=> ?_⟩;rw[B47 ps (by omega)];have s1:=aK (o:=.lst ((ps.drop 1).map V.ref)) ht;refine⟨l,t,ps.map V.ref,(ps.drop 1).map V.ref,rfl,CW.of (s1 _ _ hl),CW.of aG,λZ r hr'=> ?_⟩;have sH:Same H (upd H t (.lst ((ps.drop 1).map V.ref))):=s1;refine yU (xs:=ps.map V.ref) (ys:=(ps.drop 1).map V.ref) (by rw[di,di,de];omega) (λi σ H'=>σ.length=2/\Same (upd H t (.lst ((ps.drop 1).map V.ref))) H'/\H' r=some (.lst (((ps.drop 1).take i).map λ_=>V.bl true))) ⟨rfl,aK hr',by rw[aG];rfl⟩
   (λi σ H' h=> ⟨CW.of (h.2.1 _ _ (s1 _ _ hl)),CW.of (h.2.1 _ _ aG)⟩) ?_ ?_
  ·rintro i x y p3 σ H' hx hy ⟨hσ,hs,Ao⟩ hp3;obtain⟨x0,x1,rfl⟩:=oJ hσ;rw[cy]at hx hy;cases hb:ps[i]? with
   |none=>rw[hb]at hx;cases hx
   |some b=>
   cases hb2:(ps.drop 1)[i]? with
   |none=>rw[hb2]at hy;cases hy
   |some b2=>
   rw[hb]at hx;cases hx;rw[hb2]at hy;cases hy;have hb2':ps[i+1]?=some b2:=by rw[cv]at hb2;rw[show i+1=1+i by omega];exact hb2
   obtain⟨c,hc,he⟩:=PlAt.get2 hP hb;obtain⟨c2,hc2,he2⟩:=PlAt.get2 hP hb2';have s3:=aK (o:=.tup [.ref b,.ref b2]) hp3;refine⟨p3,_,rfl,CY.of aG,rfl,_,_,rfl,_,_,rfl,rfl,?_⟩;refine gX ?_;refine⟨_,rfl,_,rfl,b,b2,[c.1,c.2],[c2.1,c2.2],rfl,rfl,CY.of (s3 _ _ (hs _ _ (s1 _ _ he))),CY.of (s3 _ _ (hs _ _ (s1 _ _ he2))),?_⟩;have CA:HT.lexLt [c.1,c.2] [c2.1,c2.2]=true:=by
    obtain⟨g1,e1⟩:=CL.mp hc;obtain⟨g2,e2⟩:=CL.mp hc2;have:=gu.mp hup i (i+1) g1 g2 (by omega);rw[e1,e2]at this;exact this
   rw[CA];have hi:i<(ps.drop 1).length:=(CL.mp hb2).1;rw[de]at hi;refine⟨_,s3 _ _ Ao,cO (by rw[di,du];omega),rfl,λb' u e'=> ?_,?_⟩
   ·rw[aN (bG e' hr')];exact s3 _ _ (hs _ _ e')
   ·rw[aG,iu,hb2,dz];rfl
  ·rintro σ H' ⟨_,hs,Ao⟩;rw[di,iq (CT _)]at Ao;refine⟨r,(ps.drop 1).map λ_=>true,rfl,CW.of (by rw[Ao,d7];rfl),?_⟩;rw[show((ps.drop 1).map λ_=>true).all id=true by rw[ae];exact aa.mpr λ_ _=>rfl];exact q H' (s1.trans hs)
theorem B2p (F:D1 K mg "is_custom" uG ["thing"])(T:C5 mg)(a1:A1 P w K mg base 1 "is_tuple_within" iU)(a2:A1 P w K mg base 2 "is_number_within" mW):A1 P w K mg base 3 "is_custom" uV:=by
 obtain⟨t1,mS⟩:=T.sorts;obtain⟨t2,mC⟩:=T.counted;refine F.k ["thing"] ?_;ac_nf
 ·obtain⟨a,cs,rfl,ha,G,q⟩:=h;have ha':H a=some (.tup (cs.map V.int)):=ha;have hz:(cs.map V.int).length<=1000:=by rw[di];have:=G.l6;omega
  have kn:Kn H 2 (.ref a):=KnA.tup ha' hz (λx hx=>by obtain⟨i,_,rfl⟩:=fm.mp hx;exact KnA.int i) 2;refine⟨_,aT (bV (cX (cA (a1.c hr (bA (pv 0) (bA aU (bA (dW (v:=.int 6) rfl mS ⟨_,rfl⟩) aB)))))) gJ bU)
   (aR (aY (bD (iF rfl) rfl T.all zw (bA (bQ (bB uG).names ["thing"] ["counted"] [] rfl (cW (pv 0)) rfl rfl rfl (by decide +kernel)
    (λZ=>aJ (i:=0) (show(["counted"]:List Str).Nodup by decide +kernel) rfl (ng rfl)) (λZ=>cF)
    (λZ=>a2.c hr (bA (pv 0) (bA aU (bA (dW (v:=.int 100) rfl mC ⟨_,rfl⟩) aB))))) aB)))),?_⟩
  refine⟨_,rfl,_,1,6,rfl,kn.le (by decide),_,rfl,?_⟩;have ht:dS H 1 6 (.ref a)=true:=by
   unfold dS;rw[lT ha'];have h1:=G.l1;have h6:=G.l6;simp only[di,pe,decide_eq_true_eq];omega
  rw[ht];refine bY ?_;refine⟨_,rfl,a,rfl,⟨_,CY.of ha'⟩,λZ l hl=> ?_⟩;refine mN (λx=> .bl (eW 1 100 x)) ha' hl hz (λx H' Q' hm hs hq=> ?_) λσ H' hs Ao=> ?_
  ·obtain⟨i,_,rfl⟩:=fm.mp hm;exact⟨_,rfl,_,1,100,rfl,KnA.int i 1,hq _ (Same.refl _)⟩
  ·refine⟨l,(cs.map V.int).map (eW 1 100),rfl,CW.of (by rw[Ao];simp only[d7];rfl),?_⟩;have:((cs.map V.int).map (eW 1 100)).all id=true:=by
    rw[ae,ae,aa];intro i hi;have:=G.num i hi;show(decide (1<=i)&&decide (i<=100))=true;simp only[pe,decide_eq_true_eq];exact this
   rw[this];exact q H' hs
theorem pR {lo hi i:Int}(h1:lo<=i)(h2:i<=hi):eW lo hi (.int i)=true:=by simp[eW,h1,h2]
theorem B0n (F:D1 K mg "is_claim" A2y ["thing"])(T:C5 mg)(a1:A1 P w K mg base 1 "is_tuple_within" iU)(a2:A1 P w K mg base 2 "is_number_within" mW):A1 P w K mg base 3 "is_claim" A2q:=by
 obtain⟨t1,mS⟩:=T.sorts;obtain⟨t2,mH⟩:=T.holders;obtain⟨t3,mR⟩:=T.rights;refine F.k ["thing","holder","sort","many"] ?_;ac_nf
 ·obtain⟨b,c,rfl,hb,⟨n1,n2,n3⟩,q⟩:=h;have kn:Kn H 1 (.ref b):=.inr (.inr ⟨_,hb,by show 3<=1000;decide,λx _=>p6⟩);refine⟨_,aT (bV (cX (cA (a1.c hr (bA (pv 0) (bA aU (bA aU aB)))))) gJ bU)<|
   aT (cQ (pv 0) (bI rfl (aV (CZ 1 nd) (aV (CZ 2 nd) (aV (CZ 3 nd) bH)))))<|
   aT (bV (PW.pt (jP (cX (cA (a2.c hr (bA (pv 1) (bA aU (bA (bC iI (dW (v:=.int 4) rfl mH ⟨_,rfl⟩) aU) aB))))))
    (lK (cX (cA (a2.c hr (bA (pv 2) (bA aU (bA (bC iI (dW (v:=.int 6) rfl mS ⟨_,rfl⟩) aU) aB))))))))) gJ bU)<|
   aR (aY (a2.c hr (bA (pv 3) (bA aU (bA (dW (v:=.int 20) rfl mR ⟨_,rfl⟩) aB))))),?_⟩
  refine⟨_,rfl,_,3,3,rfl,kn,_,rfl,?_⟩;have ht:dS H 3 3 (.ref b)=true:=by unfold dS;rw[lT hb];rfl
  rw[ht];refine bY ?_;refine⟨_,rfl,b,_,rfl,CY.of hb,rfl,_,_,rfl,_,_,rfl,_,_,rfl,rfl,?_⟩;refine⟨_,rfl,_,_,rfl,rfl,_,0,3,rfl,KnA.int _ 1,_,rfl,?_⟩;rw[pR n1.1 n1.2];refine bY ?_;refine⟨_,rfl,_,_,rfl,rfl,_,0,5,rfl,KnA.int _ 1,_,rfl,?_⟩;rw[pR n2.1 n2.2];refine bY ?_;refine⟨_,rfl,_,1,20,rfl,KnA.int _ 1,?_⟩;rw[pR n3.1 n3.2];exact q
noncomputable def eE (cl:List C3)(i:Int):Bool:=cl.any λc=>decide (c.1=i)
noncomputable def dJ (cl:List C3):Nat->Bool:=λk=>eE cl (k:Int)
noncomputable def tV:Sp:=λvs H Q _=> ∃c a cs cl,vs=[.ref c,.ref a]/\fI H c cs/\ClT H a cl/\cl.length<=12/\iD cs cl/\∀H',Same H H'->Q (.bl true) H'
noncomputable def vP:Sp:=λvs H Q _=> ∃c a cs cl,vs=[.ref c,.ref a]/\fI H c cs/\fC cs/\ClT H a cl/\fQ cl/\iD cs cl/\∀H',Same H H'->Q .non H'
noncomputable def lH (cl:List C3):V->Bool| .int i=>eE cl i|_=>false
noncomputable def qW:Sp:=λvs H Q _=> ∃a cl u,vs=[.ref a,u]/\ClT H a cl/\cl.length<=12/\Kn H 1 u/\∀H',Same H H'->Q (.bl (lH cl u)) H'
noncomputable def uB:Sp:=λvs H Q _=> ∃a cl i,vs=[.ref a,.int i]/\ClT H a cl/\cl.length<=12/\eE cl i=true/\∀H',Same H H'->Q .non H'
noncomputable def mY:Sp:=λvs H Q _=> ∃a cl,vs=[.ref a]/\ClT H a cl/\fQ cl/\∀l H',H l=none->Same H H'->H' l=some (.lst ((aX (dJ cl)).map λk:Nat=>V.int (k:Int)))->Q (.ref l) H'
theorem ClT.kn (h:ClT H a cl)(hz:cl.length<=12)(n:Nat):Kn H n (.ref a):=by obtain⟨bs,h1,h2⟩:=h;have hl:bs.length=cl.length:=Paired.length h2;refine KnA.tup h1 (by rw[di];omega) (λx hx=> ?_) n;obtain⟨b,hb,rfl⟩:=fm.mp hx;obtain⟨i,hi⟩:=List.getElem?_of_mem hb;obtain⟨c,hc,he⟩:=h2.get hi;refine KnA.tup he (by show 3<=1000;decide) λy hy=> ?_;simp only[fe,gh,or_false]at hy;rcases hy with rfl|rfl|rfl<;>exact KnA.int _
theorem nd3:(["holder","sort","many"]:List Str).Nodup:=by decide +kernel
theorem B4n (F:D1 K mg "are_claims" nI ["thing"])(T:C5 mg)(a1:A1 P w K mg base 1 "is_tuple_within" iU)(a2:A1 P w K mg base 3 "is_claim" A2q)(a3:A1 P w K mg base 1 "is_rising" wV):A1 P w K mg base 4 "are_claims" uK:=by
 obtain⟨t1,mC⟩:=T.claims;refine F.k ["thing"] ?_;ac_nf
 ·obtain⟨a,cl,rfl,hA,G,q⟩:=h;have kn:=ClT.kn hA G.l12 1;obtain⟨bs,ha,hC⟩:=hA;have hl:bs.length=cl.length:=Paired.length hC;have hz:(bs.map V.ref).length<=1000:=by rw[di];have:=G.l12;omega
  refine⟨_,aT (bV (PW.pt (jP (cX (cA (a1.c hr (bA (pv 0) (bA aU (bA (dW (v:=.int 12) rfl mC ⟨_,rfl⟩) aB))))))
    (lK (cX (cA (bD (iF rfl) rfl T.all zw (bA (bQ (bB nI).names ["thing"] ["claim"] [] rfl (cW (pv 0)) rfl rfl rfl (by decide +kernel)
     (λZ=>aJ (i:=0) (show(["claim"]:List Str).Nodup by decide +kernel) rfl (ng rfl)) (λZ=>cF) (λZ=>a2.c hr (bA (pv 0) aB))) aB))))))) gJ bU)<|
   aR (aY (a3.c hr (cY (bQ (bB nI).names ["thing"] ["holder","sort","many"] [] rfl (cW (pv 0)) rfl rfl rfl (by decide +kernel)
     (λZ=>bI rfl (aV (CZ 0 nd3) (aV (CZ 1 nd3) (aV (CZ 2 nd3) bH)))) (λZ=>cF) (λZ=>bT (bA (pv 0) (bA (pv 1) aB)))) aB))),?_⟩
  refine⟨_,rfl,_,1,12,rfl,kn,_,rfl,?_⟩;have ht:dS H 1 12 (.ref a)=true:=by
   unfold dS;rw[lT ha];have h1:=G.l1;have h6:=G.l12;simp only[di,pe,decide_eq_true_eq];omega
  rw[ht];refine bY ?_;refine⟨_,rfl,a,rfl,⟨_,CY.of ha⟩,λZ l Ao=> ?_⟩;refine mN (λ_=> .bl true) ha Ao hz (λx H' Q' hm hs hq=> ?_) λσ H1 hs1 hl1=> ?_
  ·obtain⟨b,hb,rfl⟩:=fm.mp hm;obtain⟨i,hi⟩:=List.getElem?_of_mem hb;obtain⟨c,hc,he⟩:=hC.get hi;exact⟨_,rfl,b,c,rfl,hs _ _ he,G.num c (fq hc),hq _ (Same.refl _)⟩
  ·refine⟨l,(bs.map V.ref).map λ_=>true,rfl,CW.of (by rw[hl1];simp only[d7];rfl),_,rfl,?_⟩;rw[show((bs.map V.ref).map λ_=>true).all id=true by rw[ae];exact aa.mpr λ_ _=>rfl];refine bY ?_;refine⟨_,rfl,a,rfl,⟨_,CY.of (hs1 _ _ ha)⟩,λZ2 l2 Cz=> ?_⟩;refine B12 gM (λH' hs=>CY.of (hs _ _ (hs1 _ _ ha))) (hC.ext hs1.ext) Cz (by have:=G.l12;omega) λσ H2 ps hs2 hl2' hP=> ?_;have hpl:=Paired.length hP;rw[di]at hpl;refine⟨l2,ps,_,rfl,hl2',hP,by rw[di];exact G.l1,by rw[di];have:=G.l12;omega,G.up,λH3 hs3=>q H3 ((hs1.trans hs2).trans hs3)⟩
theorem A5p (F:D1 K mg "check_custom" A10 ["custom"])(a1:A1 P w K mg base 3 "is_custom" uV):A1 P w K mg base 4 "check_custom" A0x:=by
 refine F.k ["custom"] ?_;ac_nf
 ·obtain⟨a,cs,rfl,hA,G,q⟩:=h;refine⟨_,aR (bV (cX (cA (a1.c hr (aD (pv 0) aB)))) gJ bU),?_⟩;exact⟨_,rfl,a,cs,rfl,hA,G,λH' hs=> ⟨_,rfl,bY (q H' hs)⟩⟩
theorem B10 (F:D1 K mg "check_claims" xE ["claims"])(a1:A1 P w K mg base 4 "are_claims" uK):A1 P w K mg base 5 "check_claims" pY:=by
 refine F.k ["claims"] ?_;ac_nf
 ·obtain⟨a,cl,rfl,hA,G,q⟩:=h;refine⟨_,aR (bV (cX (cA (a1.c hr (aD (pv 0) aB)))) gJ bU),?_⟩;exact⟨_,rfl,a,cl,rfl,hA,G,λH' hs=> ⟨_,rfl,bY (q H' hs)⟩⟩
theorem kU:(["holder","sort","many","custom"]:List Str).Nodup:=by decide +kernel
theorem A9x (F:D1 K mg "stand_under" sX ["custom","claims"])(T:C5 mg):A1 P w K mg base 1 "stand_under" tV:=by
 refine F.k ["custom","claims"] ?_;ac_nf
 ·obtain⟨c,a,cs,cl,rfl,hc,⟨bs,ha,hC⟩,h12,hU,q⟩:=h;have hl:bs.length=cl.length:=Paired.length hC;refine⟨_,aR (aY (bD (iF rfl) rfl T.all zw (cY (bQ (bB sX).names ["custom","claims"] ["holder","sort","many"] [("custom",0)] rfl (cW (pv 1)) rfl rfl rfl (by decide +kernel)
   (λZ=>bI rfl (aV (CZ 0 kU) (aV (CZ 1 kU) (aV (CZ 2 kU) bH)))) (λZ=>cF)
   (λZ=>eX oX (pv 1) (bD eJ rfl T.len m9 (bA (pv 3) aB)) (nomark _))) aB))),?_⟩
  refine⟨_,rfl,a,rfl,⟨_,CY.of ha⟩,λZ l Ao=> ?_⟩;refine mJ (rest:=[some (.ref c)]) gM (λH' hs=>CY.of (hs _ _ ha)) hC Ao (by omega) (λ_=> .bl true) (λx H' Q' hm hs hq=> ?_) λσ H1 hs1 hl1=> ?_
  ·refine⟨_,rfl,_,rfl,c,_,rfl,.inr (CY.of (hs _ _ hc)),_,_,rfl,rfl,?_⟩;show Q' (.bl (decide (x.2.1<((cs.map V.int).length:Int)))) H';rw[di,CM (hU x hm)];exact hq _ (Same.refl _)
  ·refine⟨l,cl.map λ_=>true,rfl,CW.of (by rw[hl1];simp only[d7];rfl),?_⟩;rw[show(cl.map λ_=>true).all id=true by rw[ae];exact aa.mpr λ_ _=>rfl];exact q _ hs1
theorem B18 (F:D1 K mg "check_claims_under" wM ["custom","claims"])(a1:A1 P w K mg base 4 "check_custom" A0x)(a2:A1 P w K mg base 5 "check_claims" pY)(a3:A1 P w K mg base 1 "stand_under" tV):A1 P w K mg base 6 "check_claims_under" vP:=by
 refine F.k ["custom","claims"] ?_;ac_nf
 ·obtain⟨c,a,cs,cl,rfl,hc,Gc,hA,G,hU,q⟩:=h;refine⟨_,aT (dP (a1.c hr (aD (pv 0) aB)))<|aT (dP (a2.c hr (aD (pv 1) aB)))<|
   aR (bV (cX (cA (a3.c hr (aD (pv 0) (aD (pv 1) aB))))) gJ bU),?_⟩
  refine⟨_,rfl,c,cs,rfl,hc,Gc,λH1 s1=> ?_⟩;refine⟨_,rfl,a,cl,rfl,hA.ext s1.ext,G,λH2 s2=> ?_⟩;exact⟨_,rfl,_,rfl,c,a,cs,cl,rfl,s2 _ _ (s1 _ _ hc),(hA.ext s1.ext).ext s2.ext,G.l12,hU,λH3 s3=> ⟨_,rfl,bY (q H3 ((s1.trans s2).trans s3))⟩⟩
theorem rE:(["holder","sort","many","thing"]:List Str).Nodup:=by decide +kernel
theorem B2m (F:D1 K mg "is_holder" qU ["claims","thing"])(T:C5 mg)(a1:A1 P w K mg base 1 "is_number" pW):A1 P w K mg base 2 "is_holder" qW:=by
 refine F.k ["claims","thing"] ?_;ac_nf
 ·obtain⟨a,cl,u,rfl,⟨bs,ha,hC⟩,h12,ku,q⟩:=h;have hl:bs.length=cl.length:=Paired.length hC;refine⟨_,aR (aY (hJ (a1.c hr (bA (pv 1) aB)) (gT (bD (tD rfl) rfl T.any pZ (cY (bQ (bB qU).names ["claims","thing"] ["holder","sort","many"] [("thing",1)] rfl (cW (pv 0)) rfl rfl rfl (by decide +kernel)
   (λZ=>bI rfl (aV (CZ 0 rE) (aV (CZ 1 rE) (aV (CZ 2 rE) bH)))) (λZ=>cF)
   (λZ=>eX fN (pv 0) (pv 3) (nomark _))) aB))))),?_⟩
  refine⟨_,rfl,_,rfl,ku,_,rfl,fB (λe=> ?_) λe=> ?_⟩
  ·obtain⟨i,rfl⟩:∃i,u= .int i:=by cases u<;>first|exact⟨_,rfl⟩|cases e
   refine⟨_,rfl,a,rfl,⟨_,CY.of ha⟩,λZ l Ao=> ?_⟩;refine mJ (rest:=[some (.int i)]) gM (λH' hs=>CY.of (hs _ _ ha)) hC Ao (by omega) (λc=> .bl (decide (c.1=i))) (λx H' Q' hm hs hq=> ?_) λσ H1 hs1 hl1=> ?_
   ·refine⟨_,rfl,_,rfl,rfl,?_⟩;have:decide (V.int x.1=V.int i)=decide (x.1=i):=decide_eq_decide.mpr ⟨λz=>V.int.inj z,λz=>by rw[z]⟩;rw[this];exact hq _ (Same.refl _)
   ·refine⟨l,cl.map λc=>decide (c.1=i),rfl,CW.of (by rw[hl1];simp only[d7];rfl),?_⟩;have:(cl.map λc=>decide (c.1=i)).any id=lH cl (.int i):=by unfold lH eE;rw[ai];rfl
    rw[this];exact q _ hs1
  ·have:lH cl u=false:=by cases u<;>first|rfl|cases e
   rw[←this];exact q _ (Same.refl _)
theorem A90 (F:D1 K mg "check_holder" zX ["claims","holder"])(a1:A1 P w K mg base 2 "is_holder" qW):A1 P w K mg base 3 "check_holder" uB:=by
 refine F.k ["claims","holder"] ?_;ac_nf
 ·obtain⟨a,cl,i,rfl,hA,h12,hh,q⟩:=h;refine⟨_,aR (bV (cX (cA (a1.c hr (aD (pv 0) (aD (pv 1) aB))))) gJ bU),?_⟩;refine⟨_,rfl,_,rfl,a,cl,.int i,rfl,hA,h12,trivial,λH' hs=> ⟨_,rfl,?_⟩⟩;rw[show lH cl (.int i)=true from hh];exact bY (q H' hs)
theorem A69:(["holder","claims"]:List Str).Nodup:=by decide +kernel
noncomputable def iK (S:Nat->Bool)(n:Nat):List Nat:=(kz n).filter S
theorem B5a (S:Nat->Bool):iK S 4=aX S:=by unfold iK aX L;show filter S [0,1,2,3]=_;cases h0:S 0<;>cases h1:S 1<;>cases h2:S 2<;>cases h3:S 3<;>simp[filter,h0,h1,h2,h3]
theorem B5z (F:D1 K mg "holders_of" pP ["claims"])(T:C5 mg)(a1:A1 P w K mg base 5 "check_claims" pY)(a2:A1 P w K mg base 2 "is_holder" qW):A1 P w K mg base 6 "holders_of" mY:=by
 obtain⟨t1,mH⟩:=T.holders;refine F.k ["claims"] ?_;ac_nf
 ·obtain⟨a,cl,rfl,hA,G,q⟩:=h;refine⟨_,aT (dP (a1.c hr (aD (pv 0) aB)))<|
   aR (aY (bQ (bB pP).names ["claims"] ["holder"] [("claims",0)] rfl (jK rfl T.range (bA (dW (v:=.int 4) rfl mH ⟨_,rfl⟩) aB)) rfl rfl rfl (by decide +kernel)
    (λZ=>CZ 0 A69) (λZ=>dX (cA (a2.c hr (aD (pv 1) (aD (pv 0) aB))))) (λZ=>pv 0))),?_⟩
  refine⟨_,rfl,a,cl,rfl,hA,G,λH1 s1=> ?_⟩;refine⟨4,rfl,by decide,by decide,λZ l hl=> ?_⟩;refine jE (lo:=0) (n:=4) (λi σ H'=>(∃o,σ=[o,some (.ref a)])/\Same H1 H'/\H' l=some (.lst ((iK (dJ cl) i).map λk:Nat=>V.int (k:Int)))) ⟨⟨_,rfl⟩,aK hl,by rw[aG];rfl⟩ ?_ ?_
  ·rintro i σ H' hi ⟨⟨o,rfl⟩,hs,Ao⟩;show cL _ _ _ [some (.int (0+(i:Int))),some (.ref a)] H';refine⟨_,rfl,_,rfl,a,cl,_,rfl,hA.ext (s1.trans hs).ext,G.l12,trivial,λH2 s2=> ⟨_,rfl,?_⟩⟩;have e0:(0:Int)+(i:Int)=(i:Int):=by omega
   rw[e0];have ep:iK (dJ cl) (i+1)=iK (dJ cl) i++(if dJ cl i=true then [i]else []):=by
    unfold iK;rw[gz,bg]
    congr 1
    by_cases hh:dJ cl i=true
    ·rw[if_pos hh,bo hh];rfl
    ·rw[if_neg hh,bj hh];rfl
   have hz:((iK (dJ cl) i).map λk:Nat=>V.int (k:Int)).length<=1000:=by
    rw[di];have:=dh (dJ cl) (kz i);rw[dm]at this;unfold iK;omega
   refine fB (λhh=> ?_) λhh=> ?_
   ·refine⟨_,rfl,_,s2 _ _ Ao,cO hz,⟨_,rfl⟩,λb u e=> ?_,?_⟩
    ·rw[aN (bG e hl)];exact s2 _ _ (hs _ _ e)
    ·rw[aG,ep,if_pos (show dJ cl i=true from hh),dz];rfl
   ·refine⟨⟨_,rfl⟩,hs.trans s2,?_⟩;rw[ep,if_neg (by show¬dJ cl i=true;unfold dJ;rw[show eE cl (i:Int)=false from hh];decide),ak];exact s2 _ _ Ao
  ·rintro σ H' ⟨_,hs,Ao⟩;rw[B5a]at Ao;have hHl:H l=none:=by
    cases e:H l with
    |none=>rfl
    |some o=>rw[s1 _ _ e]at hl;cases hl
   exact q l H' hHl (s1.trans hs) Ao
noncomputable def cw (cs:List Int)(c:C3):Int:=cs.getD c.2.1.toNat 0*c.2.2
noncomputable def bF (cs:List Int)(cl:List C3):Int:=(cl.map (cw cs)).sum
noncomputable def ofH (cl:List C3)(i:Int):List C3:=cl.filter λc=>decide (c.1=i)
noncomputable def bN (cs:List Int)(cl:List C3)(i:Int):Int:=bF cs (ofH cl i)
noncomputable def Fine (cs:List Int)(cl:List C3):Prop:=cl.length<=12/\∀c∈cl,0<=c.2.1/\c.2.1<cs.length/\1<=c.2.2/\c.2.2<=20
theorem mG (G:fQ cl)(U:iD cs cl):Fine cs cl:=⟨G.l12,λc hc=> ⟨(G.num c hc).2.1.1,U c hc,(G.num c hc).2.2.1,(G.num c hc).2.2.2⟩⟩
theorem Fine.sub (h:Fine cs cl)(i:Int):Fine cs (ofH cl i):=⟨jd (dh _ _) h.1,λc hc=>h.2 c (ff.mp hc).1⟩
theorem kH {cs:List Int}(Gc:fC cs){c:C3}(h:0<=c.2.1/\c.2.1<cs.length/\1<=c.2.2/\c.2.2<=20):1<=cs.getD c.2.1.toNat 0/\cs.getD c.2.1.toNat 0<=100/\1<=cw cs c/\cw cs c<=2000:=by
 have CA:c.2.1.toNat<cs.length:=by omega
 have e:cs.getD c.2.1.toNat 0=cs[c.2.1.toNat]:=by simp[CA]
 have hn:=Gc.num _ (c5 CA);unfold cw;rw[e];refine⟨hn.1,hn.2,?_,?_⟩
 ·have:=Int.mul_le_mul hn.1 h.2.2.1 (by omega) (by omega);omega
 ·have:=Int.mul_le_mul hn.2 h.2.2.2 (by omega) (by omega);omega
theorem uF {cs:List Int}(Gc:fC cs):∀{cl:List C3},(∀c∈cl,0<=c.2.1/\c.2.1<cs.length/\1<=c.2.2/\c.2.2<=20)->(cl.length:Int)<=bF cs cl/\bF cs cl<=2000*cl.length
 | [],_=>by simp[bF]
 |c::cl,h=>by
  have ih:=uF Gc (cl:=cl) λd hd=>h d (CP _ hd);have h0:=kH Gc (h c CQ);have e:bF cs (c::cl)=cw cs c+bF cs cl:=by unfold bF;rw[d6,il]
  rw[e,c9];constructor<;>omega
theorem jV {cs:List Int}{s:Int}(h0:0<=s)(h1:s<cs.length):atI (cs.map V.int) s=some (.int (cs.getD s.toNat 0)):=by
 obtain⟨n,rfl⟩:=md h0;have hn:n<cs.length:=by omega
 refine cK ?_;rw[cy,cx hn];simp[hn]
noncomputable def tE:Sp:=λvs H Q _=> ∃c a cs bs cl,vs=[.ref c,.ref a]/\fI H c cs/\fC cs/\(H a=some (.tup (bs.map V.ref))\/H a=some (.lst (bs.map V.ref)))/\ClP H bs cl/\Fine cs cl/\∀H',Same H H'->Q (.int (bF cs cl)) H'
noncomputable def yB:Sp:=λvs H Q _=> ∃c a cs cl i,vs=[.ref c,.ref a,.int i]/\fI H c cs/\fC cs/\ClT H a cl/\fQ cl/\iD cs cl/\eE cl i=true/\∀H',Same H H'->Q (.int (bN cs cl i)) H'
theorem A5i (F:D1 K mg "count_together" tX ["custom","claims"])(T:C5 mg):A1 P w K mg base 1 "count_together" tE:=by
 refine F.k ["custom","claims"] ?_;ac_nf
 ·obtain⟨c,a,cs,bs,cl,rfl,hc,Gc,ha,hC,hf,q⟩:=h;have hl:bs.length=cl.length:=Paired.length hC;have h12:=hf.1;refine⟨_,aR (aY (bD (rB rfl) rfl T.sum boot_sum (cY (bQ (bB tX).names ["custom","claims"] ["holder","sort","many"] [("custom",0)] rfl (PI.or (cW (pv 1)) (cR (pv 1))) rfl rfl rfl (by decide +kernel)
   (λZ=>bI rfl (aV (CZ 0 kU) (aV (CZ 1 kU) (aV (CZ 2 kU) bH)))) (λZ=>cF)
   (λZ=>bC eQ (bK cD (pv 3) (pv 1) (λ_ _=>rfl)) (pv 2))) aB))),?_⟩
  have turn:∀(x:C3)(H':Hp)(Q':VK),x∈cl->Same H H'->(∀H2,Same H' H2->Q' (.int (cw cs x)) H2)->tOp (rI CMul λi j=> .int (i*j)) (tOp (iP K) (dE 3) (dE 1)) (dE 2) (some (.int x.1)::some (.int x.2.1)::some (.int x.2.2)::[some (.ref c)]) H' Q':=λx H' Q' hm hs hq=>by
   have hx:=hf.2 x hm;have CA:x.2.1.toNat<cs.length:=by omega
   have hsm:=kH Gc hx;exact⟨_,rfl,_,rfl,c,_,x.2.1,.int (cs.getD x.2.1.toNat 0),rfl,rfl,CY.of (hs _ _ hc),jV hx.1 hx.2.1,_,rfl,_,_,rfl,rfl,.inl ⟨by omega,by omega⟩,hq _ (Same.refl _)⟩
  have fin:∀(l:ju)(σ:L2.St)(H1:Hp),Same H H1->H1 l=some (.lst (cl.map λx=>V.int (cw cs x)))->∃(p:ju)(ns:List Int),[V.ref l]=[.ref p]/\CW K H1 p (ns.map V.int)/\ns.length<=1000/\(∀n∈ns,-10000<=n/\n<=10000)/\Q (.int ns.sum) H1:=λl σ H1 hs1 hl1=>by
   refine⟨l,cl.map (cw cs),rfl,CW.of (by rw[hl1];simp only[d7];rfl),by rw[di];omega,λn hn=> ?_,q H1 hs1⟩;obtain⟨x,hx,rfl⟩:=fm.mp hn;have:=kH Gc (hf.2 x hx);omega
  rcases ha with ha|ha
  ·refine .inl ⟨_,rfl,a,rfl,⟨_,CY.of ha⟩,λZ l Ao=> ?_⟩;exact mJ (rest:=[some (.ref c)]) gM (λH' hs=>CY.of (hs _ _ ha)) hC Ao (by omega) (λx=> .int (cw cs x)) turn λσ H1 hs1 hl1=>fin l σ H1 hs1 hl1
  ·refine .inr ⟨_,rfl,a,rfl,⟨_,CW.of ha⟩,λZ l Ao=> ?_⟩;exact mJ (rest:=[some (.ref c)]) gH (λH' hs=>CW.of (hs _ _ ha)) hC Ao (by omega) (λx=> .int (cw cs x)) turn λσ H1 hs1 hl1=>fin l σ H1 hs1 hl1
theorem B28:(["claim","holder"]:List Str).Nodup:=by decide +kernel
theorem A93 (F:D1 K mg "count_of" qB ["custom","claims","holder"])(a1:A1 P w K mg base 6 "check_claims_under" vP)(a2:A1 P w K mg base 3 "check_holder" uB)(a3:A1 P w K mg base 1 "count_together" tE):A1 P w K mg base 7 "count_of" yB:=by
 refine F.k ["custom","claims","holder"] ?_;ac_nf
 ·obtain⟨c,a,cs,cl,i,rfl,hc,Gc,hA,G,hU,hh,q⟩:=h;refine⟨_,aT (dP (a1.c hr (aD (pv 0) (aD (pv 1) aB))))<|aT (dP (a2.c hr (aD (pv 1) (aD (pv 2) aB))))<|
   aR (aY (a3.c hr (aD (pv 0) (cY (bQ (bB qB).names ["custom","claims","holder"] ["claim"] [("holder",2)] rfl (cW (pv 1)) rfl rfl rfl (by decide +kernel)
    (λZ=>CZ 0 B28) (λZ=>dX (cB fN (bK cD (pv 0) aU (λ_ _=>rfl)) (pv 1) (nomark _))) (λZ=>pv 0)) aB)))),?_⟩
  refine⟨_,rfl,_,rfl,c,a,cs,cl,rfl,hc,Gc,hA,G,hU,λH1 s1=> ?_⟩;refine⟨_,rfl,_,rfl,a,cl,i,rfl,hA.ext s1.ext,G.l12,hh,λH2 s2=> ?_⟩;obtain⟨bs,ha,hC⟩:=(hA.ext s1.ext).ext s2.ext;have hl:bs.length=cl.length:=Paired.length hC;have h12:=G.l12;refine⟨_,rfl,_,rfl,a,rfl,⟨_,CY.of ha⟩,λZ l Ao=> ?_⟩;refine gC (K:=K) (a:=a) (xs:=bs.map V.ref) (λj σ H'=>(∃o,σ=[o,some (.int i)])/\Same H2 H'/\∃Cw:List ju,H' l=some (.lst (Cw.map V.ref))/\ClP H' Cw (ofH (cl.take j) i)) ⟨⟨_,rfl⟩,aK Ao,[],by rw[aG];rfl,.nil⟩ (λj σ H' _ h=>CY.of (h.2.1 _ _ ha)) ?_ ?_
  ·rintro j x σ H' hx ⟨⟨o,rfl⟩,hs,Cw,Cz,hC2⟩;rw[cy]at hx;cases hb:bs[j]? with
   |none=>rw[hb]at hx;cases hx
   |some b=>
    rw[hb]at hx;cases hx;obtain⟨y,hy,he⟩:=hC.get hb;have hj:j<bs.length:=(CL.mp hb).1;have hbl:Cw.length<=j:=by
     have:=Paired.length hC2;have h2:=dh (λc:C3=>decide (c.1=i)) (cl.take j);rw[du]at h2;unfold ofH at this;omega
    show cL _ _ _ [some (.ref b),some (.int i)] H';refine⟨_,rfl,b,_,0,.int y.1,rfl,rfl,CY.of (hs _ _ he),cK (j:=0) rfl,_,rfl,rfl,_,rfl,?_⟩;have ed:decide (V.int y.1=V.int i)=decide (y.1=i):=decide_eq_decide.mpr ⟨λz=>V.int.inj z,λz=>by rw[z]⟩;rw[ed];have et:ofH (cl.take (j+1)) i=ofH (cl.take j) i++(if decide (y.1=i)=true then [y]else []):=by
     unfold ofH;rw[iu,hy,bg]
     congr 1
     by_cases z:y.1=i
     ·simp[z]
     ·simp[z]
    refine fB (λhz=> ?_) λhz=> ?_
    ·refine⟨_,rfl,_,Cz,cO (by rw[di];omega),⟨_,rfl⟩,λb' u e=> ?_,Cw++[b],?_,?_⟩
     ·rw[aN (bG e Ao)];exact hs _ _ e
     ·rw[aG,dz];rfl
     ·rw[et,if_pos hz];have up:∀b' xs,H' b'=some (.tup xs)->(upd H' l (.lst (Cw.map V.ref++[.ref b]))) b'=some (.tup xs):=λb' xs e=>by rw[aN (λz=>by rw[z,Cz]at e;cases e)];exact e
      exact Paired.snoc (Paired.mapP hC2 λ_ _ e=>up _ _ e) (up _ _ (hs _ _ he))
    ·refine⟨⟨_,rfl⟩,hs,Cw,Cz,?_⟩;rw[et,if_neg (by rw[hz];decide),ak];exact hC2
  ·rintro σ H' ⟨_,hs,Cw,Cz,hC2⟩;rw[di,hl,iq (CT _)]at hC2;exact⟨c,l,cs,Cw,ofH cl i,rfl,hs _ _ (s2 _ _ (s1 _ _ hc)),Gc,.inr Cz,hC2,(mG G hU).sub i,λH3 s3=>q H3 (((s1.trans s2).trans hs).trans s3)⟩
noncomputable def frTop (t b:Int):Int:=t/((Ar t.toNat b.toNat:Nat):Int)
noncomputable def frBot (t b:Int):Int:=b/((Ar t.toNat b.toNat:Nat):Int)
noncomputable def uE:Sp:=λvs H Q _=> ∃t b,vs=[.int t,.int b]/\(0<=t/\t<1000000000)/\(1<=b/\b<1000000)/\∀p,H p=none->Q (.ref p) (upd H p (.tup [.int (frTop t b),.int (frBot t b)]))
noncomputable def A05:Sp:=λvs H Q _=> ∃c a cs cl i,vs=[.ref c,.ref a,.int i]/\fI H c cs/\fC cs/\ClT H a cl/\fQ cl/\iD cs cl/\eE cl i=true/\∀p H',Same H H'->H' p=some (.tup [.int (frTop (bN cs cl i) (bF cs cl)),.int (frBot (bN cs cl i) (bF cs cl))])->Q (.ref p) H'
theorem B3n (a b:Nat):Ar b (a%b)=Ar a b:=by rw[Nat.gcd_comm b,←Nat.gcd_rec,Nat.gcd_comm]
theorem B0y (F:D1 K mg "fraction" xU ["top","bottom"]):A1 P w K mg base 1 "fraction" uE:=by
 refine F.k ["top","bottom","divisor","rest"] ?_;ac_nf
 ·obtain⟨t,b,rfl,ht,hb,q⟩:=h;obtain⟨tn,rfl⟩:=md ht.1;obtain⟨bn,rfl⟩:=md (show 0<=b by omega);refine⟨_,aT (jL (i:=2) (j:=3) rfl nd rfl rfl (by decide) rfl rfl (aD (pv 0) (aD (pv 1) aB)) rfl)<|
   aT (uX k9 (cB vY (pv 3) aU (nomark _)) (aR (jL (i:=2) (j:=3) rfl nd rfl rfl (by decide) rfl rfl (aD (pv 3) (dQ (bC kY (pv 2) (pv 3)) aB)) rfl)))<|
   aR (aY (bT (dQ (bC pH (pv 0) (pv 2)) (dQ (bC pH (pv 1) (pv 2)) aB)))),?_⟩
  refine⟨_,rfl,_,rfl,_,_,rfl,?_⟩;refine xX (λσ H'=>H'=H/\∃x y:Nat,σ=[some (.int (tn:Int)),some (.int (bn:Int)),some (.int (x:Int)),some (.int (y:Int))]/\Ar x y=Ar tn bn/\x<1000000000/\y<1000000000) (λσ _=>match σ with| [_,_,_,some (.int y)]=>y.toNat|_=>0)
   ⟨rfl,tn,bn,rfl,rfl,by omega,by omega⟩ ?_ (λσ H' R R' hi hc=> ?_)
  ·rintro σ H' ⟨rfl,x,y,rfl,hg,hx,hy⟩;refine⟨_,rfl,_,_,rfl,rfl,_,rfl,dY (λhp=> ?_) λhp=> ?_⟩
   ·have hy0:0<y:=by omega
    refine⟨_,rfl,_,rfl,_,rfl,_,_,rfl,rfl,(by omega),_,_,rfl,?_⟩;have hm:x%y<y:=mod_lt _ hy0;refine⟨⟨rfl,y,x%y,?_,by rw[B3n];exact hg,hy,by omega⟩,?_⟩
    ·show [some (V.int (tn:Int)),some (.int (bn:Int)),some (.int (y:Int)),some (.int ((x:Int)%(y:Int)))]=_;rw[Int.natCast_emod]
    ·show((x:Int)%(y:Int)).toNat<((y:Int)).toNat;have e:(x:Int)%(y:Int)=((x%y:Nat):Int):=(Int.natCast_emod x y).symm;rw[e,lq,lq];exact hm
   ·have hy0:y=0:=by omega
    subst hy0;rw[Nat.gcd_zero_right]at hg;subst hg;have hgp:0<Ar tn bn:=AA _ (by omega);refine⟨_,rfl,_,rfl,_,_,rfl,rfl,⟨by omega,by omega⟩,_,rfl,_,rfl,_,_,rfl,rfl,⟨by omega,by omega⟩,by show 2<=jv;decide,λp hp'=> ?_⟩;exact q p hp'
  ·obtain⟨v,e1,h1⟩:=hc;obtain⟨i,j,e2,e3,c,e4,h2⟩:=h1;exact⟨v,e1,i,j,e2,e3,c,e4,hi _ _ h2⟩
theorem nK (Gc:fC cs)(G:fQ cl)(U:iD cs cl)(i:Int):(0<=bN cs cl i/\bN cs cl i<1000000)/\1<=bF cs cl/\bF cs cl<1000000:=by have hf:=mG G U;have h1:=uF Gc hf.2;have h2:=uF Gc (hf.sub i).2;have:=G.l1;have:=hf.1;have:=(hf.sub i).1;unfold bN;omega
theorem B4i (F:D1 K mg "share_of" A1w ["custom","claims","holder"])(a1:A1 P w K mg base 1 "fraction" uE)(a2:A1 P w K mg base 7 "count_of" yB)(a3:A1 P w K mg base 1 "count_together" tE):A1 P w K mg base 8 "share_of" A05:=by
 refine F.k ["custom","claims","holder"] ?_;ac_nf
 ·obtain⟨c,a,cs,cl,i,rfl,hc,Gc,hA,G,hU,hh,q⟩:=h;refine⟨_,aR (aY (a1.c hr (bM (a2.c hr (aD (pv 0) (aD (pv 1) (aD (pv 2) aB)))) (bM (a3.c hr (aD (pv 0) (aD (pv 1) aB))) aB)))),?_⟩;refine⟨_,rfl,_,rfl,_,rfl,c,a,cs,cl,i,rfl,hc,Gc,hA,G,hU,hh,λH1 s1=> ?_⟩;obtain⟨bs,ha,hC⟩:=hA.ext s1.ext;refine⟨_,rfl,_,rfl,c,a,cs,bs,cl,rfl,s1 _ _ hc,Gc,.inl ha,hC,mG G hU,λH2 s2=> ?_⟩;have hb:=nK Gc G hU i;exact⟨_,_,rfl,⟨hb.1.1,by omega⟩,hb.2,λp hp=>q p _ ((s1.trans s2).trans (aK hp)) aG⟩
noncomputable def zI (K:W.Frag):Sp:=λvs H Q _=> ∃a ns k,vs=[.ref a,.int k]/\CW K H a ((ns:List Int).map V.int)/\0<=k/\∀i,Q (.int i) H
noncomputable def uP:Sp:=λvs H Q _=> ∃i:Int,vs=[.int i]/\∀p H',H p=none->Same H H'->PenAt H' p->Q (.ref p) H'
noncomputable def kO:Sp:=λvs H Q _=> ∃p m,vs=[.ref p,.int m]/\PenAt H p/\0<m/\m<1000000/\∀d H',0<=d->d<m->C0 p H H'->Q (.int d) H'
theorem A4j (F:D1 K mg "_law_cell" xH ["_law_script","_law_k"])(T:C5 mg):A1 P w K mg base 1 "_law_cell" (zI K):=by
 refine F.k ["_law_script","_law_k"] ?_;ac_nf
 ·obtain⟨a,ns,k,rfl,ha,hk,q⟩:=h;refine⟨_,aT (bV (cB oX (pv 1) (bD eJ rfl T.len m9 (bA (pv 0) aB)) (nomark _)) (aR (aY (bK fG (pv 0) (pv 1) (λ_ _=>rfl)))) bU) (aR (aY aU)),?_⟩;refine⟨_,rfl,_,rfl,a,_,rfl,.inl ha,_,_,rfl,rfl,_,rfl,dY (λh1=> ?_) λh1=>q 0⟩;rw[di]at h1;obtain⟨n,rfl⟩:=md hk;have CA:n<ns.length:=by omega
  exact⟨_,rfl,_,rfl,a,_,n,.int ns[n],rfl,rfl,ha,cK (by rw[cy];simp[CA]),q _⟩
theorem A7d (F:D1 K mg "_law_pen" yS ["_law_cell_here"])(T:C5 mg):A1 P w K mg base 1 "_law_pen" uP:=by
 refine F.k ["_law_cell_here"] ?_;ac_nf
 ·obtain⟨i,rfl,q⟩:=h;refine⟨_,aR (aY (cZ (bA (pv 0) (bA (eP sJ rfl T.int boot_int (bA (eX mP (pv 0) (bC A8a aU aU) (nomark _)) aB)) aB)))),?_⟩;refine⟨_,rfl,_,rfl,_,_,rfl,rfl,⟨by decide,by decide,by decide⟩,_,_,rfl,rfl,.inr ⟨_,rfl,?_⟩⟩;refine⟨by show 2<=jv;decide,λl hl=> ?_⟩;exact q l _ hl (aK hl) ⟨_,_,aG⟩
theorem scDraw:gD ["_law_pen_here","_law_bound","_law_drawn"] ["_law_pen_here","_law_bound"] (bB sK):=by ac_rfl
theorem B4d (F:D1 K mg "_law_draw" sK ["_law_pen_here","_law_bound"])(T:C5 mg):A1 P w K mg base 1 "_law_draw" kO:=by
 refine F.k ["_law_pen_here","_law_bound","_law_drawn"] ?_;ac_nf
 ·obtain⟨p,m,rfl,⟨x,f1,hp⟩,h0,h1,q⟩:=h;refine⟨_,aT (bV (cB fN (bK fG (pv 0) aU (λ_ _=>rfl)) aU (nomark _))
    (aT (bJ (i:=2) scDraw.nd rfl (ng rfl) (bC kY (bK fG (pv 0) aU (λ_ _=>rfl)) (pv 1)))
    (aT (cQ (bC pH (bK fG (pv 0) aU (λ_ _=>rfl)) (pv 1)) (uW (pv 0) aU vD))
    (aR (aY (pv 2))))) bU)
   (aT (cQ (bC kY (bC dG (bC eQ (bC kY (bK fG (pv 0) aU (λ_ _=>rfl)) aU) aU) aU) aU) (uW (pv 0) aU vD))
   (aR (aY (bC kY (bC pH (bC kY (bC dG (bC eQ (bK fG (pv 0) aU (λ_ _=>rfl)) (bK fG (pv 0) aU (λ_ _=>rfl))) (bC eQ aU (bK fG (pv 0) aU (λ_ _=>rfl)))) aU) aU) (pv 1))))),?_⟩
  refine⟨_,rfl,p,_,1,_,rfl,rfl,CW.of hp,cK (j:=1) rfl,rfl,_,rfl,dY (λ_=> ?_) λ_=> ?_⟩
  ·refine⟨_,rfl,p,_,0,_,rfl,rfl,CW.of hp,cK (j:=0) rfl,_,rfl,_,_,rfl,rfl,h0,?_⟩;refine⟨_,rfl,p,_,0,_,rfl,rfl,CW.of hp,cK (j:=0) rfl,_,rfl,_,_,rfl,rfl,⟨h0,by omega⟩,?_⟩;refine⟨_,rfl,p,_,0,0,rfl,rfl,hp,rfl,?_⟩;refine⟨_,rfl,?_⟩;exact q _ _ (Bq _ (by omega)) (Ab _ h0) ⟨⟨_,_,aG⟩,λb o hb e=>by rw[aN hb];exact e⟩
  ·have hm:∀y:Int,0<=y%2147483629/\y%2147483629<2147483629:=λy=> ⟨Bq _ (by omega),Ab _ (by omega)⟩;have b1:=hm x;have b2:=hm (x%2147483629*48271+11);refine⟨_,rfl,p,_,0,_,rfl,rfl,CW.of hp,cK (j:=0) rfl,_,_,rfl,rfl,(by show(0:Int)<2147483629;decide),_,_,rfl,rfl,.inl ⟨by omega,by omega⟩,_,_,rfl,rfl,_,_,rfl,rfl,(by show(0:Int)<2147483629;decide),?_⟩;refine⟨_,rfl,p,_,0,0,rfl,rfl,hp,rfl,?_⟩;refine⟨_,rfl,p,_,0,_,rfl,rfl,CW.of aG,cK (j:=0) rfl,_,rfl,p,_,0,_,rfl,rfl,CW.of aG,cK (j:=0) rfl,_,_,rfl,rfl,.inl ⟨by omega,by omega⟩,?_⟩;refine⟨_,rfl,p,_,0,_,rfl,rfl,CW.of aG,cK (j:=0) rfl,_,_,rfl,rfl,.inl ⟨by decide,by decide⟩,_,_,rfl,rfl,_,_,rfl,rfl,(by show(0:Int)<2147483647;decide),_,_,rfl,rfl,⟨by decide,by decide⟩,_,rfl,_,_,rfl,rfl,h0,?_⟩;exact q _ _ (Bq _ (by omega)) (Ab _ h0) ⟨⟨_,_,aG⟩,λb o hb e=>by rw[aN hb];exact e⟩
noncomputable def mT:Sp:=λvs H Q _=> ∃p l xs,vs=[.ref p,.ref l]/\PenAt H p/\l≠p/\H l=some (.lst xs)/\1<=xs.length/\xs.length<=1000/\∀v H',v∈xs->C0 p H H'->Q v H'
theorem A7p (F:D1 K mg "_law_pick" vX ["_law_pen_here","_law_things"])(T:C5 mg)(a1:A1 P w K mg base 1 "_law_draw" kO):A1 P w K mg base 2 "_law_pick" mT:=by
 refine F.k ["_law_pen_here","_law_things"] ?_;ac_nf
 ·obtain⟨p,l,xs,rfl,hp,hlp,hl,h1,hz,q⟩:=h;refine⟨_,aR (aY (bK fG (pv 1) (a1.c hr (aD (pv 0) (bM (bD eJ rfl T.len m9 (aD (pv 1) aB)) aB))) (λ_ _=>rfl))),?_⟩;refine⟨_,rfl,_,rfl,_,rfl,l,xs,rfl,.inl (CW.of hl),p,(xs.length:Int),rfl,hp,by omega,by omega,λd H' d0 d1' st=> ?_⟩;obtain⟨n,rfl⟩:=md d0;have hn:n<xs.length:=by omega
  exact⟨l,xs,_,xs[n],rfl,rfl,CW.of (st.keep l _ hlp hl),cK (cx hn),q _ _ (c5 _) st⟩
noncomputable def qE (a b:V):Prop:=a=b/\((∃i,a= .int i)\/(∃x,a= .str x)\/(∃y,a= .bl y)\/a= .non)
noncomputable def SameV (H:Hp):Nat->V->V->Prop
 |0,a,b=>qE a b
 |n+1,a,b=>qE a b\/ ∃p q xs ys,a= .ref p/\b= .ref q/\((H p=some (.lst xs)/\H q=some (.lst ys))\/(H p=some (.tup xs)/\H q=some (.tup ys)))/\xs.length<=1000/\Paired (SameV H n) xs ys
theorem SameV.same (s:Same H H'):∀{n:Nat}{a b:V},SameV H n a b->SameV H' n a b
 |0,_,_,h=>h
 |n+1,a,b,h=>by
  rcases h with h| ⟨p,q,xs,ys,h1,h2,h3,h4,h5⟩
  ·exact .inl h
  ·refine .inr ⟨p,q,xs,ys,h1,h2,?_,h4,Paired.mapP h5 λ_ _ z=>SameV.same s z⟩;rcases h3 with⟨u,v⟩| ⟨u,v⟩
   ·exact .inl ⟨s _ _ u,s _ _ v⟩
   ·exact .inr ⟨s _ _ u,s _ _ v⟩
theorem SameV.int (n:Nat)(i:Int):SameV H n (.int i) (.int i):=by cases n with|zero=>exact⟨rfl,.inl ⟨i,rfl⟩⟩|succ n=>exact .inl ⟨rfl,.inl ⟨i,rfl⟩⟩
theorem SameV.non (n:Nat):SameV H n .non .non:=by cases n with|zero=>exact⟨rfl,.inr (.inr (.inr rfl))⟩|succ n=>exact .inl ⟨rfl,.inr (.inr (.inr rfl))⟩
noncomputable def nQ (n:Nat):Sp:=λvs H Q _=> ∃a b,vs=[a,b]/\SameV H n a b/\∀H',Same H H'->Q (.bl true) H'
theorem B44:∀{l₁:List α}{l₂:List β}{i:Nat}{a:α}{b:β},Paired F l₁ l₂->l₁[i]?=some a->l₂[i]?=some b->F a b:=λh e1 e2=>by obtain⟨c,e,r⟩:=jG h e1;rw[e2]at e;cases e;exact r
theorem A4k:gD ["_law_told","_law_due"] ["_law_told","_law_due"] (bB jQ):=by ac_rfl
theorem vU:(["_law_one","_law_other"]:List Str).Nodup:=by decide +kernel
theorem wJ {f:ju}{fd:tm}{k:Nat}{spR:Sp}(F:Fun K "_law_same" "_law_same" jQ f fd)(T:C5 mg)(mS:mg "_law_same" =some (.ref f))(bS:L2.Binds K fd ["_law_told","_law_due"] [])
    (G:FnOk P w K mg base CX0 k f fd ["_law_told","_law_due"] spR)(SR:Hp->V->V->Prop)(hSR:∀H H',Same H H'->∀a b,SR H a b->SR H' a b)(hR:∀a b H Q E,SR H a b->(∀H',Same H H'->Q (.bl true) H')->spR [a,b] H Q E):
    FnOk P w K mg base CX0 (k+1) f fd ["_law_told","_law_due"] (λvs H Q _=> ∃a b,vs=[a,b]/\(qE a b\/ ∃p q xs ys,a= .ref p/\b= .ref q/\((H p=some (.lst xs)/\H q=some (.lst ys))\/(H p=some (.tup xs)/\H q=some (.tup ys)))/\xs.length<=1000/\Paired (SR H) xs ys)/\∀H',Same H H'->Q (.bl true) H'):=by
  refine F.ok A4k (λvs H Q E h=> ?_) (λcdv A outer s H vs Q E hr h=> ?_)
  · obtain⟨a,b,rfl,_⟩:=h;rfl
  · obtain⟨a,b,rfl,hS,q⟩:=h
    refine⟨_,aT (bV (cA (bD A1d rfl T.isinstance qb (aD (pv 1) (gI (bT (aD (gA (v:=.ty "list") rfl T.list AX rfl) (aD (gA (v:=.ty "tuple") rfl T.tuple r6 rfl) aB))) aB))))
        (aT (bV (PW.pt (jP (cX (cA (bD A1d rfl T.isinstance qb (aD (pv 0) (gI (bT (aD (gA (v:=.ty "list") rfl T.list AX rfl) (aD (gA (v:=.ty "tuple") rfl T.tuple r6 rfl) aB))) aB)))))
            (lK (cB uM (bD jH rfl T.isinstance qb (aD (pv 0) (aD (gA (v:=.ty "list") rfl T.list AX rfl) aB))) (bD jH rfl T.isinstance qb (aD (pv 1) (aD (gA (v:=.ty "list") rfl T.list AX rfl) aB))) (nomark _))))) (aR (aY fH)) bU)<|
         aT (bV (cB uM (bD eJ rfl T.len m9 (aD (pv 0) aB)) (bD eJ rfl T.len m9 (aD (pv 1) aB)) (nomark _)) (aR (aY fH)) bU)<|
         aR (aY (bD (iF rfl) rfl T.all zw (cY (bQ (bB jQ).names ["_law_told","_law_due"] ["_law_one","_law_other"] [] rfl (PI.or (rZ A1m rfl T.zip (aD (pv 0) (aD (pv 1) aB))) (rZ B2u rfl T.zip (aD (pv 0) (aD (pv 1) aB)))) rfl rfl rfl (by decide +kernel)
            (λZ=>bI rfl (aV (CZ 0 vU) (aV (CZ 1 vU) bH))) (λZ=>cF) (λZ=>vR G hr rfl mS F.kp bS .nil xY (aD (pv 0) (aD (pv 1) aB)))) aB)))) bU)<|
      aR (aY (hJ (eX fN (bD jH rfl T.isinstance qb (aD (pv 0) (aD (gA (v:=.ty "bool") rfl T.bool boot_bool rfl) aB))) (bD jH rfl T.isinstance qb (aD (pv 1) (aD (gA (v:=.ty "bool") rfl T.bool boot_bool rfl) aB))) (nomark _)) (gT (eX fN (pv 0) (pv 1) (nomark _))))),?_⟩
    rcases hS with⟨rfl,hf⟩| ⟨p,qq,xs,ys,rfl,rfl,hpq,hz,hP⟩
    ·
      have hsc:scal a a=true:=by rcases hf with⟨i,rfl⟩| ⟨x,rfl⟩| ⟨y,rfl⟩|rfl<;>rfl
      refine⟨_,rfl,by show 2<=jv;decide,λt ht=> ?_⟩;have s1:=aK (o:=.tup [.ty "list",.ty "tuple"]) ht;have hty1:∃ty,TyOf K (upd H t (.tup [.ty "list",.ty "tuple"])) a ty/\(∃T,ty= .type T)/\W.kitAny K ty (["list","tuple"].map oj)=some false/\∃tb,W.kitOne K ty (.type "bool")=some tb:=by
        rcases hf with⟨i,rfl⟩| ⟨x,rfl⟩| ⟨y,rfl⟩|rfl
        · exact⟨_,.int i,⟨_,rfl⟩,by kernel_rfl,false,by kernel_rfl⟩
        · exact⟨_,.str x,⟨_,rfl⟩,by kernel_rfl,false,by kernel_rfl⟩
        · exact⟨_,.bl y,⟨_,rfl⟩,by kernel_rfl,true,by kernel_rfl⟩
        · exact⟨_,.non,⟨_,rfl⟩,by kernel_rfl,false,by kernel_rfl⟩
      obtain⟨ty1,a1,a2,a3,tb,a4⟩:=hty1;refine⟨_,t,ty1,false,["list","tuple"],rfl,aG,a1,a2,a3,_,rfl,bY ?_⟩;refine⟨_,rfl,_,"bool",ty1,tb,rfl,a1,a4,_,rfl,_,"bool",ty1,tb,rfl,a1,a4,rfl,_,rfl,?_⟩;rw[CM rfl];refine fY ⟨_,rfl,_,rfl,hsc,?_⟩;rw[CM rfl];exact q _ s1
    · have ue:xs.length=ys.length:=Paired.length hP
      refine⟨_,rfl,by show 2<=jv;decide,λt ht=> ?_⟩;have s1:=aK (o:=.tup [.ty "list",.ty "tuple"]) ht;have kinds:∃T,(T= "list" \/T= "tuple")/\(∀H',Same H H'->TyOf K H' (.ref p) (.type T)/\TyOf K H' (.ref qq) (.type T))/\W.kitAny K (.type T) (["list","tuple"].map oj)=some true/\W.kitOne K (.type T) (.type "list")=some (decide (T= "list")):=by
        rcases hpq with⟨h1,h2⟩| ⟨h1,h2⟩
        · exact⟨"list",.inl rfl,λH' s=> ⟨.lst (s _ _ h1),.lst (s _ _ h2)⟩,by kernel_rfl,by kernel_rfl⟩
        · exact⟨"tuple",.inr rfl,λH' s=> ⟨.tup (s _ _ h1),.tup (s _ _ h2)⟩,by kernel_rfl,by kernel_rfl⟩
      obtain⟨TT,hTT,hk,k1,k2⟩:=kinds;refine⟨_,t,.type TT,true,["list","tuple"],rfl,aG,(hk _ s1).2,⟨_,rfl⟩,k1,_,rfl,fY ?_⟩;refine⟨_,rfl,by show 2<=jv;decide,λt2 ht2=> ?_⟩;have s2:=s1.trans (aK (o:=.tup [.ty "list",.ty "tuple"]) ht2);refine⟨_,t2,.type TT,true,["list","tuple"],rfl,aG,(hk _ s2).1,⟨_,rfl⟩,k1,_,rfl,bY ?_⟩;refine⟨_,rfl,_,"list",.type TT,_,rfl,(hk _ s2).1,k2,_,rfl,_,"list",.type TT,_,rfl,(hk _ s2).2,k2,rfl,_,rfl,rF rfl ?_⟩;have sq:∀H',Same H H'->(CW K H' p xs\/CY K H' p xs)/\(CW K H' qq ys\/CY K H' qq ys):=λH' s=>by
        rcases hpq with⟨h1,h2⟩| ⟨h1,h2⟩
        · exact⟨.inl (CW.of (s _ _ h1)),.inl (CW.of (s _ _ h2))⟩
        · exact⟨.inr (CY.of (s _ _ h1)),.inr (CY.of (s _ _ h2))⟩
      refine⟨_,rfl,p,xs,rfl,(sq _ s2).1,_,rfl,qq,ys,rfl,(sq _ s2).2,rfl,_,rfl,rF (by rw[ue]) ?_⟩;have loop:∀(kk:SeqK),(∀H',Same H H'->kk.Sq K H' p xs/\kk.Sq K H' qq ys)->∀(l:ju)(H2:Hp),Same H H2->H2 l=none->∀(Q':L2.St->Hp->Prop),(∀σ H',Same H2 H'->H' l=some (.lst (xs.map λ_=>V.bl true))->Q' σ H')->
          cP (Itz (λH xs=>kk.Sq K H p xs) λH ys=>kk.Sq K H qq ys) (iR K 2 (fA (cN 0) (fA (cN 1) iS))) (cL gK (eN l (rP spR [] E0 (bX (dE 0) (bX (dE 1) iJ))))) (eC Q') [none,none] (upd H2 l (.lst [])):=by
        intro kk hkk l H2 sH hl Q' hQ';refine yU (xs:=xs) (ys:=ys) (ja ue.symm) (λi σ H'=>σ.length=2/\Same H2 H'/\H' l=some (.lst ((xs.take i).map λ_=>V.bl true))) ⟨rfl,aK hl,by rw[aG];rfl⟩ (λi σ H' h=>hkk H' (sH.trans h.2.1)) ?_ ?_
        · rintro i x y p3 σ H' hx hy ⟨hσ,hs,Ao⟩ hp3
          obtain⟨x0,x1,rfl⟩:=oJ hσ;have s3:=aK (o:=.tup [x,y]) hp3;refine⟨p3,_,rfl,CY.of aG,rfl,_,_,rfl,_,_,rfl,rfl,?_⟩;refine gX ?_;refine⟨_,rfl,_,rfl,?_⟩;refine hR x y _ _ _ (hSR _ _ ((sH.trans hs).trans s3) x y (B44 hP hx hy)) λH4 s4=> ?_;refine⟨_,s4 _ _ (s3 _ _ Ao),cO (by rw[di,du];omega),rfl,λb' u e'=> ?_,?_⟩
          · rw[aN (bG e' hl)];exact s4 _ _ (s3 _ _ (hs _ _ e'))
          · rw[aG,iu,hx,dz];rfl
        · rintro σ H' ⟨_,hs,Ao⟩
          rw[iq (ja ue)]at Ao;exact hQ' σ H' hs Ao
      have fin:∀(l:ju)(H2:Hp),Same H H2->∀(σ:L2.St)(H':Hp),Same H2 H'->H' l=some (.lst (xs.map λ_=>V.bl true))->∃(p:ju)(bs:List Bool),[V.ref l]=[.ref p]/\CW K H' p (bs.map V.bl)/\Q (.bl (bs.all id)) H':=λl H2 sH σ H' hs Ao=>by
        refine⟨l,xs.map λ_=>true,rfl,CW.of (by rw[Ao,d7];rfl),?_⟩;have:(xs.map λ_=>true).all id=true:=by simp
        rw[this];exact q H' (sH.trans hs)
      rcases hpq with⟨h1,h2⟩| ⟨h1,h2⟩
      · refine .inl ⟨_,rfl,_,rfl,p,qq,xs,ys,rfl,CW.of (s2 _ _ h1),CW.of (s2 _ _ h2),λZ l hl=> ?_⟩
        exact loop kL (λH' s=> ⟨CW.of (s _ _ h1),CW.of (s _ _ h2)⟩) l _ s2 hl _ λσ H' hs Ao=>fin l _ s2 σ H' hs Ao
      · refine .inr ⟨_,rfl,_,rfl,p,qq,xs,ys,rfl,CY.of (s2 _ _ h1),CY.of (s2 _ _ h2),λZ l hl=> ?_⟩
        exact loop kT (λH' s=> ⟨CY.of (s _ _ h1),CY.of (s _ _ h2)⟩) l _ s2 hl _ λσ H' hs Ao=>fin l _ s2 σ H' hs Ao
theorem A1q {f:ju}{fd:tm}(F:Fun K "_law_same" "_law_same" jQ f fd)(T:C5 mg)(mS:mg "_law_same" =some (.ref f))(bS:L2.Binds K fd ["_law_told","_law_due"] []):∀n:Nat,FnOk P w K mg base CX0 (n+1) f fd ["_law_told","_law_due"] (nQ n)
 |0=>(wJ (k:=0) F T mS bS FnOk.never (λ_ _ _=>False) (λ_ _ _ _ _ z=>z) (λ_ _ _ _ _ z=>z.elim)).imp λvs H Q E h=>by
  obtain⟨a,b,e,h1,h2⟩:=h;exact⟨a,b,e,.inl h1,h2⟩
 |n+1=>(wJ (k:=n+1) F T mS bS (A1q F T mS bS n) (λH a b=>SameV H n a b) (λH H' s a b z=>SameV.same s z) (λa b H Q E h q=> ⟨a,b,rfl,h,q⟩)).imp λvs H Q E h=>by
  obtain⟨a,b,e,h1,h2⟩:=h;exact⟨a,b,e,h1,h2⟩
theorem A9h (F:D1 K mg "_law_same" jQ ["_law_told","_law_due"])(T:C5 mg)(n:Nat):A1 P w K mg base (n+1) "_law_same" (nQ n):=let ⟨_,_,F,m,b⟩:=F;⟨_,_,_,m,F.kp,b,A1q F T m b n⟩
noncomputable def ent (c:C3):List Key×V:=([kr c.1,kr c.2.1],.int c.2.2)
noncomputable def gF (es:List C3)(h s m:Int):List C3:=if (es.any λc=>decide (bR c=(h,s)))=true then es.map (λc=>if bR c=(h,s)then(h,s,m)else c)else es++[(h,s,m)]
theorem key_eq:(ent c).1=[kr h,kr s]↔bR c=(h,s):=by
 unfold ent bR;constructor
 ·intro e;have e1:=(AB e).1;have e2:=(AB (AB e).2).1;rw[uq e1,uq e2]
 ·intro e;rw[(BP e).1,(BP e).2]
theorem A86 (es:List C3)(h s m:Int):cC (es.map ent) [kr h,kr s] (.int m)=(gF es h s m).map ent:=by
 unfold cC gF;have e1:((es.map ent).any λkv=>decide (kv.1=[kr h,kr s]))=es.any λc=>decide (bR c=(h,s)):=by
  rw[ai]
  congr 1
  funext c
  exact decide_eq_decide.mpr key_eq
 rw[e1]
 split
 ·rw[d7,d7];refine d5 λc _=> ?_;show(if (ent c).1=[kr h,kr s]then((ent c).1,V.int m)else ent c)=ent (if bR c=(h,s)then(h,s,m)else c);by_cases e:bR c=(h,s)
  ·rw[if_pos (key_eq.mpr e),if_pos e,key_eq.mpr e];rfl
  ·rw[if_neg (λz=>e (key_eq.mp z)),if_neg e]
 ·rw[dz];rfl
theorem B4y (es:List C3)(h s m:Int)(hn:(es.map bR).Nodup):((gF es h s m).map bR).Nodup:=by
 unfold gF;by_cases hany:(es.any λc=>decide (bR c=(h,s)))=true
 ·rw[if_pos hany,d7];have:es.map (bR∘λc=>if bR c=(h,s)then(h,s,m)else c)=es.map bR:=d5 λc _=>by
   show bR (if bR c=(h,s)then(h,s,m)else c)=bR c;by_cases e:bR c=(h,s)
   ·rw[if_pos e,e];rfl
   ·rw[if_neg e]
  rw[this];exact hn
 ·rw[if_neg hany,dz];refine f7.mpr ⟨hn,by simp,λa ha b hb e=>hany ?_⟩;have hb':b=(h,s):=by simpa[bR]using hb
  obtain⟨c,hc,rfl⟩:=fm.mp ha;exact ah.mpr ⟨c,hc,CM (e.trans hb')⟩
theorem A62 {es:List C3}{h s m:Int}{B:C3->Prop}(ha:∀c∈es,B c)(hb:B (h,s,m)):∀c∈gF es h s m,B c:=by
 unfold gF;intro c hc;by_cases hany:(es.any λc=>decide (bR c=(h,s)))=true
 ·rw[if_pos hany]at hc;obtain⟨d,hd,rfl⟩:=fm.mp hc;by_cases e:bR d=(h,s)
  ·rw[if_pos e];exact hb
  ·rw[if_neg e];exact ha d hd
 ·rw[if_neg hany]at hc;rcases d8.mp hc with z|z
  ·exact ha c z
  ·rw[fy.mp z];exact hb
theorem B19 (es:List C3)(h s m:Int):(gF es h s m).length<=es.length+1/\1<=(gF es h s m).length:=by
 unfold gF;by_cases hany:(es.any λc=>decide (bR c=(h,s)))=true
 ·rw[if_pos hany,di];refine⟨by omega,?_⟩;obtain⟨c,hc,_⟩:=ah.mp hany;exact Bd hc
 ·rw[if_neg hany,c8];simp
noncomputable def row (c:C3):List Int:=[c.1,c.2.1,c.2.2]
noncomputable def unrow:List Int->C3| [a,b,c]=>(a,b,c)|_=>(0,0,0)
theorem B5d (h:HT.lexLt (row b) (row a)=false)(hn:bR a≠bR b):lt2 (bR a) (bR b)=true:=by
 obtain⟨a1,a2,a3⟩:=a;obtain⟨b1,b2,b3⟩:=b;unfold row at h;unfold lt2 bR;unfold bR at hn;dsimp only at h hn⊢;rw[HT.lexLt_cons,HT.lexLt_cons]at h⊢;by_cases e1:a1=b1
 ·subst e1;rw[if_pos rfl]at h⊢;by_cases e2:a2=b2
  ·subst e2;exact absurd rfl hn
  ·rw[if_neg (λz=>e2 z.symm),decide_eq_false_iff_not]at h;rw[if_neg e2,decide_eq_true_eq];omega
 ·rw[if_neg (λz=>e1 z.symm),decide_eq_false_iff_not]at h;rw[if_neg e1,decide_eq_true_eq];omega
theorem B0i (hz:zs.map (·.2)=es.map row)(hs:oC zs Cv)(h1:1<=es.length)(h12:es.length<=12)(hb:∀c∈es,(0<=c.1/\c.1<=3)/\(0<=c.2.1/\c.2.1<=5)/\1<=c.2.2/\c.2.2<=20)(hn:(es.map bR).Nodup):
  fQ (Cv.map λz=>unrow z.2)/\(Cv.map λz=>unrow z.2).Perm es/\∀z∈Cv,z.2=row (unrow z.2):=by
 have ue:zs.length=es.length:=by have:=congrArg pk hz;simpa using this
 have e0:zs.map (λz=>unrow z.2)=es:=by
  have:zs.map (λz=>unrow z.2)=(zs.map (·.2)).map unrow:=by rw[d7];rfl
  rw[this,hz,d7];exact List.map_id' es
 have hp:(Cv.map λz=>unrow z.2).Perm es:=by rw[←e0];exact hs.1.map _
 have hrow:∀z∈Cv,z.2=row (unrow z.2):=λz hz'=>by
  have hm:z.2∈zs.map (·.2):=fo (hs.1.mem_iff.mp hz');rw[hz]at hm;obtain⟨c,_,e⟩:=fm.mp hm;rw[←e];rfl
 have Ao:(Cv.map λz=>unrow z.2).length=es.length:=hp.length_eq;refine⟨⟨by omega,by omega,λc hc=>hb c (hp.mem_iff.mp hc),?_⟩,hp,hrow⟩;have nd:((Cv.map λz=>unrow z.2).map bR).Nodup:=((hp.map bR).nodup_iff).mpr hn;rw[d7]at nd⊢;rw[gc,gv]at nd;rw[gv];have both:=hs.2.and nd;rw[gu]at both⊢;intro i j hi hj hij;have b:=both i j hi hj hij;have r1:=hrow _ (c5 hi);have r2:=hrow _ (c5 hj);have b1:=b.1;rw[r1,r2]at b1;exact B5d b1 b.2
noncomputable def A0c:Sp:=λvs H Q _=> ∃p,vs=[.ref p]/\PenAt H p/\∀a cs H',C0 p H H'->fI H' a cs->fC cs->cs.length<=4->Q (.ref a) H'
theorem A5g:(["_law_turn","_law_pen_here"]:List Str).Nodup:=by decide +kernel
theorem A3z (F:D1 K mg "_law_custom" sW ["_law_pen_here"])(T:C5 mg)(a1:A1 P w K mg base 1 "_law_draw" kO)(a2:A1 P w K mg base 2 "_law_pick" mT):A1 P w K mg base 3 "_law_custom" A0c:=by
 refine F.k ["_law_pen_here"] ?_;ac_nf
 ·obtain⟨p,rfl,hp,q⟩:=h;have r1:Room 1 _:=hr.mono (by decide);refine⟨_,aR (aY (eP gW rfl T.tuple r6 (cY (bQ (bB sW).names ["_law_pen_here"] ["_law_turn"] [("_law_pen_here",0)] rfl (jK rfl T.range (dQ (bC dG aU (a1.c r1 (aD (pv 0) (dH aU aB)))) aB)) rfl rfl rfl (by decide +kernel)
   (λZ=>CZ 0 A5g) (λZ=>cF)
   (λZ=>a2.c hr (aD (pv 1) (kR (fT (lstq (bL (bL (bL (bL (kQ (bC dG aU (a1.c r1 (aD (pv 1) (dH aU aB)))) cT)))))) cT))))) aB))),?_⟩
  refine⟨_,rfl,p,4,rfl,hp,by decide,by decide,λd H1 d0 d1' st1=> ?_⟩;refine⟨_,_,rfl,rfl,1+d,rfl,by omega,by omega,λZ l hl=> ?_⟩;have hHl:H l=none:=by
   cases e:H l with
   |none=>rfl
   |some o=>
    by_cases z:l=p
    ·obtain⟨x,f',e'⟩:=st1.pen;rw[z,e']at hl;cases hl
    ·rw[st1.keep l o z e]at hl;cases hl
  have hlp:l≠p:=λz=>by
   obtain⟨x,f',e'⟩:=hp;rw[z,e']at hHl;cases hHl
  refine jE (lo:=0) (n:=(1+d).toNat) (λi σ H'=>(∃o,σ=[o,some (.ref p)])/\C0 p H H'/\∃cs:List Int,H' l=some (.lst (cs.map V.int))/\cs.length=i/\∀x∈cs,1<=x/\x<=100) ⟨⟨_,rfl⟩,st1.updL hHl hp,[],by rw[aG];rfl,rfl,λx hx=>by cases hx⟩ ?_ ?_
  ·rintro i σ H' hi ⟨⟨o,rfl⟩,st,cs,Ao,hn,hx⟩;refine iZ ?_;refine⟨_,rfl,_,rfl,p,100,rfl,st.pen,by decide,by decide,λm H2 m0 m1 st2=> ?_⟩;refine⟨_,_,rfl,rfl,by show 5<=jv;decide,λt ht=> ?_⟩;have htp:t≠p:=λz=>by
    obtain⟨x,f',e'⟩:=st2.pen;rw[z,e']at ht;cases ht
   have st3:=(st.trans st2).same (aK (o:=.lst [.int 1,.int 1,.int 2,.int 3,.int (1+m)]) ht);refine⟨p,t,_,rfl,st3.pen,htp,aG,by show 1<=5;decide,by show 5<=1000;decide,λv H4 hv st4=> ?_⟩;obtain⟨x,rfl,hx1,hx2⟩:∃x,v=V.int x/\1<=x/\x<=100:=by
    simp only[fe,gh,or_false]at hv;rcases hv with rfl|rfl|rfl|rfl|rfl
    ·exact⟨1,rfl,by decide,by decide⟩
    ·exact⟨1,rfl,by decide,by decide⟩
    ·exact⟨2,rfl,by decide,by decide⟩
    ·exact⟨3,rfl,by decide,by decide⟩
    ·exact⟨1+m,rfl,by omega,by omega⟩
   have CA:H2 l=some (.lst (cs.map V.int)):=st2.keep l _ hlp Ao;have hlt3:=aK (o:=.lst [.int 1,.int 1,.int 2,.int 3,.int (1+m)]) ht _ _ CA;refine⟨_,st4.keep l _ hlp hlt3,cO (by rw[di];omega),⟨_,rfl⟩,(st3.trans st4).updL hHl hp,cs++[x],?_,by rw[c8,hn];rfl,λy hy=> ?_⟩
   ·rw[aG,dz];rfl
   ·rcases d8.mp hy with z|z
    ·exact hx y z
    ·rw[fy.mp z];exact⟨hx1,hx2⟩
  ·rintro σ H' ⟨_,st,cs,Ao,hn,hx⟩;refine⟨l,_,rfl,.inl ⟨CW.of Ao,λa ha=> ?_⟩⟩;exact q a cs _ (st.same (aK ha)) aG ⟨by omega,by omega,hx⟩ (by omega)
noncomputable def lA (hs:List Int):Prop:=1<=hs.length/\hs.length<=1000/\∀x∈hs,0<=x/\x<=3
noncomputable def xP:Sp:=λvs H Q _=> ∃p c hl cs hs,vs=[.ref p,.ref c,.ref hl]/\PenAt H p/\fI H c cs/\fC cs/\hl≠p/\H hl=some (.lst ((hs:List Int).map V.int))/\lA hs/\∀a cl H',C0 p H H'->ClT H' a cl->fQ cl->iD cs cl->Q (.ref a) H'
noncomputable abbrev nCL:List Str:=["_law_pen_here","_law_custom_here","_law_holders_here","_law_rights","_law_turn","_law_holder","_law_sort"]
theorem A2t:(["_law_pair","_law_many"]:List Str).Nodup:=by decide +kernel
theorem A9z (F:D1 K mg "_law_claims" pC ["_law_pen_here","_law_custom_here","_law_holders_here"])(T:C5 mg)(a1:A1 P w K mg base 1 "_law_draw" kO)(a2:A1 P w K mg base 2 "_law_pick" mT):A1 P w K mg base 3 "_law_claims" xP:=by
  refine F.k nCL ?_;ac_nf
  · obtain⟨p,c,hl,cs,hs,rfl,hp,hc,Gc,hlp,hhl,Gh,q⟩:=h
    have r1:Room 1 _:=hr.mono (by decide);have hu:(A.deeper (zq "_law_claims" (bB pC) s.heap.objs.size f cdv)).units+1<nj:=vJ hr;refine⟨_,aT (bJ (i:=3) nd rfl (ng rfl) A1s)<|
      aT (dF k9 rfl (jK rfl T.range (dQ (bC dG aU (a1.c r1 (aD (pv 0) (dH aU aB)))) aB)) (CZ 4 nd)
        (aT (jL (i:=5) (j:=6) rfl nd rfl rfl (by decide) rfl rfl (bM (a2.c hr (aD (pv 0) (aD (pv 2) aB))) (bM (a1.c r1 (aD (pv 0) (bM (bD eJ rfl T.len m9 (aD (pv 1) aB)) aB))) aB)) rfl)<|
         aR (vQ hu (pv 3) (bT (aD (pv 5) (aD (pv 6) aB))) (a2.c hr (aD (pv 0) (kR (fT (lstq (bL (bL (bL (bL (kQ (bC dG aU (a1.c r1 (aD (pv 0) (dH aU aB)))) cT)))))) cT)))) rfl)))<|
      aR (aY (eP gW rfl T.tuple r6 (bM (bD wN rfl T.sorted Aq (cY (bQ (bB pC).names nCL ["_law_pair","_law_many"] [] rfl (B4u (pv 3)) rfl rfl rfl (by decide +kernel)
        (λZ=>bI rfl (aV (CZ 0 A2t) (aV (CZ 1 A2t) bH))) (λZ=>cF) (λZ=>bC nL (pv 0) (bT (aD (pv 1) aB)))) aB)) aB))),?_⟩
    intro d hd;have st0:C0 p H (upd H d (.dT [])):=(C0.refl hp).updO hd hp;refine⟨_,rfl,p,8,rfl,st0.pen,by decide,by decide,λdn H1 d0 d1' st1=> ?_⟩;refine⟨_,_,rfl,rfl,1+dn,rfl,by omega,by omega,?_⟩;have hdp:d≠p:=λz=>by
      obtain⟨x,y,e⟩:=hp;rw[z,e]at hd;cases hd
    refine jE (lo:=0) (n:=(1+dn).toNat) (λi σ H'=>(∃o4 o5 o6,σ=[some (.ref p),some (.ref c),some (.ref hl),some (.ref d),o4,o5,o6])/\C0 p H H'/\∃es:List C3,H' d=some (.dT (es.map ent))/\(es.map bR).Nodup/\(∀x∈es,((0<=x.1/\x.1<=3)/\(0<=x.2.1/\x.2.1<=5)/\1<=x.2.2/\x.2.2<=20)/\x.2.1<cs.length)/\es.length<=i/\(1<=i->1<=es.length))
      ⟨⟨_,_,_,rfl⟩,st0.trans st1,[],st1.keep d _ hdp aG,gg,(λx hx=>by cases hx),CT _,λz=>by omega⟩ ?_ ?_
    · rintro i σ H' hi ⟨⟨o4,o5,o6,rfl⟩,st,es,hd',hn,hb,ue,_⟩
      have hcH:∀H2,C0 p H H2->fI H2 c cs:=λH2 s=>s.keep c _ (hp.ne hc (by intro z;simp)) hc;refine⟨_,rfl,_,rfl,p,hl,_,rfl,st.pen,hlp,st.keep hl _ hlp hhl,by rw[di];exact Gh.1,by rw[di];exact Gh.2.1,λv H2 hv st2=> ?_⟩;obtain⟨hh,hhm,rfl⟩:=fm.mp hv;have hhb:=Gh.2.2 hh hhm;have st12:=st.trans st2;refine⟨_,rfl,_,rfl,c,_,rfl,.inr (CY.of (hcH _ st12)),p,_,rfl,st12.pen,?_,?_,λsn H3 s0 s1 st3=> ?_⟩
      · rw[di];have:=Gc.l1;omega
      · rw[di];have:=Gc.l6;omega
      rw[di]at s1;refine⟨_,_,rfl,?_⟩;have st13:=st12.trans st3;refine⟨_,rfl,_,rfl,p,20,rfl,st13.pen,by decide,by decide,λm H4 m0 m1 st4=> ?_⟩;refine⟨_,_,rfl,rfl,by show 5<=jv;decide,λt ht=> ?_⟩;have st14:=st13.trans st4;have htn:=st14.none ht;have st5:=st14.same (aK (o:=.lst [.int 1,.int 1,.int 2,.int 3,.int (1+m)]) ht);refine⟨p,t,_,rfl,st5.pen,htn.2,aG,by show 1<=5;decide,by show 5<=1000;decide,λv H6 hv6 st6=> ?_⟩;obtain⟨x,rfl,hx1,hx2⟩:∃x,v=V.int x/\1<=x/\x<=20:=by
        simp only[fe,gh,or_false]at hv6;rcases hv6 with rfl|rfl|rfl|rfl|rfl
        · exact⟨1,rfl,by decide,by decide⟩
        · exact⟨1,rfl,by decide,by decide⟩
        · exact⟨2,rfl,by decide,by decide⟩
        · exact⟨3,rfl,by decide,by decide⟩
        · exact⟨1+m,rfl,by omega,by omega⟩
      have st7:=st5.trans st6;have hd4:H4 d=some (.dT (es.map ent)):=st4.keep d _ hdp (st3.keep d _ hdp (st2.keep d _ hdp hd'));have hd6:H6 d=some (.dT (es.map ent)):=st6.keep d _ hdp (aK (o:=.lst [.int 1,.int 1,.int 2,.int 3,.int (1+m)]) ht _ _ hd4);refine⟨_,rfl,_,rfl,_,rfl,by show 2<=jv;decide,λk hk=> ?_⟩;have hkd:d≠k:=λz=>by rw[←z,hd6]at hk;cases hk
      have hd8:(upd H6 k (.tup [.int hh,.int sn])) d=some (.dT (es.map ent)):=by rw[aN hkd];exact hd6
      have hkt:(upd H6 k (.tup [.int hh,.int sn])) k=some (.tup (([kr hh,kr sn]:List Key).map kV)):=by rw[aG];rfl
      refine⟨d,_,rfl,DPut.t hd8 hkt (by rw[di];exact cO (by omega)),?_⟩;rw[A86];have Cz:=B19 es hh sn x;refine⟨⟨_,_,_,rfl⟩,(st7.same (aK hk)).updO hd hp,gF es hh sn x,aG,B4y es hh sn x hn,A62 hb ⟨⟨hhb,⟨s0,by have:=Gc.l6;show sn<=5;omega⟩,hx1,hx2⟩,s1⟩,by omega,λ_=>Cz.2⟩
    · rintro σ H' ⟨⟨o4,o5,o6,rfl⟩,st,es,hd',hn,hb,ue,h1⟩
      have hel:es.length<=8:=by omega
      have he1:1<=es.length:=h1 (by omega);refine⟨_,rfl,d,_,rfl,hd',λo Z l hl0=> ?_⟩;have stf:C0 p H (upd H' d (.frz o (.dT (es.map ent)))):=st.updO hd hp;have hln:=stf.none hl0;have hld:l≠d:=λz=>by rw[z,aG]at hl0;cases hl0
      refine A9n (λi σ H2=>σ.length=2/\H2 d=some (.frz o (.dT (es.map ent)))/\C0 p H H2/\∃zs:List (ju×List Int),H2 l=some (.lst (zs.map λz=>V.ref z.1))/\zs.map (·.2)=(es.take i).map row/\∀z∈zs,H2 z.1=some (.tup (z.2.map V.int)))
        ⟨rfl,by rw[aN hld.symm,aG],stf.updO hln.1 hp,[],by rw[aG];rfl,rfl,λz hz=>by cases hz⟩ (λi σ H2 h=>h.2.1) ?_ ?_
      · rintro i k x pp b σ H2 hki ⟨hσ,hfz,st2,zs,Cz,hzr,hza⟩ hpp hb2
        obtain⟨x0,x1,rfl⟩:=oJ hσ;rw[cy]at hki;cases hei:es[i]? with
        |none=>rw[hei]at hki;cases hki
        |some cc=>
        rw[hei]at hki;have hke:ent cc=(k,x):=j7 hki;have ek:k=[kr cc.1,kr cc.2.1]:=(BP hke).1.symm;have ex:x=V.int cc.2.2:=(BP hke).2.symm;subst ek ex;have hi:i<es.length:=(CL.mp hei).1;have hzl:zs.length<=i:=by
          have:=congrArg pk hzr;rw[di,di,du]at this;omega
        have s3:=aK (o:=.tup [.ref b,.int cc.2.2]) hpp;refine⟨pp,_,rfl,CY.of aG,rfl,_,_,rfl,_,_,rfl,rfl,?_⟩;refine gX ?_;refine⟨_,rfl,_,rfl,by show 1<=jv;decide,λt ht=> ?_⟩;have s4:=aK (o:=.tup [.int cc.2.2]) ht;refine⟨b,t,_,[.int cc.2.2],rfl,rfl,s4 _ _ (s3 _ _ hb2),aG,by show 2+1<=jv;decide,λu H5 s5 hu5=> ?_⟩;have s35:=(s3.trans s4).trans s5;have hl5:=s35 _ _ Cz;refine⟨_,hl5,cO (by rw[di];omega),rfl,?_,(st2.same s35).updO hln.1 hp,zs++[(u,row cc)],?_,?_,λz hz=> ?_⟩
        · rw[aN hld.symm];exact s35 _ _ hfz
        · rw[aG,dz];rfl
        · rw[dz,hzr,iu,hei,dz];rfl
        · have up:∀a xs,H5 a=some (.tup xs)->(upd H5 l (.lst (zs.map (λz=>V.ref z.1)++[.ref u]))) a=some (.tup xs):=λa xs e=>by rw[aN (λz=>by rw[z,hl5]at e;cases e)];exact e
          rcases d8.mp hz with z'|z'
          · exact up _ _ (s35 _ _ (hza z z'))
          · rw[fy.mp z'];exact up _ _ hu5
      · rintro σ H2 ⟨_,_,st2,zs,Cz,hzr,hza⟩
        rw[di,iq (CT _)]at hzr;have hzl:zs.length=es.length:=by
          have:=congrArg pk hzr;simpa using this
        refine⟨l,zs,rfl,CW.of Cz,λz hz=> ⟨hza z hz,λe=> ?_⟩,by omega,λl2 Cv hl3 hs2=> ?_⟩
        · have hm:z.2∈es.map row:=by rw[←hzr];exact fo hz
          obtain⟨c',_,e'⟩:=fm.mp hm;rw[←e']at e;cases e
        have s3:=aK (o:=.lst (Cv.map λz=>V.ref z.1)) hl3;obtain⟨gO,gP,gR⟩:=B0i hzr hs2 he1 (by omega) (λx hx=>(hb x hx).1) hn;refine⟨l2,_,rfl,.inl ⟨CW.of aG,λa ha=> ?_⟩⟩;have s4:=aK (o:=.tup (Cv.map λz=>V.ref z.1)) ha;refine q a (Cv.map λz=>unrow z.2) _ ((st2.same s3).same s4) ⟨Cv.map (·.1),by rw[aG,d7];rfl,?_⟩ gO λx hx=>(hb x (gP.mem_iff.mp hx)).2;have go:∀ys:List (ju×List Int),(∀z∈ys,z∈Cv)->ClP (upd (upd H2 l2 (.lst (Cv.map λz=>V.ref z.1))) a (.tup (Cv.map λz=>V.ref z.1))) (ys.map (·.1)) (ys.map λz=>unrow z.2):=λys=>by
          induction ys with
          |nil=>intro _;exact .nil
          |cons y ys ih=>
            intro hy;refine .cons ?_ (ih λz hz=>hy z (CP _ hz));have hy':=hy y CQ;have e:=hza y (hs2.1.mem_iff.mp hy');rw[gR y hy']at e;exact s4 _ _ (s3 _ _ e)
        exact go Cv λz hz=>hz
noncomputable def A2i:Sp:=λvs H Q _=> ∃c a cs cl i,vs=[.ref c,.ref a,.int i]/\fI H c cs/\fC cs/\ClT H a cl/\Fine cs cl/\Q (.int (bN cs cl i)) H
noncomputable def A0b:Sp:=λvs H Q _=> ∃c a cs cl,vs=[.ref c,.ref a]/\fI H c cs/\fC cs/\ClT H a cl/\Fine cs cl/\∀H',Same H H'->Q (.int (bF cs cl)) H'
theorem B49 (h:∀c∈cl,0<=c.1):(λk=>decide (k∈cl.map λc=>c.1.toNat))=dJ cl:=funext λk=>by
 unfold dJ eE;rw[k6,decide_eq_true_eq,fm,ah];constructor
 ·rintro⟨c,hc,e⟩;exact⟨c,hc,CM (by have:=h c hc;omega)⟩
 ·rintro⟨c,hc,e⟩;have:=of_decide_eq_true e;exact⟨c,hc,by omega⟩
theorem B40 {cs:List Int}{cl:List C3}{j:Nat}{y:C3}(i:Int)(hy:cl[j]?=some y):bN cs (cl.take (j+1)) i=bN cs (cl.take j) i+cw cs y*(if decide (y.1=i)=true then 1 else 0):=by
 unfold bN bF ofH;rw[iu,hy,bg,dz,ig]
 congr 1
 by_cases z:y.1=i
 ·simp[z]
 ·simp[z]
theorem A5l (F:D1 K mg "_law_holders" rY ["_law_claims_here"])(T:C5 mg):A1 P w K mg base 1 "_law_holders" mY:=by
 refine F.k ["_law_claims_here"] ?_;ac_nf
 ·obtain⟨a,cl,rfl,⟨bs,ha,hC⟩,G,q⟩:=h;have hl:bs.length=cl.length:=Paired.length hC;have h12:=G.l12;refine⟨_,aR (aY (bD (B5b rfl) rfl T.sorted Aq (bM (eP (A6c rfl) rfl T.set PyProof.Rows.boot_set (cY (bQ (bB rY).names ["_law_claims_here"] ["_law_claim"] [] rfl (cW (pv 0)) rfl rfl rfl (by decide +kernel)
   (λZ=>aJ (i:=0) (show(["_law_claim"]:List Str).Nodup by decide +kernel) rfl (ng rfl)) (λZ=>cF) (λZ=>bK cD (pv 0) aU (λ_ _=>rfl))) aB)) aB))),?_⟩
  refine⟨_,rfl,a,rfl,⟨_,CY.of ha⟩,λZ l hl0=> ?_⟩;refine gC (K:=K) (a:=a) (xs:=bs.map V.ref) (λj σ H'=>σ.length=1/\Same H H'/\H' l=some (.lst ((cl.take j).map λc=>V.int c.1))) ⟨rfl,aK hl0,by rw[aG];rfl⟩ (λj σ H' _ h=>CY.of (h.2.1 _ _ ha)) ?_ ?_
  ·rintro j x σ H' hx ⟨hσ,hs,Cz⟩
   match σ,hσ with
   | [x0],_=>
   rw[cy]at hx;cases hb:bs[j]? with
   |none=>rw[hb]at hx;cases hx
   |some b=>
    rw[hb]at hx;cases hx;obtain⟨y,hy,he⟩:=hC.get hb;have hj:j<bs.length:=(CL.mp hb).1;refine iZ ?_;refine⟨_,rfl,b,_,0,.int y.1,rfl,rfl,CY.of (hs _ _ he),cK (j:=0) rfl,?_⟩;refine⟨_,Cz,cO (by rw[di,du];omega),rfl,λb' u e=> ?_,?_⟩
    ·rw[aN (bG e hl0)];exact hs _ _ e
    ·rw[aG,iu,hy,dz];rfl
  ·rintro σ H' ⟨_,hs,Cz⟩;rw[di,hl,iq (CT _)]at Cz;have h0:∀c∈cl,0<=c.1:=λc hc=>(G.num c hc).1.1;have e2:(cl.map λc=>V.int c.1)=(cl.map λc=>c.1.toNat).map λn:Nat=>V.int (n:Int):=by
    rw[d7];refine d5 λc hc=> ?_;have:=h0 c hc;show V.int c.1=V.int ((c.1.toNat:Nat):Int);rw[Int.toNat_of_nonneg this]
   rw[e2]at Cz;refine⟨l,cl.map λc=>c.1.toNat,rfl,CW.of Cz,λn hn=> ?_,λl2 hl3=> ?_⟩
   ·obtain⟨c,hc,rfl⟩:=fm.mp hn;have:=(G.num c hc).1;omega
   ·rw[B49 h0];have s2:=aK (o:=lR w l2 (dJ cl)) hl3;refine⟨l2,dJ cl,rfl,aG,λl4 hl4=> ?_⟩;have s3:=aK (o:=.lst ((aX (dJ cl)).map λk:Nat=>V.int (k:Int))) hl4;have sA:=(hs.trans s2).trans s3;have hn4:H l4=none:=by
     cases e:H l4 with
     |none=>rfl
     |some o=>exact nomatch (s2 _ _ (hs _ _ e)).symm.trans hl4
    exact q l4 _ hn4 sA aG
theorem B1w (F:D1 K mg "_law_count" yX ["_law_custom_here","_law_claims_here","_law_holder"])(T:C5 mg):A1 P w K mg base 1 "_law_count" A2i:=by
 refine F.k ["_law_custom_here","_law_claims_here","_law_holder","_law_total_here","_law_one","_law_sort","_law_many"] ?_;ac_nf
 ·obtain⟨c,a,cs,cl,i,rfl,hc,Gc,⟨bs,ha,hC⟩,hf,q⟩:=h;have hl:bs.length=cl.length:=Paired.length hC;refine⟨_,aT (bJ (i:=3) nd rfl (ng rfl) aU)<|
   aT (dF k9 rfl (cW (pv 1)) (bI rfl (aV (CZ 4 nd) (aV (CZ 5 nd) (aV (CZ 6 nd) bH))))
    (aR (bJ (i:=3) nd rfl (ng rfl) (bC dG (pv 3) (bC eQ (bC eQ (bK cD (pv 0) (pv 5) (λ_ _=>rfl)) (pv 6)) (eP sJ rfl T.int boot_int (A2o (eX fN (pv 4) (pv 2) (nomark _)) aB)))))))<|
   aR (aY (pv 3)),?_⟩
  refine⟨_,rfl,a,rfl,⟨_,CY.of ha⟩,?_⟩;refine gC (K:=K) (a:=a) (xs:=bs.map V.ref) (λj σ H'=>H'=H/\∃o4 o5 o6,σ=[some (.ref c),some (.ref a),some (.int i),some (.int (bN cs (cl.take j) i)),o4,o5,o6]) ⟨rfl,_,_,_,rfl⟩ (λj σ H' _ h=>by rw[h.1];exact CY.of ha) ?_ ?_
  ·rintro j x σ H' hx ⟨rfl,o4,o5,o6,rfl⟩;rw[cy]at hx;cases hb:bs[j]? with
   |none=>rw[hb]at hx;cases hx
   |some b=>
    rw[hb]at hx;cases hx;obtain⟨y,hy,he⟩:=hC.get hb;have hyb:=hf.2 y (fq hy);have hsm:=kH Gc hyb;refine⟨b,_,rfl,CY.of he,rfl,_,_,rfl,_,_,rfl,_,_,rfl,rfl,?_⟩;refine⟨_,rfl,_,rfl,_,rfl,c,_,y.2.1,.int (cs.getD y.2.1.toNat 0),rfl,rfl,CY.of hc,jV hyb.1 hyb.2.1,_,rfl,_,_,rfl,rfl,.inl ⟨by omega,by omega⟩,_,rfl,_,rfl,rfl,.inr ⟨_,rfl,?_⟩⟩;have hcw:cs.getD y.2.1.toNat 0*y.2.2=cw cs y:=rfl;refine⟨_,_,rfl,rfl,.inl ⟨by rw[hcw];omega,by rw[hcw];omega⟩,_,_,rfl,rfl,?_⟩;refine⟨rfl,some (.int y.1),some (.int y.2.1),some (.int y.2.2),?_⟩;rw[B40 i hy];have ed:decide (V.int y.1=V.int i)=decide (y.1=i):=decide_eq_decide.mpr ⟨λz=>V.int.inj z,λz=>by rw[z]⟩;rw[ed];rfl
  ·rintro σ H' ⟨rfl,o4,o5,o6,rfl⟩;rw[di,hl,iq (CT _)];exact⟨_,rfl,q⟩
theorem uY:(["_law_one","_law_sort","_law_many","_law_custom_here"]:List Str).Nodup:=by decide +kernel
theorem B5t (F:D1 K mg "_law_total" qG ["_law_custom_here","_law_claims_here"])(T:C5 mg):A1 P w K mg base 1 "_law_total" A0b:=by
 refine F.k ["_law_custom_here","_law_claims_here"] ?_;ac_nf
 ·obtain⟨c,a,cs,cl,rfl,hc,Gc,⟨bs,ha,hC⟩,hf,q⟩:=h;have hl:bs.length=cl.length:=Paired.length hC;have h12:=hf.1;refine⟨_,aR (aY (bD (rB rfl) rfl T.sum boot_sum (cY (bQ (bB qG).names ["_law_custom_here","_law_claims_here"] ["_law_one","_law_sort","_law_many"] [("_law_custom_here",0)] rfl (cW (pv 1)) rfl rfl rfl (by decide +kernel)
   (λZ=>bI rfl (aV (CZ 0 uY) (aV (CZ 1 uY) (aV (CZ 2 uY) bH)))) (λZ=>cF)
   (λZ=>bC eQ (bK cD (pv 3) (pv 1) (λ_ _=>rfl)) (pv 2))) aB))),?_⟩
  refine⟨_,rfl,a,rfl,⟨_,CY.of ha⟩,λZ l Ao=> ?_⟩;refine mJ (rest:=[some (.ref c)]) gM (λH' hs=>CY.of (hs _ _ ha)) hC Ao (by omega) (λx=> .int (cw cs x)) (λx H' Q' hm hs hq=> ?_) λσ H1 hs1 hl1=> ?_
  ·have hx:=hf.2 x hm;have hsm:=kH Gc hx;exact⟨_,rfl,_,rfl,c,_,x.2.1,.int (cs.getD x.2.1.toNat 0),rfl,rfl,CY.of (hs _ _ hc),jV hx.1 hx.2.1,_,rfl,_,_,rfl,rfl,.inl ⟨by omega,by omega⟩,hq _ (Same.refl _)⟩
  ·refine⟨l,cl.map (cw cs),rfl,CW.of (by rw[hl1];simp only[d7];rfl),by rw[di];omega,λn hn=> ?_,q H1 hs1⟩;obtain⟨x,hx,rfl⟩:=fm.mp hn;have:=kH Gc (hf.2 x hx);omega
noncomputable def A3k:Sp:=λvs H Q _=> ∃p,vs=[.ref p,.int 6]/\PenAt H p/\∀a g w H',C0 p H H'->GridAt H' a g->dM g w->w<=4->g.length<=3->cS g<=6->Q (.ref a) H'
noncomputable abbrev qJ:List Str:=["_law_pen_here","_law_most","_law_high","_law_wide","_law_many","_law_rows","_law_turn","_law_row","_law_place","_law_number"]
noncomputable abbrev σM (p lr:ju)(m hi wi mn:Int)(o6 o7 o8 o9:Option V):L2.St:=[some (.ref p),some (.int m),some (.int hi),some (.int wi),some (.int mn),some (.ref lr),o6,o7,o8,o9]
noncomputable def dec (n:Int):Int:=if decide (0<=n)=true then 1 else 0
theorem A8j (n:Int):((if pos n then 1 else 0:Nat):Int)=dec n:=by unfold dec pos;by_cases h:0<=n<;>simp[h]
theorem A8v (xs:List Int)(h:1<=xs.length):cI (xs.map V.int) (some 1) none=(xs.drop 1).map V.int:=by
 have e1:HT.sIx (xs.map V.int).length 0 (some 1)=min 1 (xs.map V.int).length:=HT.sIx_nat _ _ 1;have e2:HT.sIx (xs.map V.int).length (xs.map V.int).length none=(xs.map V.int).length:=rfl;unfold cI;rw[e1,e2,di];have e3:min 1 xs.length=1:=by omega
 rw[e3,←map_drop,iq (by rw[di,de];omega)]
theorem B5r (F:D1 K mg "_law_mead" jR ["_law_pen_here","_law_most"])(T:C5 mg)(a1:A1 P w K mg base 1 "_law_draw" kO)(a2:A1 P w K mg base 2 "_law_pick" mT):A1 P w K mg base 3 "_law_mead" A3k:=by
  refine F.k qJ ?_;ac_nf
  · obtain⟨p,rfl,hp,q⟩:=h
    have r1:Room 1 _:=hr.mono (by decide);have t45:∃tt,CV (fK CX0 P w K mg base qJ "_law_mead" (bB jR) f cdv A outer s H E).nox ((fR ((fR ((dA jR).getD 1 (.Pass ⟨0,0,0,0⟩))).getD 1 (.Pass ⟨0,0,0,0⟩))).drop 2) tt/\
        ∀(lr rw':ju)(hi wi mn n:Int)(o6 o8:Option V)(H1:Hp)(xs:List V)(De:dC),H1 rw'=some (.lst xs)->xs.length<=10->De.nx (σM p lr 6 hi wi (mn+dec n) o6 (some (.ref rw')) o8 (some (.int n))) (upd H1 rw' (.lst (xs++[.int n])))->
          tt De (σM p lr 6 hi wi mn o6 (some (.ref rw')) o8 (some (.int n))) H1:=by
      refine⟨_,aT (bJ (i:=4) nd rfl (ng rfl) (bC dG (pv 4) (eP sJ rfl T.int boot_int (A2o (eX mP (pv 9) aU (nomark _)) aB))))<|
        aR (dP (iV ow qk ql jX (pv 7) (aD (pv 9) aB))),?_⟩
      intro lr rw' hi wi mn n o6 o8 H1 xs De hrw hz k;refine⟨_,rfl,_,rfl,_,_,rfl,rfl,.inr ⟨_,rfl,_,_,rfl,rfl,?_⟩⟩;exact⟨_,rfl,.inl ⟨rfl,_,CW.of hrw⟩,_,rfl,rw',xs,_,rfl,rfl,hrw,cO (by omega),k⟩
    obtain⟨tt45,h45,r45⟩:=t45;have tin:∃tt,CV (fK CX0 P w K mg base qJ "_law_mead" (bB jR) f cdv A outer s H E).nox (fR ((fR ((dA jR).getD 1 (.Pass ⟨0,0,0,0⟩))).getD 1 (.Pass ⟨0,0,0,0⟩))) tt/\
        ∀(lr rw':ju)(hi wi mn:Int)(o6 o8 o9:Option V)(H1:Hp)(xs:List V)(De:dC),PenAt H1 p->H1 rw'=some (.lst xs)->rw'≠p->xs.length<=10->
          (∀n' H2,C0 p H1 H2->-2<=n'->n'<=99->(0<=n'->mn≠6)->De.nx (σM p lr 6 hi wi (mn+dec n') o6 (some (.ref rw')) o8 (some (.int n'))) (upd H2 rw' (.lst (xs++[.int n']))))->
          tt De (σM p lr 6 hi wi mn o6 (some (.ref rw')) o8 o9) H1:=by
      refine⟨_,aT (bJ (i:=9) nd rfl (ng rfl) (a2.c hr (aD (pv 0) (kR (fT (lstq (tW (gN iA aU) (tW (gN iA aU) (tW (gN iA aU) (bL (bL (bL (bL (bL (bL (bL (vO (a1.c r1 (aD (pv 0) (dH aU aB))) cT)))))))))))) cT)))))<|
        aT (bV (PW.pt (pT (cB mP (pv 9) aU (nomark _)) (uT (cB fN (pv 4) (pv 1) (nomark _))))) (aR (bJ (i:=9) nd rfl (ng rfl) (gN iA aU))) bU) h45,?_⟩
      intro lr rw' hi wi mn o6 o8 o9 H1 xs De hp1 hrw hrp hz k;refine⟨_,rfl,_,rfl,_,rfl,_,rfl,_,rfl,p,100,rfl,hp1,by decide,by decide,λd H2 d0 d1' st2=> ?_⟩;refine⟨by show 11<=jv;decide,λl hl=> ?_⟩;have st3:=st2.same (aK (o:=.lst [.int (-1),.int (-1),.int (-2),.int 1,.int 2,.int 3,.int 3,.int 4,.int 0,.int 9,.int d]) hl);have hlp:l≠p:=st2.pen.fresh hl;refine⟨p,l,_,rfl,st3.pen,hlp,aG,by show 1<=11;decide,by show 11<=1000;decide,λv H4 hv st4=> ?_⟩;obtain⟨n,rfl,n1,n2⟩:∃n,v=V.int n/\-2<=n/\n<=99:=by
        simp only[fe,gh,or_false]at hv;rcases hv with rfl|rfl|rfl|rfl|rfl|rfl|rfl|rfl|rfl|rfl|rfl
        all_goals exact⟨_,rfl,by omega,by omega⟩
      have st5:=st3.trans st4;have hrw4:=st5.keep _ _ hrp hrw;refine⟨_,rfl,_,_,rfl,rfl,_,rfl,dY (λn0=> ?_) λn0=> ?_⟩
      · refine⟨_,rfl,_,rfl,rfl,_,rfl,dY (λl0=> ?_) λl0=> ?_⟩
        · exact⟨_,rfl,r45 lr rw' hi wi mn _ o6 o8 H4 xs De hrw4 hz (k _ H4 st5 (by decide) (by decide) λz=>absurd z (by decide))⟩
        · exact r45 lr rw' hi wi mn n o6 o8 H4 xs De hrw4 hz (k _ H4 st5 n1 n2 λ_ z=>l0 (by rw[z]))
      · refine bY ?_
        exact r45 lr rw' hi wi mn n o6 o8 H4 xs De hrw4 hz (k _ H4 st5 n1 n2 λz=>absurd z n0)
    obtain⟨tti,hin,rin⟩:=tin;refine⟨_,aT (cQ (bT (dQ (bC dG aU (a1.c r1 (aD (pv 0) (dH aU aB)))) (dQ (bC dG aU (a1.c r1 (aD (pv 0) (dH aU aB)))) (dH aU (lU (cZ aB) aB)))))
        (bI rfl (aV (CZ 2 nd) (aV (CZ 3 nd) (aV (CZ 4 nd) (aV (CZ 5 nd) bH))))))<|
      aT (dF k9 rfl (jK rfl T.range (aD (pv 2) aB)) (CZ 6 nd)
        (aT (bJ (i:=7) nd rfl (ng rfl) (cZ aB))<|
         aT (dF k9 rfl (jK rfl T.range (aD (pv 3) aB)) (CZ 8 nd) hin)<|
         aR (dP (iV ow qk ql jX (pv 5) (bM (eP gW rfl T.tuple r6 (aD (pv 7) aB)) aB)))))<|
      aT (bV (cB fN (pv 4) aU (nomark _)) (aR (cQ (bC nL (bT (dH aU aB)) (jY zB (bK fG (pv 5) aU (λ_ _=>rfl)) (iQ aU) lW)) (uW (pv 5) aU vD))) bU)<|
      aR (aY (eP gW rfl T.tuple r6 (aD (pv 5) aB))),?_⟩
    refine⟨_,rfl,p,3,rfl,hp,by decide,by decide,λd1 H1 a1 a2 st1=> ?_⟩;refine⟨_,_,rfl,rfl,_,rfl,p,4,rfl,st1.pen,by decide,by decide,λd2 H2 c1 c2 st2=> ?_⟩;refine⟨_,_,rfl,rfl,?_⟩;refine⟨by show 0<=jv;decide,λlr hlr=> ?_⟩;refine⟨by show 4<=jv;decide,λt4 ht4=> ?_⟩;refine⟨t4,_,rfl,CY.of aG,rfl,_,_,rfl,_,_,rfl,_,_,rfl,_,_,rfl,rfl,?_⟩;have st3:=st1.trans st2;have hHlr:H lr=none:=(st3.none hlr).1;have hlrp:lr≠p:=(st3.none hlr).2;have stl:C0 p H (upd H2 lr (.lst [])):=st3.updL hHlr hp;have st4:=stl.same (aK (o:=.tup [.int (1+d1),.int (1+d2),.int 0,.ref lr]) ht4);have CA:lr≠t4:=λz=>by rw[←z,aG]at ht4;cases ht4
    refine⟨_,rfl,1+d1,rfl,by omega,by omega,?_⟩;refine jE (lo:=0) (n:=(1+d1).toNat) (λi σ H'=> ∃(mn:Int)(bs:List ju)(g:bE),(∃o6 o7 o8 o9,σ=σM p lr 6 (1+d1) (1+d2) mn o6 o7 o8 o9)/\C0 p H H'/\H' lr=some (.lst (bs.map V.ref))/\RowsG H' bs g/\g.length=i/\mn<=6/\mn=cS g/\(∀xs∈g,xs.length=(1+d2).toNat)/\∀xs∈g,∀n∈xs,-2<=n/\n<=99)
      ⟨0,[],[],⟨_,_,_,_,rfl⟩,st4,by rw[aN CA,aG];rfl,.nil,rfl,by decide,rfl,(λr hr'=>by cases hr'),(λr hr'=>by cases hr')⟩ ?_ ?_
    · rintro i σ H' hi ⟨mn,bs,g,⟨o6,o7,o8,o9,rfl⟩,yf,hlr',hG,hn,mn6,mnc,ue,hnum⟩
      have hbs:bs.length=g.length:=Paired.length hG;refine⟨by show 0<=jv;decide,λrw' hrw=> ?_⟩;have hrp:rw'≠p:=yf.pen.fresh hrw;have hrl:rw'≠lr:=λz=>by rw[z,hlr']at hrw;cases hrw
      refine⟨_,rfl,1+d2,rfl,by omega,by omega,?_⟩;refine jE (lo:=0) (n:=(1+d2).toNat) (λj σ H2=> ∃(mn2:Int)(xs:List Int),(∃o8 o9,σ=σM p lr 6 (1+d1) (1+d2) mn2 (some (.int (0+i))) (some (.ref rw')) o8 o9)/\C0 p H' H2/\H2 rw'=some (.lst (xs.map V.int))/\xs.length=j/\mn2<=6/\mn2=mn+eG xs/\∀n∈xs,-2<=n/\n<=99)
        ⟨mn,[],⟨_,_,rfl⟩,(C0.refl yf.pen).updL hrw yf.pen,aG,rfl,mn6,by simp[eG],λx hx=>by cases hx⟩ ?_ ?_
      · rintro j σ H2 hj ⟨mn2,xs,⟨o82,o92,rfl⟩,stj,hxs,hnj,l0,lc,hxi⟩
        refine rin lr rw' _ _ mn2 _ _ _ H2 (xs.map V.int) _ stj.pen hxs hrp (by rw[di];omega) λn' H3 st3' n1 n2 nl=> ?_;refine⟨mn2+dec n',xs++[n'],⟨_,_,rfl⟩,(stj.trans st3').updL hrw yf.pen,by rw[aG,dz];rfl,by rw[c8,hnj];rfl,?_,?_,λx hx=> ?_⟩
        · unfold dec
          by_cases h0:0<=n'
          · have:=nl h0
            rw[CM h0,if_pos rfl];omega
          · rw[CN h0,if_neg (by decide)];omega
        · rw[B3q,Int.natCast_add,A8j];omega
        · rcases d8.mp hx with z|z
          · exact hxi x z
          · rw[fy.mp z];exact⟨n1,n2⟩
      · rintro σ H2 ⟨mn2,xs,⟨o82,o92,rfl⟩,stj,hxs,hnj,l0,lc,hxi⟩
        have hlr2:=stj.keep lr _ hlrp hlr';refine⟨_,rfl,.inl ⟨rfl,_,CW.of hlr2⟩,_,rfl,rw',xs.map V.int,rfl,.inl ⟨CW.of hxs,λt ht=> ?_⟩⟩;have s3:=aK (o:=.tup (xs.map V.int)) ht;have hlr3:=s3 _ _ hlr2;refine⟨lr,bs.map V.ref,_,rfl,rfl,hlr3,cO (by rw[di];omega),?_⟩;have exA:Ext H' (upd (upd H2 t (.tup (xs.map V.int))) lr (.lst (bs.map V.ref++[.ref t]))):=((stj.ext yf.pen).trans s3.ext).trans (Ext.updL hlr3);have htl:t≠lr:=λz=>by rw[z,hlr2]at ht;cases ht
        refine⟨mn2,bs++[t],g++[xs],⟨_,_,_,_,rfl⟩,((yf.trans stj).same s3).updL hHlr hp,by rw[aG,dz];rfl,Paired.snoc (hG.ext exA) (by rw[aN htl,aG]),by rw[c8,hn];rfl,l0,?_,λys hy=> ?_,λys hy=> ?_⟩
        · rw[A6p];omega
        · rcases d8.mp hy with z|z
          · exact ue ys z
          · rw[fy.mp z];exact hnj
        · rcases d8.mp hy with z|z
          · exact hnum ys z
          · rw[fy.mp z];exact hxi
    · rintro σ H' ⟨mn,bs,g,⟨o6,o7,o8,o9,rfl⟩,yf,hlr',hG,hn,mn6,mnc,ue,hnum⟩
      have hbs:bs.length=g.length:=Paired.length hG;have h1:1<=g.length:=by omega
      have h4:g.length<=4:=by omega
      refine⟨_,rfl,rfl,_,rfl,dY (λe10=> ?_) λe10=> ?_⟩
      · have e10':mn=0:=V.int.inj e10
        obtain⟨b0,Cw,rfl⟩:∃b0 Cw,bs=b0::Cw:=a9 (λz=>by rw[z]at hbs;simp at hbs;omega);obtain⟨xs0,g',rfl⟩:∃xs0 g',g=xs0::g':=a9 (λz=>by rw[z]at h1;simp at h1);have hb0:H' b0=some (.tup (xs0.map V.int)):=by cases hG with|cons a b=>exact a
        have hG':RowsG H' Cw g':=by cases hG with|cons a b=>exact b
        have hw0:=ue xs0 CQ;refine⟨by show 1<=jv;decide,λt3 ht3=> ?_⟩;have s3:=aK (o:=.tup [.int 5]) ht3;refine⟨_,rfl,lr,_,0,.ref b0,rfl,rfl,CW.of (s3 _ _ hlr'),cK (j:=0) rfl,_,rfl,b0,xs0.map V.int,rfl,s3 _ _ hb0,λc H4 s4 hc=> ?_⟩;rw[A8v xs0 (by omega)]at hc;refine⟨t3,c,[.int 5],_,rfl,rfl,s4 _ _ aG,hc,?_,λc2 H5 s5 hc2=> ?_⟩
        · rw[di,de,ko];show 1+_<=_;omega
        have hlr5:=s5 _ _ (s4 _ _ (s3 _ _ hlr'));refine⟨_,rfl,lr,_,0,0,rfl,rfl,hlr5,(by unfold ixN;rw[if_pos (by decide),if_pos (by simp)];rfl),?_⟩;have exA:Ext H' (upd H5 lr (.lst (((b0::Cw).map V.ref).set 0 (.ref c2)))):=((s3.ext.trans s4.ext).trans s5.ext).trans (Ext.updL hlr5);refine⟨_,rfl,lr,_,rfl,.inl ⟨CW.of aG,λtt htt=> ?_⟩⟩;have s6:=aK (o:=.tup (((b0::Cw).map V.ref).set 0 (.ref c2))) htt;have hc2l:c2≠lr:=λz=>by rw[z,hlr5]at hc2;cases hc2
        have z0:cS (xs0::g')=0:=by omega
        have z1:eG xs0=0/\cS g'=0:=by
          unfold cS at z0⊢;rw[d6,il]at z0;omega
        have zd:eG (xs0.drop 1)=0:=by
          have:(xs0.filter pos)=[]:=AY.mp z1.1;unfold eG;rw[AY,bp];intro a ha;exact bp.mp this a (ft ha)
        have zc:cS ((5::xs0.drop 1)::g')=1:=by
          have e1:eG (5::xs0.drop 1)=eG (xs0.drop 1)+1:=by unfold eG;rw[bo (by decide),c9]
          unfold cS;rw[d6,il,e1,zd];have:=z1.2;unfold cS at this;omega
        refine q tt ((5::xs0.drop 1)::g') (1+d2).toNat _ ((((yf.same s3).same s4).same s5).updL hHlr hp|>.same s6) ⟨c2::Cw,aG,.cons ?_ (hG'.ext (exA.trans s6.ext))⟩ ⟨by simp,by simpa using h4,by omega,by omega,λys hy=> ?_,λys hy=> ?_,by omega,by omega⟩ (by omega) (by rw[c9]at h1 h4⊢;rw[c9]at hn;omega) (by omega)
        · exact s6 _ _ (by rw[aN hc2l];exact hc2)
        · rcases fe.mp hy with z|z
          · rw[z,c9,de];omega
          · exact ue ys (CP _ z)
        · rcases fe.mp hy with z|z
          · rw[z]
            intro n hn';rcases fe.mp hn' with z'|z'
            · omega
            · exact hnum xs0 CQ n (ft z')
          · exact hnum ys (CP _ z)
      · refine⟨_,rfl,lr,_,rfl,.inl ⟨CW.of hlr',λtt htt=> ?_⟩⟩
        have s6:=aK (o:=.tup (bs.map V.ref)) htt;have e10':mn≠0:=λz=>e10 (by rw[z]);exact q tt g (1+d2).toNat _ (yf.same s6) ⟨bs,aG,hG.ext s6.ext⟩ ⟨h1,h4,by omega,by omega,ue,hnum,by omega,by omega⟩ (by omega) (by omega) (by omega)
structure PleA (H:Hp)(p:ju)(g:bE)(w:Nat)(cs:List Int)(cl:List C3)(od:Int):Prop where
 G:dM g w
 w4:w<=4
 g3:g.length<=3
 c6:cS g<=6
 cu:fC cs
 ck:fQ cl
 un:iD cs cl
 o9:0<=od/\od<=999
 ex:∃m c a,H p=some (.tup [.ref m,.ref c,.ref a,.int od])/\GridAt H m g/\fI H c cs/\ClT H a cl
end
theorem PleA.ext (h:PleA H p g w cs cl od)(e:Ext H H'):PleA H' p g w cs cl od:=
 ⟨h.G,h.w4,h.g3,h.c6,h.cu,h.ck,h.un,h.o9,let ⟨m,c,a,h1,h2,h3,h4⟩:=h.ex;⟨m,c,a,e.tup _ _ h1,h2.ext e,e.tup _ _ h3,h4.ext e⟩⟩
theorem PleA.same (h:PleA H p g w cs cl od)(s:Same H H'):PleA H' p g w cs cl od:=h.ext s.ext
noncomputable def rJ:Sp:=λvs H Q _=> ∃p,vs=[.ref p,.int 6]/\PenAt H p/\∀t g w cs cl od H',C0 p H H'->PleA H' t g w cs cl od->Q (.ref t) H'
section
variable {P:j9}{w:kl}{K:W.Frag}{mg:Str->Option jt}{base:kj}
noncomputable abbrev B3l:List Str:=["_law_pen_here","_law_most","_law_mead_here","_law_custom_here","_law_holders_here","_law_odd"]
theorem B1l (F:D1 K mg "_law_plea" zU ["_law_pen_here","_law_most"])(T:C5 mg)(a1:A1 P w K mg base 1 "_law_draw" kO)(a2:A1 P w K mg base 2 "_law_pick" mT)(a3:A1 P w K mg base 3 "_law_mead" A3k)(a4:A1 P w K mg base 3 "_law_custom" A0c)(a5:A1 P w K mg base 3 "_law_claims" xP):A1 P w K mg base 4 "_law_plea" rJ:=by
 refine F.k B3l ?_;ac_nf
 ·obtain⟨p,rfl,hp,q⟩:=h;have r1:Room 1 _:=hr.mono (by decide);have r2:Room 2 _:=hr.mono (by decide);refine⟨_,aT (jL (i:=2) (j:=3) rfl nd rfl rfl (by decide) rfl rfl (bM (a3.c hr (aD (pv 0) (aD (pv 1) aB))) (bM (a4.c hr (aD (pv 0) aB)) aB)) rfl)<|
   aT (bJ (i:=4) nd rfl (ng rfl) (a2.c r2 (xR (pv 0) (fT (lstq (fT (lstq (bL (bL cT))) (fT (lstq (bL (bL cT))) (fT (lstq (bL (bL (bL cT)))) (fT (lstq (bL cT)) (fT (lstq (bL (bL (bL (bL cT))))) (fT (lstq (bL (bL cT))) cT))))))) cT))))<|
   aT (bJ (i:=5) nd rfl (ng rfl) (a2.c r2 (xR (pv 0) (fT (lstq (bL (bL (bL (bL (bL (bL (bL (bL (vO (a1.c r1 (aD (pv 0) (dH aU aB))) cT)))))))))) cT))))<|
   aR (aY (bT (aD (pv 2) (aD (pv 3) (bM (a5.c hr (aD (pv 0) (aD (pv 3) (aD (pv 4) aB)))) (aD (pv 5) aB)))))),?_⟩
  refine⟨_,rfl,_,rfl,p,rfl,hp,λa g w' H1 st1 hA G w4 g3 c6=> ?_⟩;refine⟨_,rfl,p,rfl,st1.pen,λc cs H2 st2 hc Gc _=> ?_⟩;refine⟨_,_,rfl,?_⟩;have st12:=st1.trans st2;refine⟨_,rfl,?_⟩;refine⟨by show 2<=jv;decide,λl1 e1=> ?_⟩;refine⟨by show 2<=jv;decide,λl2 e2=> ?_⟩;refine⟨by show 3<=jv;decide,λl3 e3=> ?_⟩;refine⟨by show 1<=jv;decide,λl4 e4=> ?_⟩;refine⟨by show 4<=jv;decide,λl5 e5=> ?_⟩;refine⟨by show 2<=jv;decide,λl6 e6=> ?_⟩;refine⟨by show 6<=jv;decide,λL eL=> ?_⟩;have s1:=aK (o:=.lst [.int 0,.int 1]) e1;have s2:=aK (o:=.lst [.int 0,.int 2]) e2;have s3:=aK (o:=.lst [.int 1,.int 2,.int 3]) e3;have s4:=aK (o:=.lst [.int 3]) e4;have s5:=aK (o:=.lst [.int 0,.int 1,.int 2,.int 3]) e5;have s6:=aK (o:=.lst [.int 1,.int 3]) e6;have sL:=aK (o:=.lst [.ref l1,.ref l2,.ref l3,.ref l4,.ref l5,.ref l6]) eL;have sA:=(((((s1.trans s2).trans s3).trans s4).trans s5).trans s6).trans sL;have st3:=st12.same sA;refine⟨p,L,_,rfl,st3.pen,(st12.same (((((s1.trans s2).trans s3).trans s4).trans s5).trans s6)).pen.fresh eL,aG,by show 1<=6;decide,by show 6<=1000;decide,λv H4 hv st4=> ?_⟩;have hold:∃(hl:ju)(hs:List Int),v= .ref hl/\hl≠p/\H4 hl=some (.lst (hs.map V.int))/\lA hs:=by
   have key:∀(b:ju)(hs:List Int)(Hb:Hp)(eb:Hb b=none),PenAt Hb p->Same (upd Hb b (.lst (hs.map V.int))) (upd (upd (upd (upd (upd (upd (upd H2 l1 (.lst [.int 0,.int 1])) l2 (.lst [.int 0,.int 2])) l3 (.lst [.int 1,.int 2,.int 3])) l4 (.lst [.int 3])) l5 (.lst [.int 0,.int 1,.int 2,.int 3])) l6 (.lst [.int 1,.int 3])) L (.lst [.ref l1,.ref l2,.ref l3,.ref l4,.ref l5,.ref l6]))->lA hs->∃(hl:ju)(hs:List Int),V.ref b= .ref hl/\hl≠p/\H4 hl=some (.lst (hs.map V.int))/\lA hs:=λb hs Hb eb hpb sb G=>
    ⟨b,hs,rfl,hpb.fresh eb,st4.keep b _ (hpb.fresh eb) (sb _ _ aG),G⟩
   have hh:∀(hs:List Int),1<=hs.length->hs.length<=1000->(hs.all λx=>decide (0<=x)&&decide (x<=3))=true->lA hs:=λhs a b c=> ⟨a,b,λx hx=>by have:=aa.mp c x hx;simp only[pe,decide_eq_true_eq]at this;exact this⟩;have p0:=st12.pen;have p1:=p0.same s1;have p2:=p1.same s2;have p3:=p2.same s3;have p4:=p3.same s4;have p5:=p4.same s5;simp only[fe,gh,or_false]at hv;rcases hv with rfl|rfl|rfl|rfl|rfl|rfl
   ·exact key l1 [0,1] _ e1 p0 (((((s2.trans s3).trans s4).trans s5).trans s6).trans sL) (hh _ (by decide) (by decide) (by decide))
   ·exact key l2 [0,2] _ e2 p1 ((((s3.trans s4).trans s5).trans s6).trans sL) (hh _ (by decide) (by decide) (by decide))
   ·exact key l3 [1,2,3] _ e3 p2 (((s4.trans s5).trans s6).trans sL) (hh _ (by decide) (by decide) (by decide))
   ·exact key l4 [3] _ e4 p3 ((s5.trans s6).trans sL) (hh _ (by decide) (by decide) (by decide))
   ·exact key l5 [0,1,2,3] _ e5 p4 (s6.trans sL) (hh _ (by decide) (by decide) (by decide))
   ·exact key l6 [1,3] _ e6 p5 sL (hh _ (by decide) (by decide) (by decide))
  obtain⟨hl,hs,rfl,hlp,hhl,Gh⟩:=hold;have st5:=st3.trans st4;refine⟨_,rfl,_,rfl,p,60,rfl,st5.pen,by decide,by decide,λd H5 d0 d1' st6=> ?_⟩;refine⟨by show 9<=jv;decide,λl hl0=> ?_⟩;have s7:=aK (o:=.lst [.int 0,.int 1,.int 2,.int 3,.int 5,.int 9,.int 20,.int 999,.int d]) hl0;have st7:=(st5.trans st6).same s7;refine⟨p,l,_,rfl,st7.pen,(st5.trans st6).pen.fresh hl0,aG,by show 1<=9;decide,by show 9<=1000;decide,λv H6 hv st8=> ?_⟩;obtain⟨od,rfl,n1,n2⟩:∃n,v=V.int n/\0<=n/\n<=999:=by
   simp only[fe,gh,or_false]at hv;rcases hv with rfl|rfl|rfl|rfl|rfl|rfl|rfl|rfl|rfl
   all_goals exact⟨_,rfl,by omega,by omega⟩
  have st9:=st7.trans st8;have x26:Ext H2 H6:=((sA.ext.trans (st4.ext st3.pen)).trans ((st6.ext st5.pen).trans s7.ext)).trans (st8.ext st7.pen);have hhl6:H6 hl=some (.lst (hs.map V.int)):=st8.keep hl _ hlp (s7 _ _ (st6.keep hl _ hlp hhl));have hc6:fI H6 c cs:=x26.tup _ _ hc;refine⟨_,rfl,_,rfl,_,rfl,_,rfl,_,rfl,p,c,hl,cs,hs,rfl,st9.pen,hc6,Gc,hlp,hhl6,Gh,λk cl H7 st10 hk Gk Un=> ?_⟩;refine⟨_,rfl,by show 4<=jv;decide,λt ht=> ?_⟩;have s11:=aK (o:=.tup [.ref a,.ref c,.ref k,.int od]) ht;have x67:=st10.ext st9.pen;exact q t g w' cs cl od _ ((st9.trans st10).same s11) ⟨G,w4,g3,c6,Gc,Gk,Un,⟨n1,n2⟩,⟨a,c,k,aG,(hA.ext ((st2.ext st1.pen).trans (x26.trans x67))).ext s11.ext,s11 _ _ (x67.tup _ _ hc6),hk.ext s11.ext⟩⟩
structure TxD (mg:Str->Option jt):Prop where
 reversed:mg "reversed" =none
 repr:mg "repr" =none
 odd:∃t,mg "MOST_ODD" =some (.int 999 t)
noncomputable def xW:Sp:=λvs H Q _=> ∃i:Int,vs=[.int i]/\0<=i/\i<=999/\Q (.bl true) H
noncomputable def lD (r:V):Sp:=λvs H Q _=> ∃p g w cs cl od,vs=[.ref p]/\PleA H p g w cs cl od/\∀H',Same H H'->Q r H'
noncomputable def xO:Sp:=λvs H Q _=> ∃p g w cs cl od i,vs=[.ref p,.int i]/\PleA H p g w cs cl od/\eE cl i=true/\∀H',Same H H'->Q .non H'
noncomputable def zT:Sp:=λvs H Q _=> ∃a g w,vs=[.ref a]/\GridAt H a g/\dM g w/\∀H',Same H H'->Q (.int (bP g)) H'
theorem B2c (F:D1 K mg "is_odd" A3e ["thing"])(T:TxD mg)(a1:A1 P w K mg base 2 "is_number_within" mW):A1 P w K mg base 3 "is_odd" xW:=by
 obtain⟨t,mO⟩:=T.odd;refine F.k ["thing"] ?_;ac_nf
 ·obtain⟨i,rfl,h0,h9,q⟩:=h;refine⟨_,aR (aY (a1.c hr (aD (pv 0) (dH aU (aD (dW (v:=.int 999) rfl mO ⟨_,rfl⟩) aB))))),?_⟩;refine⟨_,rfl,_,0,999,rfl,trivial,?_⟩;have e:eW 0 999 (.int i)=true:=by simp[eW,h0,h9]
  rw[e];exact q
noncomputable abbrev nPl:List Str:=["thing","mead","custom","claims","odd"]
theorem B1v (F:D1 K mg "is_plea" A16 ["thing"])(a1:A1 P w K mg base 1 "is_tuple_within" iU)(a2:A1 P w K mg base 4 "is_mead" qS)(a3:A1 P w K mg base 3 "is_custom" uV)(a4:A1 P w K mg base 4 "are_claims" uK)(a5:A1 P w K mg base 1 "stand_under" tV)(a6:A1 P w K mg base 3 "is_odd" xW):A1 P w K mg base 5 "is_plea" (lD (.bl true)):=by
 refine F.k nPl ?_;ac_nf
 ·obtain⟨p,g,w',cs,cl,od,rfl,D,q⟩:=h;obtain⟨m,c,a,hp,hm,hc,ha⟩:=D.ex;refine⟨_,aT (bV (cX (cA (a1.c hr (aD (pv 0) (dH aU (dH aU aB)))))) (aR (aY fH)) bU)<|
   aT (cQ (pv 0) (bI rfl (aV (CZ 1 nd) (aV (CZ 2 nd) (aV (CZ 3 nd) (aV (CZ 4 nd) bH))))))<|
   aT (bV (PW.pt (jP (cX (cA (a2.c hr (aD (pv 1) aB)))) (jP (cX (cA (a3.c hr (aD (pv 2) aB)))) (lK (cX (cA (a4.c hr (aD (pv 3) aB)))))))) (aR (aY fH)) bU)<|
   aR (aY (hJ (a5.c hr (aD (pv 2) (aD (pv 3) aB))) (gT (a6.c hr (aD (pv 4) aB))))),?_⟩
  have e4:dS H 4 4 (.ref p)=true:=by unfold dS;rw[lT hp];rfl
  have kp:Kn H 1 (.ref p):=.inr (.inr ⟨_,hp,by show 4<=1000;decide,λ_ _=>trivial⟩);refine⟨_,rfl,_,4,4,rfl,kp,_,rfl,?_⟩;rw[e4];refine bY ?_;refine⟨_,rfl,p,_,rfl,CY.of hp,rfl,_,_,rfl,_,_,rfl,_,_,rfl,_,_,rfl,rfl,?_⟩;refine⟨_,rfl,m,g,w',rfl,hm,D.G,λH1 s1=> ⟨_,rfl,?_⟩⟩;refine bY ⟨_,rfl,c,cs,rfl,s1 _ _ hc,D.cu,λH2 s2=> ⟨_,rfl,bY ?_⟩⟩;have s12:=s1.trans s2;refine⟨_,rfl,a,cl,rfl,ha.ext s12.ext,D.ck,λH3 s3=> ⟨_,rfl,bY ?_⟩⟩;have s13:=s12.trans s3;refine⟨_,rfl,_,rfl,c,a,cs,cl,rfl,s13 _ _ hc,ha.ext s13.ext,D.ck.l12,D.un,λH4 s4=> ⟨_,rfl,fY ?_⟩⟩;exact⟨_,rfl,od,rfl,D.o9.1,D.o9.2,q H4 (s13.trans s4)⟩
theorem A3v (F:D1 K mg "check_plea" yY ["plea"])(a1:A1 P w K mg base 5 "is_plea" (lD (.bl true))):A1 P w K mg base 6 "check_plea" (lD .non):=by
 refine F.k ["plea"] ?_;ac_nf
 ·obtain⟨p,g,w',cs,cl,od,rfl,D,q⟩:=h;refine⟨_,aR (bV (cX (cA (a1.c hr (aD (pv 0) aB)))) gJ bU),?_⟩;exact⟨_,rfl,p,g,w',cs,cl,od,rfl,D,λH1 s1=> ⟨_,rfl,bY (q H1 s1)⟩⟩
theorem A5r (F:D1 K mg "check_plea_and_holder" A2n ["plea","holder"])(a1:A1 P w K mg base 6 "check_plea" (lD .non))(a2:A1 P w K mg base 3 "check_holder" uB):A1 P w K mg base 7 "check_plea_and_holder" xO:=by
 refine F.k ["plea","holder","mead","custom","claims","odd"] ?_;ac_nf
 ·obtain⟨p,g,w',cs,cl,od,i,rfl,D,hh,q⟩:=h;refine⟨_,aT (dP (a1.c hr (aD (pv 0) aB)))<|
   aT (cQ (pv 0) (bI rfl (aV (CZ 2 nd) (aV (CZ 3 nd) (aV (CZ 4 nd) (aV (CZ 5 nd) bH))))))<|
   aR (dP (a2.c hr (aD (pv 4) (aD (pv 1) aB)))),?_⟩
  refine⟨_,rfl,p,g,w',cs,cl,od,rfl,D,λH1 s1=> ?_⟩;obtain⟨m,c,a,hp,hm,hc,ha⟩:=(D.same s1).ex;refine⟨_,rfl,p,_,rfl,CY.of hp,rfl,_,_,rfl,_,_,rfl,_,_,rfl,_,_,rfl,rfl,?_⟩;exact⟨_,rfl,_,rfl,a,cl,i,rfl,ha,D.ck.l12,hh,λH2 s2=>q H2 (s1.trans s2)⟩
theorem A8z (F:D1 K mg "whole_worth" xA ["mead"])(a1:A1 P w K mg base 1 "worth_together" wS)(a2:A1 P w K mg base 6 "cells_of" (eT pos)):A1 P w K mg base 7 "whole_worth" zT:=by
 refine F.k ["mead"] ?_;ac_nf
 ·obtain⟨a,g,w',rfl,hA,G,q⟩:=h;refine⟨_,aR (aY (a1.c hr (aD (pv 0) (bM (a2.c hr (aD (pv 0) aB)) aB)))),?_⟩;refine⟨_,rfl,_,rfl,a,g,w',rfl,hA,G,λH1 l ps hl s1 hl1 hP=> ?_⟩;exact⟨a,l,g,w',ps,rfl,hA.same s1,G,hl1,hP,λH2 s2=>q H2 (s1.trans s2)⟩
noncomputable abbrev shT (cs:List Int)(cl:List C3)(i:Int):Int:=frTop (bN cs cl i) (bF cs cl)
noncomputable abbrev shB (cs:List Int)(cl:List C3)(i:Int):Int:=frBot (bN cs cl i) (bF cs cl)
noncomputable def nZ (g:bE)(cs:List Int)(cl:List C3)(i:Int):Int:=frTop (bP g*shT cs cl i) (shB cs cl i)
noncomputable def kD (g:bE)(cs:List Int)(cl:List C3)(i:Int):Int:=frBot (bP g*shT cs cl i) (shB cs cl i)
noncomputable def A2r:Sp:=λvs H Q _=> ∃p g w cs cl od i,vs=[.ref p,.int i]/\PleA H p g w cs cl od/\eE cl i=true/\∀q H',Same H H'->H' q=some (.tup [.int (nZ g cs cl i),.int (kD g cs cl i)])->Q (.ref q) H'
theorem rN (h0:0<=t)(h1:1<=b):0<=frTop t b/\1<=frBot t b/\frTop t b<=t/\frBot t b<=b/\frTop t b*b=t*frBot t b:=by
 unfold frTop frBot;obtain⟨tn,rfl⟩:=md h0;obtain⟨bn,rfl⟩:=md (show 0<=b by omega);have hb:0<bn:=by omega
 rw[lq,lq];have hg:0<Ar tn bn:=AA _ hb;obtain⟨x,ex⟩:=Nat.gcd_dvd_left tn bn;obtain⟨y,ey⟩:=Nat.gcd_dvd_right tn bn;generalize Ar tn bn=d at*;have e1:tn/d=x:=by rw[ex];exact AZ x hg
 have e2:bn/d=y:=by rw[ey];exact AZ y hg
 rw[←Int.natCast_ediv,←Int.natCast_ediv,e1,e2];have hy:0<y:=Nat.pos_of_ne_zero λz=>by rw[z,Nat.mul_zero]at ey;omega
 have hx:x<=tn:=by rw[ex];exact Bh x hg
 have hy2:y<=bn:=by rw[ey];exact Bh y hg
 refine⟨Int.natCast_nonneg _,by omega,by omega,by omega,?_⟩;have:x*bn=tn*y:=by
  have z1:x*bn=x*(d*y):=by rw[←ey]
  have z2:tn*y=(d*x)*y:=by rw[←ex]
  rw[z1,z2,mul_comm d x,Nat.mul_assoc]
 exact_mod_cast this
theorem sG {g:bE}{w:Nat}(G:dM g w)(h6:cS g<=6):0<=bP g/\bP g<=594:=by
 have row:∀xs:List Int,(∀n∈xs,-2<=n/\n<=99)->0<=iN xs/\iN xs<=99*eG xs:=λxs h=>by
  induction xs with
  |nil=>exact⟨by simp[iN],by simp[iN,eG]⟩
  |cons x xs ih=>
   have:=ih λn hn=>h n (CP _ hn);have hx:=h x CQ;unfold iN eG at this⊢;rw[d6,il,List.filter_cons];by_cases z:0<=x
   ·rw[if_pos (show Grd.pos x=true from CM z),c9]
    split<;>omega
   ·have zp:Grd.pos x=false:=CN z;have z2:¬x>0:=by omega
    simp only[zp,z2,km,↓reduceIte];omega
 have all:∀g:bE,(∀xs∈g,∀n∈xs,-2<=n/\n<=99)->0<=bP g/\bP g<=99*cS g:=λg h=>by
  induction g with
  |nil=>exact⟨by simp[bP],by simp[bP,cS]⟩
  |cons x g ih=>
   have:=ih λn hn=>h n (CP _ hn);have r:=row x (h x CQ);unfold bP cS at this⊢;rw[d6,il,d6,il];omega
 have:=all g G.num;omega
noncomputable abbrev nDu:List Str:=["plea","holder","mead","custom","claims","odd","top","bottom"]
theorem A9u (F:D1 K mg "due_of" A0w ["plea","holder"])(a1:A1 P w K mg base 7 "check_plea_and_holder" xO)(a2:A1 P w K mg base 8 "share_of" A05)(a3:A1 P w K mg base 1 "fraction" uE)(a4:A1 P w K mg base 7 "whole_worth" zT):A1 P w K mg base 9 "due_of" A2r:=by
 refine F.k nDu ?_;ac_nf
 ·obtain⟨p,g,w',cs,cl,od,i,rfl,D,hh,q⟩:=h;refine⟨_,aT (dP (a1.c hr (aD (pv 0) (aD (pv 1) aB))))<|
   aT (cQ (pv 0) (bI rfl (aV (CZ 2 nd) (aV (CZ 3 nd) (aV (CZ 4 nd) (aV (CZ 5 nd) bH))))))<|
   aT (cQ (a2.c hr (aD (pv 3) (aD (pv 4) (aD (pv 1) aB)))) (bI rfl (aV (CZ 6 nd) (aV (CZ 7 nd) bH))))<|
   aR (aY (a3.c hr (dQ (bC eQ (a4.c hr (aD (pv 2) aB)) (pv 6)) (aD (pv 7) aB)))),?_⟩
  refine⟨_,rfl,_,rfl,p,g,w',cs,cl,od,i,rfl,D,hh,λH1 s1=> ?_⟩;obtain⟨m,c,a,hp,hm,hc,ha⟩:=(D.same s1).ex;refine⟨_,rfl,p,_,rfl,CY.of hp,rfl,_,_,rfl,_,_,rfl,_,_,rfl,_,_,rfl,rfl,?_⟩;refine⟨_,rfl,_,rfl,_,rfl,c,a,cs,cl,i,rfl,hc,D.cu,ha,D.ck,D.un,hh,λt H2 s2 ht=> ?_⟩;refine⟨t,_,rfl,CY.of ht,rfl,_,_,rfl,_,_,rfl,rfl,?_⟩;have hb:=nK D.cu D.ck D.un i;have fr:=rN hb.1.1 hb.2.1;have tb:=sG D.G D.c6;refine⟨_,rfl,m,g,w',rfl,hm.same s2,D.G,λH3 s3=> ?_⟩;refine⟨_,rfl,_,_,rfl,rfl,.inl ⟨by omega,by omega⟩,_,rfl,_,_,rfl,⟨Int.mul_nonneg tb.1 fr.1,?_⟩,⟨fr.2.1,by omega⟩,λr hr'=>q r _ (((s1.trans s2).trans s3).trans (aK hr')) aG⟩;have h1:bP g*frTop (bN cs cl i) (bF cs cl)<=594*frTop (bN cs cl i) (bF cs cl):=uo (by omega) fr.1;show bP g*frTop (bN cs cl i) (bF cs cl)<_;omega
noncomputable def C6 {α:Type}:List α->List (List α)
 | []=> [[]]
 |x::xs=> []::((C6 xs).map (x:: ·)++(C6 xs).tail)
theorem mX (xs:List α):∃t,C6 xs=[]::t:=by cases xs<;>exact⟨_,rfl⟩
theorem rW:∀xs:List α,(C6 xs).length=2^xs.length
 | []=>rfl
 |x::xs=>by
  have ih:=rW xs;unfold C6;obtain⟨t,e⟩:=mX xs;rw[c9,c8,di,List.length_tail,ih,c9,pow_succ];have:0<2^xs.length:=Nat.pos_of_ne_zero (by simp);omega
theorem gG:∀{xs ys:List α},ys∈C6 xs->ys.Sublist xs
 | [],ys,h=>by rw[fy.mp h];exact Cn.slnil
 |x::xs,ys,h=>by
  unfold C6 at h;rcases fe.mp h with rfl|h
  ·exact List.nil_sublist _
  ·rcases d8.mp h with h|h
   ·obtain⟨zs,hz,rfl⟩:=fm.mp h;exact(gG hz).cons_cons x
   ·exact(gG (List.mem_of_mem_tail h)).cons x
theorem uS:∀{xs ys:List α},ys.Sublist xs->ys∈C6 xs
 |_,_,.slnil=>fy.mpr rfl
 |x::xs,ys,.cons _ h=>by
  unfold C6;have:=uS h;obtain⟨t,e⟩:=mX xs;rw[e]at this;rcases fe.mp this with rfl|h'
  ·exact CQ
  ·refine CP _ (d8.mpr (.inr ?_));rw[e];exact h'
 |x::xs,_::ys,.cons₂ _ h=>by
  unfold C6;exact CP _ (d8.mpr (.inl (fo (uS h))))
noncomputable def vG:Sp:=λvs H Q _=> ∃l xs,vs=[.ref l]/\H l=some (.lst xs)/\xs.length<=6/\∀l' qs H',H l'=none->Same H H'->H' l'=some (.lst ((qs:List ju).map V.ref))->TusAt H' qs (C6 xs)->Q (.ref l') H'
noncomputable abbrev nRT:List Str:=["things","tuples","thing"]
theorem A7j:(["some","thing"]:List Str).Nodup:=by decide +kernel
theorem A9r (F:D1 K mg "rising_tuples" tO ["things"])(T:TxD mg):A1 P w K mg base 1 "rising_tuples" vG:=by
 refine F.k nRT ?_;ac_nf
 ·obtain⟨l,xs,rfl,hl,h6,q⟩:=h;refine⟨_,aT (bJ (i:=1) nd rfl (ng rfl) (cZ (gI (bT aB) aB)))<|
   aT (dF k9 rfl (B17 rfl T.reversed (aD (pv 0) aB)) (aJ (i:=2) nd rfl (qr rfl))
    (aR (bJ (i:=1) nd rfl (ng rfl) (bC jI (bC jI (cZ (gI (bT aB) aB)) (bQ (bB tO).names nRT ["some"] [("thing",2)] rfl (cR (pv 1)) rfl rfl rfl (by decide +kernel)
     (λZ=>CZ 0 A7j) (λZ=>cF) (λZ=>bC nL (bT (aD (pv 1) aB)) (pv 0)))) (jY pI (pv 1) (iQ aU) lW)))))<|
   aR (aY (pv 1)),?_⟩
  refine⟨by show 0<=jv;decide,λt0 ht0=> ⟨by show 1<=jv;decide,λl0 hl0=> ?_⟩⟩;have s0:=aK (o:=.tup []) ht0;have s1:=aK (o:=.lst [.ref t0]) hl0;have s01:=s0.trans s1;have el0:(upd (upd H t0 (.tup [])) l0 (.lst [.ref t0])) l0=some (.lst [.ref t0]):=aG;have et0:(upd (upd H t0 (.tup [])) l0 (.lst [.ref t0])) t0=some (.tup []):=s1 _ _ aG;have n0:H l0=none:=s0.free hl0;generalize upd (upd H t0 (.tup [])) l0 (.lst [.ref t0])=H1 at s01 el0 et0⊢;refine⟨_,rfl,l,xs,rfl,CW.of (s01 _ _ hl),?_⟩;refine A99 (K:=K) (a:=l) (xs:=xs) (λi σ H'=>Same H H'/\∃lt qs o,σ=[some (.ref l),some (.ref lt),o]/\H lt=none/\H' lt=some (.lst ((qs:List ju).map V.ref))/\TusAt H' qs (C6 (xs.drop (xs.length - i))))
   ⟨s01,l0,[t0],_,rfl,n0,el0,by rw[sub_zero,List.drop_length];exact .cons et0 .nil⟩ (λi σ H' _ h=>CW.of (h.1 _ _ hl)) ?_ ?_
  ·rintro i x σ H' hx hi ⟨hs,lt,qs,o,rfl,nlt,CC,hT⟩;have ed:xs.drop (xs.length -(i+1))=x::xs.drop (xs.length - i):=by
    have e1:xs.length -(i+1)=xs.length - 1 - i:=by omega
    have e2:xs.length - i=xs.length - 1 - i+1:=by omega
    rw[e1,e2];exact List.drop_eq_getElem?_toList_append ..|>.trans (by rw[hx];rfl)
   generalize hR:C6 (xs.drop (xs.length - i))=R at hT;have hRl:R.length<=64:=by
    rw[←hR,rW,de];exact jd (jq (by decide) (show xs.length -(xs.length - i)<=6 by omega)) (by decide)
   have hql:qs.length=R.length:=Paired.length hT;obtain⟨R',eR⟩:∃R',R=[]::R':=by rw[←hR];exact mX _
   show gY _ _ _ [some (.ref l),some (.ref lt),some x] H';refine⟨by show 0<=jv;decide,λt1 ht1=> ⟨by show 1<=jv;decide,λl1 hl1=> ?_⟩⟩;have u1:=aK (o:=.tup []) ht1;have u2:=aK (o:=.lst [.ref t1]) hl1;have u12:=u1.trans u2;have el1:(upd (upd H' t1 (.tup [])) l1 (.lst [.ref t1])) l1=some (.lst [.ref t1]):=aG;have et1:(upd (upd H' t1 (.tup [])) l1 (.lst [.ref t1])) t1=some (.tup []):=u2 _ _ aG;generalize upd (upd H' t1 (.tup [])) l1 (.lst [.ref t1])=H2 at u12 el1 et1⊢;have hT2:=hT.same u12;refine⟨_,rfl,lt,rfl,⟨_,CW.of (u12 _ _ CC)⟩,λZ lc hlc=> ?_⟩;refine A0l (rest:=[some x]) (λys=>x::ys) gH (λH3 s3=>CW.of (s3 _ _ (u12 _ _ CC))) hT2 hlc (by omega) (λqq ys H3 Q' hy hq s3 k=> ?_) λσ3 H3 qs' s3 hc3 hT3=> ?_
   ·refine⟨_,rfl,by show 1<=jv;decide,λtx htx=> ?_⟩;have v1:=aK (o:=.tup [x]) htx;refine⟨_,rfl,tx,qq,_,_,rfl,rfl,aG,v1 _ _ hq,?_,λc H5 s5 e5=>k c H5 (v1.trans s5) e5⟩;rw[←hR]at hy;have:=(gG hy).length_le;rw[de]at this;rw[ko];show 1+_<=_;omega
   ·have hT23:=hT2.same s3;have el1':=s3 _ _ el1;refine⟨l1,lc,_,_,rfl,rfl,el1',hc3,?_,λla hla=> ?_⟩
    ·have:qs'.length=_:=Paired.length hT3;rw[di]at this;rw[ko,di];show 1+_<=_;omega
    have v1:=aK (o:=.lst ([.ref t1]++qs'.map V.ref)) hla;refine⟨_,rfl,_,rfl,lt,_,rfl,CW.of (v1 _ _ (s3 _ _ (u12 _ _ CC))),λlb hlb=> ?_⟩;have v2:=aK (o:=.lst (cI (qs.map V.ref) (some 1) none)) hlb;have ec:cI (qs.map V.ref) (some 1) none=(qs.drop 1).map V.ref:=by
     rw[wK _ (by rw[di,hql,eR];simp),map_drop]
    refine⟨la,lb,_,_,rfl,rfl,v2 _ _ aG,aG,?_,λlz hlz=> ?_⟩
    ·have:qs'.length=_:=Paired.length hT3;rw[di]at this;rw[ec,ko,c8,di,di,de];show 1+_+_<=_;omega
    have v3:=aK (o:=.lst ([.ref t1]++qs'.map V.ref++cI (qs.map V.ref) (some 1) none)) hlz;have vA:=(v1.trans v2).trans v3;have sA:=((hs.trans u12).trans s3).trans vA;refine⟨sA,lz,t1::(qs'++qs.drop 1),_,rfl,((hs.trans u12).trans s3).free (((v1.trans v2)).free hlz),?_,?_⟩
    ·rw[aG,ec];simp[dz]
    ·rw[ed];show TusAt _ (t1::(qs'++qs.drop 1)) ([]::((C6 (xs.drop (xs.length - i))).map (x:: ·)++(C6 (xs.drop (xs.length - i))).tail));rw[hR];exact .cons (vA _ _ (s3 _ _ et1)) (jF (hT3.same vA) (B2r (hT23.same vA)))
  ·rintro σ H' ⟨hs,lt,qs,o,rfl,nlt,CC,hT⟩;rw[Nat.sub_self,ax]at hT;exact⟨_,rfl,q lt qs H' nlt hs CC hT⟩
theorem C1.ext (h:C1 H a cs)(e:Ext H H'):C1 H' a cs:=let ⟨ps,h1,h2⟩:=h;⟨ps,e.tup _ _ h1,Paired.mapP h2 λ_ _ z=>e.tup _ _ z⟩
noncomputable def LansAt (H:Hp)(qs:List ju)(ts:List (List Pl)):Prop:=Paired (λq cs=>C1 H q cs) qs ts
theorem LansAt.ext (h:LansAt H qs ts)(e:Ext H H'):LansAt H' qs ts:=Paired.mapP h λ_ _ x=>C1.ext x e
theorem A4r (h:PlAt H ps A):Paired (λp c=>PlAt H p c) (C6 ps) (C6 A):=by
 induction h with
 |nil=>exact .cons .nil .nil
 | @cons p0 c0 _ _ r t ih=>
  unfold C6;refine .cons .nil (jF ?_ ?_)
  ·have:∀{l:List (List ju)}{m:List (List Pl)},Paired (λp c=>PlAt H p c) l m->Paired (λp c=>PlAt H p c) (l.map (p0:: ·)) (m.map (c0:: ·)):=by
    intro l m h
    induction h with
    |nil=>exact .nil
    |cons r2 t2 ih2=>exact .cons (.cons r r2) ih2
   exact this ih
  ·have:∀{l:List (List ju)}{m:List (List Pl)},Paired (λp c=>PlAt H p c) l m->Paired (λp c=>PlAt H p c) l.tail m.tail:=by
    intro l m h;cases h with
    |nil=>exact .nil
    |cons r2 t2=>exact t2
   exact this ih
theorem A3d (f:α->β):∀xs:List α,C6 (xs.map f)=(C6 xs).map (vd f)
 | []=>rfl
 |x::xs=>by
  have ih:=A3d f xs;show []::((C6 (xs.map f)).map (f x:: ·)++(C6 (xs.map f)).tail)=[]::((C6 xs).map (x:: ·)++(C6 xs).tail).map (vd f);rw[ih,dz,d7,d7,List.map_tail];rfl
theorem B1c (h:TusAt H qs (C6 (ps.map V.ref)))(hP:PlAt H ps A):LansAt H qs (C6 A):=by
 rw[A3d]at h;have key:∀{qs:List ju}{l:List (List ju)}{m:List (List Pl)},TusAt H qs (l.map (vd V.ref))->Paired (λp c=>PlAt H p c) l m->LansAt H qs m:=by
  intro qs l m h1 h2
  induction h2 generalizing qs with
  |nil=>cases h1;exact .nil
  |cons r t ih=>
   cases h1 with
   |cons r1 t1=>exact .cons ⟨_,r1,r⟩ (ih t1)
 exact key h (A4r hP)
noncomputable def hZ (g:bE)(cs:List Pl):Bool:=(cs.any λc=>decide (c∈(aQ pos g).filter (fM g)))&&mD cs
noncomputable def lB (g:bE):List (List Pl):=(C6 (aQ pos g)).filter (hZ g)
noncomputable def ab (i:Int):Int:=if i<0 then -i else i
noncomputable def jC (g:bE)(cs:List Int)(cl:List C3)(od i:Int)(L:List Pl):Bool:=decide (ab (cM g L*kD g cs cl i - nZ g cs cl i)<=od*kD g cs cl i)
noncomputable def A1g:Sp:=λvs H Q _=> ∃t l g w cs ps,vs=[.ref t,.ref l]/\C1 H t cs/\dM g w/\LandOf g cs/\H l=some (.lst ((ps:List ju).map V.ref))/\PlAt H ps ((aQ pos g).filter (fM g))/\∀H',Same H H'->Q (.bl (hZ g cs)) H'
noncomputable def wD:Sp:=λvs H Q _=> ∃a g w,vs=[.ref a]/\GridAt H a g/\dM g w/\cS g<=6/\∀l qs H',H l=none->Same H H'->H' l=some (.lst ((qs:List ju).map V.ref))->LansAt H' qs (lB g)->Q (.ref l) H'
theorem LandOf.up (h:LandOf g cs):cs.Pairwise ltP:=(oQ pos g).sublist h
theorem B0b (F:D1 K mg "is_sound" A2d ["land","roadside"])(a1:A1 P w K mg base 1 "has_some_of" A1j)(a2:A1 P w K mg base 3 "is_one_piece" wF):A1 P w K mg base 4 "is_sound" A1g:=by
 refine F.k ["land","roadside"] ?_;ac_nf
 ·obtain⟨t,l,g,w',cs,ps,rfl,ht,G,hL,hl,hP,q⟩:=h;have h10:=LandOf.len G hL;refine⟨_,aR (aY (hJ (a1.c hr (aD (pv 0) (aD (pv 1) aB))) (gT (a2.c hr (aD (pv 0) aB))))),?_⟩;refine⟨_,rfl,_,rfl,t,l,cs,ps,_,rfl,ht,by omega,hl,hP,λH1 s1=> ⟨_,rfl,fB (λe=> ?_) λe=> ?_⟩⟩
  ·refine⟨_,rfl,t,cs,rfl,C1.ext ht s1.ext,h10,λb H2 s2 hb=> ?_⟩;have:=q H2 (s1.trans s2);unfold hZ at this;rw[e,Bool.true_and,←A9m (LandOf.up hL) hb]at this;exact this
  ·have:=q H1 s1;unfold hZ at this;rw[e,Bool.false_and]at this;exact this
theorem lX (h6:cS g<=6):(C6 (aQ pos g)).length<=64:=by rw[rW,eD];exact jd (jq (by decide) h6) (by decide)
theorem B2a:(["land","roadside"]:List Str).Nodup:=by decide +kernel
theorem A9v (F:D1 K mg "sound_lands" rX ["mead"])(a1:A1 P w K mg base 7 "cells_at_road" A0u)(a2:A1 P w K mg base 1 "rising_tuples" vG)(a3:A1 P w K mg base 6 "cells_of" (eT pos))(a4:A1 P w K mg base 4 "is_sound" A1g):A1 P w K mg base 8 "sound_lands" wD:=by
 refine F.k ["mead","roadside"] ?_;ac_nf
 ·obtain⟨a,g,w',rfl,hA,G,c6,q⟩:=h;refine⟨_,aT (bJ (i:=1) nd rfl (qr rfl) (a1.c hr (aD (pv 0) aB)))<|
   aR (aY (bQ (bB rX).names ["mead","roadside"] ["land"] [("roadside",1)] rfl (cR (a2.c hr (bM (a3.c hr (aD (pv 0) aB)) aB))) rfl rfl rfl (by decide +kernel)
    (λZ=>CZ 0 B2a) (λZ=>dX (cA (a4.c hr (aD (pv 0) (aD (pv 1) aB))))) (λZ=>pv 0))),?_⟩
  refine⟨_,rfl,a,g,w',rfl,hA,G,λH1 lr pr hlr s1 elr hR=> ?_⟩;refine⟨_,rfl,a,g,w',rfl,hA.same s1,G,λH2 lc pc hlc s2 elc hP=> ?_⟩;have hpl:pc.length=(aQ pos g).length:=Paired.length hP;refine⟨lc,_,rfl,elc,by rw[di,hpl,eD];exact c6,λlt qs H3 CA s3 CC hT=> ?_⟩;have hL:=B1c hT (hP.same s3);have hql:qs.length=_:=Paired.length hL;have h64:=lX c6;have s23:=s2.trans s3;refine⟨lt,rfl,⟨_,CW.of CC⟩,λZ l hl=> ?_⟩;refine iB (R:=λH q cs=>C1 H q cs) (λe h=>C1.ext h e) (rest:=[some (.ref lr)]) (hZ g) gH (λH' hs=>CW.of (hs _ _ CC)) hL hl (by omega) (λb c H' Q' hc hb hs k=> ?_) λσ H' qs' hs el' hP'=> ?_
  ·exact⟨_,rfl,_,rfl,b,lr,g,w',c,pr,rfl,hb,G,gG hc,hs _ _ (s23 _ _ elr),(hR.same s23).same hs,λH2' s2'=> ⟨_,rfl,k H2' s2'⟩⟩
  ·have sA:=(s1.trans s23).trans hs;exact q l qs' H' ((s1.trans s23).free hl) sA el' hP'
theorem oT:qu "abs" =some (.builtin "abs"):=by decide +kernel
noncomputable def A2f:Sp:=λvs H Q _=> ∃p g w cs cl od i l qs Ls,vs=[.ref p,.int i,.ref l]/\PleA H p g w cs cl od/\eE cl i=true/\H l=some (.lst ((qs:List ju).map V.ref))/\LansAt H qs Ls/\Ls.length<=64/\(∀L∈Ls,LandOf g L)/\∀l' qs' H',H l'=none->Same H H'->H' l'=some (.lst ((qs':List ju).map V.ref))->LansAt H' qs' (Ls.filter (jC g cs cl od i))->Q (.ref l') H'
theorem B42 {g:bE}{w:Nat}(G:dM g w){c:Pl}(hc:c∈aQ pos g):0<=atG g c/\atG g c<=99:=by obtain⟨i,j,xs,x,rfl,hx,hj,hp⟩:=mem_gridF.mp hc;rw[jN hx hj];exact⟨of_decide_eq_true hp,(G.num xs (fq hx) x (fq hj)).2⟩
theorem qA {g:bE}{w:Nat}(G:dM g w){L:List Pl}(h:∀c∈L,c∈aQ pos g)(h10:L.length<=10):0<=cM g L/\cM g L<=990:=by
 have hv:∀c∈aQ pos g,0<=atG g c/\atG g c<=99:=λc hc=>B42 G hc;have:0<=cM g L/\cM g L<=99*L.length:=by
  unfold cM;clear h10
  induction L with
  |nil=>exact⟨by simp,by simp⟩
  |cons c L ih=>
   have i:=ih λd hd=>h d (CP _ hd);have hc:=hv c (h c CQ);rw[d6,il,c9];omega
 omega
noncomputable abbrev nWD:List Str:=["plea","holder","lands","mead","custom","claims","odd","top","bottom"]
theorem B4l:(["land","mead","bottom","top","odd"]:List Str).Nodup:=by decide +kernel
theorem A5f (F:D1 K mg "worth_the_due" tL ["plea","holder","lands"])(T2:dZ mg)(a1:A1 P w K mg base 9 "due_of" A2r)(a2:A1 P w K mg base 1 "worth_together" A3i):A1 P w K mg base 10 "worth_the_due" A2f:=by
 refine F.k nWD ?_;ac_nf
 ·obtain⟨p,g,w',cs,cl,od,i,l,qs,Ls,rfl,D,hh,hl,hL,h64,hLs,q⟩:=h;obtain⟨m,c,a,hp,hm,hc,ha⟩:=D.ex;refine⟨_,aT (cQ (pv 0) (bI rfl (aV (aJ (i:=3) nd rfl (qr rfl)) (aV (CZ 4 nd) (aV (CZ 5 nd) (aV (aJ (i:=6) nd rfl (qr rfl)) bH))))))<|
   aT (cQ (a1.c hr (aD (pv 0) (aD (pv 1) aB))) (bI rfl (aV (aJ (i:=7) nd rfl (qr rfl)) (aV (aJ (i:=8) nd rfl (qr rfl)) bH))))<|
   aR (aY (bQ (bB tL).names nWD ["land"] [("mead",3),("bottom",8),("top",7),("odd",6)] rfl (cR (pv 2)) rfl rfl rfl (by decide +kernel)
    (λZ=>CZ 0 B4l) (λZ=>dX (cB jJ (bD pG rfl T2.abs oT (dQ (bC iI (bC eQ (a2.c hr (aD (pv 1) (aD (pv 0) aB))) (pv 2)) (pv 3)) aB)) (bC eQ (pv 4) (pv 2)) (nomark _))) (λZ=>pv 0))),?_⟩
  refine⟨_,rfl,p,_,rfl,CY.of hp,rfl,_,_,rfl,_,_,rfl,_,_,rfl,_,_,rfl,rfl,?_⟩;refine⟨_,rfl,_,rfl,p,g,w',cs,cl,od,i,rfl,D,hh,λt H1 s1 ht=> ?_⟩;refine⟨t,_,rfl,CY.of ht,rfl,_,_,rfl,_,_,rfl,rfl,?_⟩;have hql:qs.length=_:=Paired.length hL;refine⟨_,rfl,l,rfl,⟨_,CW.of (s1 _ _ hl)⟩,λZ lz hlz=> ?_⟩;refine iB (R:=λH q cs=>C1 H q cs) (λe h=>C1.ext h e) (rest:=[some (.ref m),some (.int (kD g cs cl i)),some (.int (nZ g cs cl i)),some (.int od)]) (jC g cs cl od i) gH (λH' hs=>CW.of (hs _ _ (s1 _ _ hl))) (hL.ext s1.ext) hlz (by omega) (λb L H' Q' hc hb hs k=> ?_) λσ H' qs' hs el' hP'=> ?_
  ·have hLL:=hLs L hc;refine⟨_,rfl,_,rfl,m,b,g,w',L,rfl,(hm.same s1).same hs,D.G,hb,hLL,λH2 s2=> ?_⟩;have wb:=qA D.G (λc hc=>hLL.subset hc) (LandOf.len D.G hLL);refine⟨_,rfl,_,_,rfl,rfl,.inl ⟨by omega,by omega⟩,_,rfl,_,_,rfl,rfl,_,rfl,_,rfl,_,rfl,_,_,rfl,rfl,.inl ⟨by have:=D.o9;omega,by have:=D.o9;omega⟩,_,_,rfl,rfl,_,rfl,?_⟩;exact k H2 s2
  ·exact q lz qs' H' (s1.free hlz) (s1.trans hs) el' hP'
noncomputable def bO (g:bE)(cs:List Int)(cl:List C3)(od:Int)(i:Int):List (List Pl):=(lB g).filter (jC g cs cl od i)
noncomputable def C7 (cl:List C3):List Int:=(aX (dJ cl)).map λk:Nat=>(k:Int)
noncomputable def FitD (H:Hp)(d:ju)(hs:List Int)(F:Int->List (List Pl)):Prop:=∃ls:List ju,H d=some (.dK ((hs.zip ls).map λz=>(kr z.1,V.ref z.2)))/\Paired (λi l=> ∃qs,H l=some (.lst ((qs:List ju).map V.ref))/\LansAt H qs (F i)) hs ls
noncomputable def uR:Sp:=λvs H Q _=> ∃p g w cs cl od,vs=[.ref p]/\PleA H p g w cs cl od/\∀d H',H d=none->Same H H'->FitD H' d (C7 cl) (bO g cs cl od)->Q (.ref d) H'
theorem wZ (h:i∈C7 cl):eE cl i=true:=by
 unfold C7 at h;obtain⟨k,hk,rfl⟩:=fm.mp h;unfold aX at hk;have key:∀b0 b1 b2 b3:Bool,k∈L b0 b1 b2 b3->(k=0/\b0=true)\/(k=1/\b1=true)\/(k=2/\b2=true)\/(k=3/\b3=true):=by
  intro b0 b1 b2 b3 h;cases b0<;>cases b1<;>cases b2<;>cases b3<;>simp[L]at h<;>simp[h]
 rcases key _ _ _ _ hk with⟨rfl,e⟩| ⟨rfl,e⟩| ⟨rfl,e⟩| ⟨rfl,e⟩<;>exact e
theorem yM (cl:List C3):(C7 cl).length<=4:=by
 unfold C7 aX;rw[di];have key:∀b0 b1 b2 b3:Bool,(L b0 b1 b2 b3).length<=4:=by decide
 exact key _ _ _ _
theorem rC (cl:List C3):(C7 cl).Nodup:=by
 unfold C7 aX;have key:∀b0 b1 b2 b3:Bool,((L b0 b1 b2 b3).map λk:Nat=>(k:Int)).Nodup:=by decide
 exact key _ _ _ _
noncomputable abbrev nFA:List Str:=["plea","mead","custom","claims","odd","lands"]
theorem B3a:(["holder","plea","lands"]:List Str).Nodup:=by decide +kernel
theorem B2e (F:D1 K mg "fits_of_all" nG ["plea"])(a1:A1 P w K mg base 6 "check_plea" (lD .non))(a2:A1 P w K mg base 8 "sound_lands" wD)(a3:A1 P w K mg base 10 "worth_the_due" A2f)(a4:A1 P w K mg base 6 "holders_of" mY):A1 P w K mg base 11 "fits_of_all" uR:=by
 refine F.k nFA ?_;ac_nf
 ·obtain⟨p,g,w',cs,cl,od,rfl,D,q⟩:=h;have hu:(A.deeper (zq "fits_of_all" (bB nG) s.heap.objs.size f cdv)).units<nj:=by have:=hr.un;omega
  refine⟨_,aT (dP (a1.c hr (aD (pv 0) aB)))<|
   aT (cQ (pv 0) (bI rfl (aV (CZ 1 nd) (aV (CZ 2 nd) (aV (CZ 3 nd) (aV (CZ 4 nd) bH))))))<|
   aT (bJ (i:=5) nd rfl (qr rfl) (a2.c hr (aD (pv 1) aB)))<|
   aR (aY (B3d (bB nG).names nFA ["holder"] [("plea",0),("lands",5)] rfl (cR (a4.c hr (aD (pv 3) aB))) rfl rfl rfl (by decide +kernel)
    (λZ=>CZ 0 B3a) (λZ=>cF) hu (λZ=>pv 0) (λZ=>a3.c hr (aD (pv 1) (aD (pv 0) (aD (pv 2) aB)))))),?_⟩
  refine⟨_,rfl,p,g,w',cs,cl,od,rfl,D,λH1 s1=> ?_⟩;obtain⟨m,c,a,hp,hm,hc,ha⟩:=(D.same s1).ex;refine⟨_,rfl,p,_,rfl,CY.of hp,rfl,_,_,rfl,_,_,rfl,_,_,rfl,_,_,rfl,rfl,?_⟩;refine⟨_,rfl,m,g,w',rfl,hm,D.G,D.c6,λll qs H2 hll s2 ell hL=> ?_⟩;refine⟨_,rfl,a,cl,rfl,ha.ext s2.ext,D.ck,λlh H3 hlh s3 elh=> ?_⟩;have eho:((aX (dJ cl)).map λk:Nat=>V.int (k:Int))=(C7 cl).map V.int:=by unfold C7;rw[d7];rfl
  rw[eho]at elh;have s23:=s2.trans s3;have h64:(lB g).length<=64:=jd (dh _ _) (lX D.c6);refine⟨lh,rfl,⟨_,CW.of elh⟩,λZ d hd=> ?_⟩;have hz4:(C7 cl).length<=4:=yM cl;refine eU (K:=K) (a:=lh) (xs:=(C7 cl).map V.int) (λi σ H'=>(∃o,σ=[o,some (.ref p),some (.ref ll)])/\Same H3 H'/\∃ls:List ju,H' d=some (.dK ((((C7 cl).take i).zip ls).map λz=>(kr z.1,V.ref z.2)))/\Paired (λi l=> ∃qs,H' l=some (.lst ((qs:List ju).map V.ref))/\LansAt H' qs (bO g cs cl od i)) ((C7 cl).take i) ls)
   ⟨⟨_,rfl⟩,aK hd,[],aG,.nil⟩ (λi σ H' _ h=>CW.of (h.2.1 _ _ elh)) ?_ ?_
  ·rintro i x σ H' hx ⟨⟨o,rfl⟩,hs,ls,ed,hP⟩;rw[cy]at hx;cases hb:(C7 cl)[i]? with
   |none=>rw[hb]at hx;cases hx
   |some k=>
    rw[hb]at hx;cases hx;have hi:i<(C7 cl).length:=(CL.mp hb).1;have hk:=wZ (fq hb);have hll:ls.length=i:=by
     have:((C7 cl).take i).length=ls.length:=Paired.length hP;rw[du]at this;omega
    refine iZ ?_;refine⟨_,rfl,?_⟩;refine⟨_,rfl,_,rfl,_,rfl,p,g,w',cs,cl,od,k,ll,qs,lB g,rfl,(((D.same s1).same s23).same hs),hk,hs _ _ (s3 _ _ ell),(hL.ext s3.ext).ext hs.ext,h64,λL hL'=>gG (ff.mp hL').1,λl' qs' H4 Ao s4 el' hL'=> ?_⟩;have ed4:=s4 _ _ ed;have hne:bW ((((C7 cl).take i).zip ls).map λz=>((kr z.1:Key),V.ref z.2)) (kr k)=none:=by
     unfold bW;rw[b7.mpr λz hz=> ?_];rfl;obtain⟨y,hy,rfl⟩:=fm.mp hz;have hy1:y.1∈(C7 cl).take i:=(gj hy).1;have hn:y.1≠k:=λe=>by
      rw[e]at hy1;obtain⟨j,hj,ej⟩:=List.mem_take_iff_getElem.mp hy1;have:=(CL.mp hb).2;have hij:j=i:=(List.getElem_inj (rC cl)).mp (ej.trans this.symm);omega
     simp[hn]
    have et:(C7 cl).take (i+1)=(C7 cl).take i++[k]:=by rw[iu,hb];rfl
    have ez:(((C7 cl).take i++[k]).zip (ls++[l'])).map (λz=>((kr z.1:Key),V.ref z.2))=(((C7 cl).take i).zip ls).map (λz=>((kr z.1:Key),V.ref z.2))++[(kr k,.ref l')]:=by
     rw[zip_append (by rw[du,hll];omega),dz];rfl
    refine⟨_,kr k,rfl,ed4,?_,⟨_,rfl⟩,λb u e=> ?_,ls++[l'],?_,?_⟩
    ·rw[di,length_zip,du,ko];omega
    ·rw[aN (bG e hd)];exact s4 _ _ (hs _ _ e)
    ·rw[aG,A6n _ hne,et,ez]
    ·have x4:∀b xs,H4 b=some (.lst xs)->(upd H4 d (.dK (cC ((((C7 cl).take i).zip ls).map λz=>((kr z.1:Key),V.ref z.2)) (kr k) (.ref l')))) b=some (.lst xs):=λb xs e=>by rw[aN (λz=>by rw[z,ed4]at e;cases e)];exact e
     have x5:∀b xs,H4 b=some (.tup xs)->(upd H4 d (.dK (cC ((((C7 cl).take i).zip ls).map λz=>((kr z.1:Key),V.ref z.2)) (kr k) (.ref l')))) b=some (.tup xs):=λb xs e=>by rw[aN (λz=>by rw[z,ed4]at e;cases e)];exact e
     have lx:∀{qs:List ju}{Ls:List (List Pl)},LansAt H4 qs Ls->LansAt (upd H4 d (.dK (cC ((((C7 cl).take i).zip ls).map λz=>((kr z.1:Key),V.ref z.2)) (kr k) (.ref l')))) qs Ls:=λh=>Paired.mapP h λ_ _ ⟨ps,h1,h2⟩=> ⟨ps,x5 _ _ h1,Paired.mapP h2 λ_ _ z=>x5 _ _ z⟩;rw[et];exact Paired.snoc (Paired.mapP hP λ_ _ ⟨qq,h1,h2⟩=> ⟨qq,x4 _ _ (s4 _ _ h1),lx (h2.ext s4.ext)⟩) ⟨qs',x4 _ _ el',lx hL'⟩
  ·rintro σ H' ⟨_,hs,ls,ed,hP⟩;rw[di,iq (CT _)]at ed hP;exact q d H' ((s1.trans s23).free hd) ((s1.trans s23).trans hs) ⟨ls,ed,hP⟩
noncomputable def sP:Sp:=λvs H Q _=> ∃p q c d,vs=[.ref p,.ref q]/\C4 H p c/\C4 H q d/\Q (.bl (dL c d)) H
theorem B22 (F:D1 K mg "_law_next_to" yO ["_law_one","_law_other"])(T2:dZ mg):A1 P w K mg base 1 "_law_next_to" sP:=by
 refine F.k ["_law_one","_law_other"] ?_;ac_nf
 ·obtain⟨p,q,c,d,rfl,hp,hq,k⟩:=h;refine⟨_,aR (aY (eX fN (bC dG (bD pG rfl T2.abs oT (dQ (bC iI (bK cD (pv 0) aU (λ_ _=>rfl)) (bK cD (pv 1) aU (λ_ _=>rfl))) aB)) (bD pG rfl T2.abs oT (dQ (bC iI (bK cD (pv 0) aU (λ_ _=>rfl)) (bK cD (pv 1) aU (λ_ _=>rfl))) aB))) aU (nomark _))),?_⟩;refine⟨_,rfl,p,_,0,_,rfl,rfl,CY.of hp,cK (j:=0) rfl,_,rfl,q,_,0,_,rfl,rfl,CY.of hq,cK (j:=0) rfl,_,_,rfl,rfl,_,rfl,?_⟩;refine⟨_,rfl,p,_,1,_,rfl,rfl,CY.of hp,cK (j:=1) rfl,_,rfl,q,_,1,_,rfl,rfl,CY.of hq,cK (j:=1) rfl,_,_,rfl,rfl,_,rfl,_,_,rfl,rfl,rfl,?_⟩;have e:decide (V.int ((if c.1 - d.1<0 then -(c.1 - d.1)else c.1 - d.1)+(if c.2 - d.2<0 then -(c.2 - d.2)else c.2 - d.2))=V.int 1)=dL c d:=by
   unfold dL;rw[decide_eq_decide];constructor
   ·intro z;have:=V.int.inj z;split at this<;>split at this<;>omega
   ·intro z;congr 1;split<;>split<;>omega
  rw[e];exact k
noncomputable def lhangs (cs:List Pl):Bool:=match cs with| []=>false|c0::tl=>decide ((hit (tl.length+1) ([c0],tl)).2=[])
noncomputable def yV:Sp:=λvs H Q _=> ∃t cs,vs=[.ref t]/\C1 H t cs/\cs.length<=10/\∀H',Same H H'->Q (.bl (lhangs cs)) H'
theorem xN (c0:Pl)(tl:List Pl):∀i,(hit i ([c0],tl)).1.length<=1+tl.length*i/\(hit i ([c0],tl)).2.length<=tl.length
 |0=> ⟨by simp[hit],by simp[hit]⟩
 |i+1=>by
  have ih:=xN c0 tl i;have h1:(eA (hit i ([c0],tl)).1 (hit i ([c0],tl)).2).length<=(hit i ([c0],tl)).2.length:=dh _ _;refine⟨?_,jd (dh _ _) ih.2⟩;show((hit i ([c0],tl)).1++eA (hit i ([c0],tl)).1 (hit i ([c0],tl)).2).length<=_;rw[c8,Nat.mul_succ];omega
noncomputable abbrev nLH:List Str:=["_law_land","_law_met","_law_rest","_law_turn","_law_more"]
theorem A73:(["_law_place","_law_met"]:List Str).Nodup:=by decide +kernel
theorem B0o:(["_law_one","_law_place"]:List Str).Nodup:=by decide +kernel
theorem A83:(["_law_place","_law_more"]:List Str).Nodup:=by decide +kernel
theorem B5k (F:D1 K mg "_law_hangs" pB ["_law_land"])(T3:C5 mg)(a1:A1 P w K mg base 1 "_law_next_to" sP):A1 P w K mg base 2 "_law_hangs" yV:=by
  refine F.k nLH ?_;ac_nf
  · obtain⟨t,cs,rfl,hA,h10,q⟩:=h
    refine⟨_,aT (bV (cB (vZ (dI hr)) (pv 0) (bT aB) (nomark _)) (aR (aY fH)) bU)<|
      aT (cQ (bT (lU (cZ (fE (bK cD (pv 0) aU (λ_ _=>rfl)) aB)) (bM (eP B02 rfl T3.list AX (fE (jY zB (pv 0) (iQ aU) lW) aB)) aB))) (bI rfl (aV (aJ (i:=1) nd rfl (qr rfl)) (aV (CZ 2 nd) bH))))<|
      aT (dF k9 rfl (cW (pv 0)) (CZ 3 nd)
        (aT (bJ (i:=4) nd rfl (qr rfl) (bQ (bB pB).names nLH ["_law_place"] [("_law_met",1)] rfl (cR (pv 2)) rfl rfl rfl (by decide +kernel)
          (λZ=>aJ (i:=0) A73 rfl (qr rfl)) (λZ=>dX (cB (A1b 1 (dI hr)) (bQ [(".0",.local),("_law_place",.cell),("_law_met",.cell)] ["_law_place","_law_met"] ["_law_one"] [("_law_place",0)] rfl (cR (pv 1)) rfl rfl rfl (by decide +kernel)
            (λZ=>CZ 0 B0o) (λZ=>dX (cA (a1.c hr (aD (pv 0) (aD (pv 1) aB))))) (λZ=>pv 0)) (cZ aB) (nomark _))) (λZ=>pv 0)))<|
         aR (cQ (bT (dQ (bC jI (pv 1) (pv 4)) (cY (bQ (bB pB).names nLH ["_law_place"] [("_law_more",4)] rfl (cR (pv 2)) rfl rfl rfl (by decide +kernel)
          (λZ=>CZ 0 A83) (λZ=>dX (cB (nY 1 (dI hr)) (pv 0) (pv 1) rfl)) (λZ=>pv 0)) aB))) (bI rfl (aV (aJ (i:=1) nd rfl (qr rfl)) (aV (CZ 2 nd) bH))))))<|
      aR (aY (eX (zH 1 (dI hr)) (pv 2) (cZ aB) (nomark _))),?_⟩
    refine⟨_,rfl,by show 0<=jv;decide,λt0 ht0=> ?_⟩;have u0:=aK (o:=.tup []) ht0;refine⟨t,t0,cs,[],rfl,rfl,C1.ext hA u0.ext,⟨[],aG,.nil⟩,_,rfl,dY (λz=> ?_) λz=> ?_⟩
    · subst z
      exact q _ u0
    generalize upd H t0 (.tup [])=H1 at u0⊢;obtain⟨c0,tl,rfl⟩:=a9 z;obtain⟨ps,ht,hP⟩:=C1.ext hA u0.ext;obtain⟨p0,pt,rfl,hp0,hpt⟩:∃p0 pt,ps=p0::pt/\C4 H1 p0 c0/\PlAt H1 pt tl:=by
      cases hP with
      |cons r t=>exact⟨_,_,rfl,r,t⟩
    have hptl:pt.length=tl.length:=Paired.length hpt;have htl:tl.length+1<=10:=h10;refine⟨_,rfl,t,_,0,_,rfl,rfl,CY.of ht,cK (j:=0) rfl,by show 1<=jv;decide,λlm hlm=> ?_⟩;have u1:=aK (o:=.lst [.ref p0]) hlm;refine⟨_,rfl,_,rfl,t,_,rfl,u1 _ _ ht,λts H2 s2 ets=> ?_⟩;rw[wK _ (by simp)]at ets;have ets':H2 ts=some (.tup (pt.map V.ref)):=ets;have elm:=s2 _ _ (aG (H:=H1) (a:=lm) (o:=.lst [.ref p0]));have s12:=u1.trans s2;generalize upd H1 lm (.lst [.ref p0])=H1' at*;refine⟨ts,_,rfl,.inr (CY.of ets),λlr hlr=> ?_⟩;have u3:=aK (o:=.lst (List.drop 1 (vd V.ref (p0::pt)))) hlr;have elr:(upd H2 lr (.lst (List.drop 1 (vd V.ref (p0::pt))))) lr=some (.lst (pt.map V.ref)):=by rw[aG];rfl
    generalize upd H2 lr (.lst (List.drop 1 (vd V.ref (p0::pt))))=H3 at u3 elr⊢;refine⟨by show 2<=jv;decide,λtt htt=> ?_⟩;have u4:=aK (o:=.tup [V.ref lm,V.ref lr]) htt;refine⟨tt,_,rfl,CY.of aG,rfl,_,_,rfl,_,_,rfl,rfl,?_⟩;generalize upd H3 tt (.tup [V.ref lm,V.ref lr])=H4 at u4⊢;have s14:=(s12.trans u3).trans u4;have s04:=u0.trans s14;refine⟨_,rfl,t,rfl,⟨_,CY.of (s14 _ _ ht)⟩,?_⟩;refine gC (K:=K) (a:=t) (xs:=(p0::pt).map V.ref) (λi σ H'=>Same H4 H'/\∃lm lr o3 o4 pm pr,σ=[some (.ref t),some (.ref lm),some (.ref lr),o3,o4]/\H' lm=some (.lst ((pm:List ju).map V.ref))/\PlAt H' pm (hit i ([c0],tl)).1/\H' lr=some (.lst ((pr:List ju).map V.ref))/\PlAt H' pr (hit i ([c0],tl)).2)
      ⟨Same.refl _,lm,lr,_,_,[p0],pt,rfl,u4 _ _ (u3 _ _ elm),.cons (s14 _ _ hp0) .nil,u4 _ _ elr,hpt.same s14⟩ (λi σ H' _ h=>CY.of (h.1 _ _ (s14 _ _ ht))) ?_ ?_
    · rintro i x σ H' hx ⟨hs,lm,lr,o3,o4,pm,pr,rfl,elm,hM,elr,hR⟩
      have hi:i<(p0::pt).length:=by
        have:=(CL.mp hx).1;rw[di]at this;exact this
      have hi10:i<10:=by rw[c9]at hi;omega
      have hl:=xN c0 tl i;have hm1:(hit i ([c0],tl)).1.length<=100:=by
        have:tl.length*i<=9*9:=jm (by omega) (by omega);omega
      have hpm:pm.length=_:=Paired.length hM;have hpr:pr.length=_:=Paired.length hR;have e1:hit (i+1) ([c0],tl)=hstep (hit i ([c0],tl)):=rfl;rw[e1];generalize hit i ([c0],tl)=mr at*;obtain⟨met,rst⟩:=mr;show nA _ _ _ [some (.ref t),some (.ref lm),some (.ref lr),some x,o4] H';refine⟨_,rfl,lr,rfl,⟨_,CW.of elr⟩,λZ l Ao=> ?_⟩;refine iB (R:=λH q c=>C4 H q c) (λe h=>e.tup _ _ h) (rest:=[some (.ref lm)]) (λp=>met.any λo=>dL o p) gH (λH' B3=>CW.of (B3 _ _ elr)) hR Ao (by omega) (λb c H5 Q' hc hbc hs5 k=> ?_) λσ H5 qm hs5 el5 hP5=> ?_
      · refine⟨_,rfl,lm,rfl,⟨_,CW.of (hs5 _ _ elm)⟩,λZ3 l3 hl3=> ?_⟩
        refine iB (R:=λH q c=>C4 H q c) (λe h=>e.tup _ _ h) (rest:=[some (.ref b)]) (λo=>dL o c) gH (λH' B3=>CW.of (B3 _ _ (hs5 _ _ elm))) (hM.same hs5) hl3 (by omega) (λb2 c2 H6 Q2 hc2 hb2 hs6 k2=> ?_) λσ H6 q6 hs6 el6 hP6=> ?_
        · exact⟨_,rfl,_,rfl,b2,b,c2,c,rfl,hb2,hs6.ext.tup _ _ hbc,_,rfl,k2 _ (Same.refl _)⟩
        · refine⟨by show 0<=jv;decide,λl0 hl0=> ?_⟩
          have u6:=aK (o:=.lst []) hl0;have hq6:q6.length=_:=Paired.length hP6;refine⟨l3,l0,_,[],rfl,rfl,u6 _ _ el6,aG,?_⟩;have kk:=k _ (hs6.trans u6);by_cases ze:met.filter (λo=>dL o c)=[]
          · right
            rw[ze]at hq6;have:q6=[]:=ay hq6;subst this;have ea:(met.any λo=>dL o c)=false:=by
              rw[ag];intro o ho z;have:o∈met.filter (λo=>dL o c):=ff.mpr ⟨ho,z⟩;rw[ze]at this;cases this
            rw[ea]at kk;exact⟨[],trivial,_,rfl,kk⟩
          · left
            have ea:(met.any λo=>dL o c)=true:=by
              obtain⟨o,os,eo⟩:=a9 ze;have:o∈met.filter (λo=>dL o c):=by rw[eo];exact CQ
              exact ah.mpr ⟨o,(ff.mp this).1,(ff.mp this).2⟩
            rw[ea]at kk;refine⟨?_,_,rfl,kk⟩;rw[di,hq6];intro z0;exact ze (ay z0)
      · have hq5:qm.length<=rst.length:=by have:qm.length=_:=Paired.length hP5;rw[this];exact dh _ _
        have hP5':PlAt H5 qm (eA met rst):=hP5;dsimp only at hl hm1 hpm hpr;refine⟨_,rfl,_,rfl,lm,l,_,_,rfl,rfl,hs5 _ _ elm,el5,?_,λla hla=> ?_⟩
        · rw[di,di,ko];omega
        have u7:=aK (o:=.lst (pm.map V.ref++qm.map V.ref)) hla;have ela:(upd H5 la (.lst (pm.map V.ref++qm.map V.ref))) la=some (.lst ((pm++qm).map V.ref)):=by rw[aG,dz]
        generalize upd H5 la (.lst (pm.map V.ref++qm.map V.ref))=H7 at u7 ela⊢;have s57:=hs5.trans u7;refine⟨_,rfl,lr,rfl,⟨_,CW.of (s57 _ _ elr)⟩,λZ2 l2 Cz=> ?_⟩;refine iB (R:=λH q c=>C4 H q c) (λe h=>e.tup _ _ h) (rest:=[some (.ref l)]) (λp=> !decide (p∈eA met rst)) gH (λH' B3=>CW.of (B3 _ _ (s57 _ _ elr))) (hR.same s57) Cz (by omega) (λb2 c2 H8 Q2 hc2 hb2 hs8 k2=> ?_) λσ H8 q8 hs8 el8 hP8=> ?_
        · refine⟨_,rfl,_,rfl,l,_,_,rfl,.inr (hs8 _ _ (u7 _ _ el5)),iM hb2 ((hP5'.same u7).same hs8),_,rfl,?_⟩
          rw[kM];exact k2 _ (Same.refl _)
        · refine⟨by show 2<=jv;decide,λtt htt=> ?_⟩
          have u9:=aK (o:=.tup [V.ref la,V.ref l2]) htt;refine⟨tt,_,rfl,CY.of aG,rfl,_,_,rfl,_,_,rfl,rfl,?_⟩;generalize upd H8 tt (.tup [V.ref la,V.ref l2])=H9 at u9⊢;have s79:=hs8.trans u9;refine⟨((hs.trans s57).trans s79),la,l2,_,_,pm++qm,q8,rfl,s79 _ _ ela,?_,u9 _ _ el8,?_⟩
          · exact jF ((hM.same s57).same s79) ((hP5'.same u7).same s79)
          · exact PlAt.same hP8 u9
    · rintro σ H' ⟨hs,lm,lr,o3,o4,pm,pr,rfl,elm,hM,elr,hR⟩
      rw[di,c9,hptl]at hR hM;have hpr:pr.length=_:=Paired.length hR;refine⟨_,rfl,by show 0<=jv;decide,λl0 hl0=> ?_⟩;have u6:=aK (o:=.lst []) hl0;have qq:=q _ ((s04.trans hs).trans u6);refine⟨lr,l0,_,[],rfl,rfl,u6 _ _ elr,aG,?_⟩;have el:lhangs (c0::tl)=decide ((hit (tl.length+1) ([c0],tl)).2=[]):=rfl;by_cases ze:(hit (tl.length+1) ([c0],tl)).2=[]
      · right
        rw[el,CM ze]at qq;rw[ze]at hpr;have:pr=[]:=ay hpr;subst this;exact⟨[],trivial,qq⟩
      · left
        rw[el,CN ze]at qq;refine⟨?_,qq⟩;rw[di,hpr];intro z0;exact ze (ay z0)
noncomputable def xZ:Sp:=λvs H Q _=> ∃a t g ps cs,vs=[.ref a,.ref t]/\GridAt H a g/\(H t=some (.tup ((ps:List ju).map V.ref))\/H t=some (.lst (ps.map V.ref)))/\PlAt H ps cs/\(∀c∈cs,c∈aQ pos g)/\Q (.int (cM g cs)) H
noncomputable abbrev nLW:List Str:=["_law_mead_here","_law_land","_law_total_here","_law_place"]
theorem A8e (F:D1 K mg "_law_worth" A3a ["_law_mead_here","_law_land"]):A1 P w K mg base 1 "_law_worth" xZ:=by
 refine F.k nLW ?_;ac_nf
 ·obtain⟨a,t,g,ps,cs,rfl,hA,ht,hP,hin,q⟩:=h;refine⟨_,aT (bJ (i:=2) nd rfl (ng rfl) aU)<|
   aT (dF k9 rfl (PI.or (cW (pv 1)) (cR (pv 1))) (CZ 3 nd)
    (aR (bJ (i:=2) nd rfl (ng rfl) (bC dG (pv 2) (bK cD (bK cD (pv 0) (bK cD (pv 3) aU (λ_ _=>rfl)) (λ_ _=>rfl)) (bK cD (pv 3) aU (λ_ _=>rfl)) (λ_ _=>rfl))))))<|
   aR (aY (pv 2)),?_⟩
  have hpl:ps.length=cs.length:=Paired.length hP;have W:∀{J:It}{S:Hp->Prop}(_:Wk J (ps.map V.ref) S)(_:S H),cP J (cN 3) (gY (tOp (rI0 λi j=>V.int (i+j)) (dE 2) (tOp (iP K) (tOp (iP K) (dE 0) (tOp (iP K) (dE 3) (tC (.int 0)))) (tOp (iP K) (dE 3) (tC (.int 1))))) (cN 2)) {nx:=nU (dE 2) {nx:=λ_ H'=>Q .non H',rt:=Q},rt:=Q} [some (.ref a),some (.ref t),some (.int 0),none] H:=by
   intro J S Wk0 hS;refine Wk0 (λi σ H'=>H'=H/\∃o,σ=[some (.ref a),some (.ref t),some (.int (cM g (cs.take i))),o]) ⟨rfl,_,rfl⟩ (λi σ H' _ h=>by rw[h.1];exact hS) ?_ ?_
   ·rintro i x σ H' hx ⟨rfl,o,rfl⟩;obtain⟨p,hpi,rfl⟩:=eY hx;obtain⟨cc,hci,hpc⟩:=hP.at hpi;obtain⟨i',j',xs,n,rfl,hg,hxx,hf⟩:=mem_gridF.mp (hin _ (fq hci));obtain⟨bs,b,h1,h2,h3,h4⟩:=hA.ix hg hxx;show gY _ _ _ [some (.ref a),some (.ref t),some (.int (cM g (cs.take i))),some (.ref p)] H';refine⟨_,rfl,_,rfl,_,rfl,p,_,0,_,rfl,rfl,CY.of hpc,cK (j:=0) rfl,a,_,_,_,rfl,rfl,CY.of h1,h2,_,rfl,p,_,1,_,rfl,rfl,CY.of hpc,cK (j:=1) rfl,b,_,_,_,rfl,rfl,CY.of h3,h4,_,_,rfl,rfl,rfl,some (.ref p),?_⟩;have e:cM g (cs.take (i+1))=cM g (cs.take i)+n:=by
     unfold cM;rw[iu,hci,dz,ig];show _+([atG g ((i':Int),(j':Int))]).sum=_;rw[jN hg hxx];simp
    rw[e];rfl
   ·rintro σ H' ⟨rfl,o,rfl⟩;rw[di,hpl,iq (CT _)];exact⟨_,rfl,q⟩
  rcases ht with ht|ht
  ·exact .inl ⟨_,rfl,t,rfl,⟨_,CY.of ht⟩,W gM (CY.of ht)⟩
  ·exact .inr ⟨_,rfl,t,rfl,⟨_,CW.of ht⟩,W gH (CW.of ht)⟩
noncomputable abbrev nLC:List Str:=["_law_mead_here","_law_places","_law_row"]
theorem B39:(["_law_column","_law_mead_here","_law_row"]:List Str).Nodup:=by decide +kernel
theorem A4m (F:D1 K mg "_law_cells" rD ["_law_mead_here"])(T:Txt mg)(T2:dZ mg):A1 P w K mg base 1 "_law_cells" (eT pos):=by
 refine F.k nLC ?_;ac_nf
 ·obtain⟨a,g,w',rfl,hA,G,q⟩:=h;refine⟨_,aT (bJ (i:=1) nd rfl (ng rfl) (cZ aB))<|
   aT (dF k9 rfl (jK rfl T2.range (bM (bD eJ rfl T.len m9 (aD (pv 0) aB)) aB)) (aJ (i:=2) nd rfl (qr rfl))
    (aR (dP (iV ow Ay Az A14 (pv 1) (cY (bQ (bB rD).names nLC ["_law_column"] [("_law_mead_here",0),("_law_row",2)] rfl (jK rfl T2.range (bM (bD eJ rfl T.len m9 (fE (bK cD (pv 0) aU (λ_ _=>rfl)) aB)) aB)) rfl rfl rfl (by decide +kernel)
      (λZ=>CZ 0 B39) (λZ=>dX (cB mP (bK cD (bK cD (pv 1) (pv 2) (λ_ _=>rfl)) (pv 0) (λ_ _=>rfl)) aU (nomark _))) (λZ=>bT (aD (pv 2) (aD (pv 0) aB)))) aB)))))<|
   aR (aY (pv 1)),?_⟩
  obtain⟨bs,ha,hB⟩:=hA;have hbl:bs.length=g.length:=Paired.length hB;refine⟨by show 0<=jv;decide,λl hl=> ?_⟩;have u0:=aK (o:=.lst []) hl;refine⟨_,rfl,a,_,rfl,.inr (CY.of (u0 _ _ ha)),?_⟩;have hA0:GridAt H a g:=⟨bs,ha,hB⟩;have h14:g.length<=4:=G.h4;have h11:1<=g.length:=G.h1;obtain⟨xs0,hx0⟩:∃xs0,g[0]?=some xs0:=⟨g[0],cx (by omega)⟩;have hxl0:xs0.length=w':=G.len xs0 (fq hx0);have hw5:=G.w5;have hw1:=G.w1;obtain⟨b0,hb0,eb0⟩:=hB.get hx0;refine⟨((bs.map V.ref).length:Int),rfl,by omega,by rw[di];omega,?_⟩;refine jE (lo:=0) (n:=((bs.map V.ref).length:Int).toNat) (λi σ H'=>(∃o,σ=[some (.ref a),some (.ref l),o])/\Same H H'/\∃ps:List ju,H' l=some (.lst (ps.map V.ref))/\PlAt H' ps (aQ pos (g.take i))/\ps.length<=6*i) ⟨⟨_,rfl⟩,u0,[],by rw[aG];rfl,.nil,CT _⟩ ?_ ?_
  ·rintro i σ H' hi ⟨⟨o,rfl⟩,hs,ps,el,hP,hpi⟩;rw[lq,di,hbl]at hi;rw[Int.zero_add];obtain⟨xs,hx⟩:∃xs,g[i]?=some xs:=⟨g[i],cx hi⟩;have hxl:xs.length=w':=G.len xs (fq hx);show yR _ _ [some (.ref a),some (.ref l),some (.int i)] H';refine⟨_,rfl,.inl ⟨rfl,_,CW.of el⟩,?_⟩;refine⟨_,rfl,a,_,0,.ref b0,rfl,rfl,CY.of (hs _ _ ha),cK (j:=0) (by rw[cy,hb0];rfl),b0,_,rfl,.inr (CY.of (hs _ _ eb0)),((xs0.map V.int).length:Int),rfl,by omega,by rw[di];omega,λZ l2 Cz=> ?_⟩;refine jE (lo:=0) (n:=((xs0.map V.int).length:Int).toNat) (λj σ H5=>(∃o,σ=[o,some (.ref a),some (.int i)])/\Same H' H5/\∃ns:List ju,H5 l2=some (.lst (ns.map V.ref))/\PlAt H5 ns (dO pos i (xs.take j))) ⟨⟨_,rfl⟩,aK Cz,[],by rw[aG];rfl,.nil⟩ ?_ ?_
   ·rintro j σ H5 hj ⟨⟨o',rfl⟩,hs5,ns,el2,hN⟩;rw[lq,di,hxl0]at hj;rw[Int.zero_add];obtain⟨n,hn⟩:∃n,xs[j]?=some n:=⟨xs[j],cx (by omega)⟩;obtain⟨Cw,b,h1,h2,h3,h4⟩:=((hA0.same hs).same hs5).ix hx hn;have et:=rowF_succ pos (i:Int) xs j n hn;have hnl:ns.length<=6:=by
     have e1:ns.length=_:=Paired.length hN;have e2:(dO pos (i:Int) (xs.take j)).length<=(xs.take j).zipIdx.length:=xc _ _;rw[List.length_zipIdx,du]at e2;omega
    show cL _ _ _ [some (.int j),some (.ref a),some (.int i)] H5;refine⟨_,rfl,_,rfl,a,_,_,_,rfl,rfl,CY.of h1,h2,_,rfl,b,_,_,_,rfl,rfl,CY.of h3,h4,_,_,rfl,rfl,_,rfl,?_⟩;have ep:decide ((0:Int)<=n)=pos n:=rfl;refine fB (λz=> ?_) λz=> ?_
    ·refine⟨_,rfl,_,rfl,by show 2<=jv;decide,λt ht=> ?_⟩;have u5:=aK (o:=.tup [.int (i:Int),.int (j:Int)]) ht;refine⟨_,u5 _ _ el2,cO (by rw[di];omega),⟨_,rfl⟩,λb' u e'=> ?_,ns++[t],?_,?_⟩
     ·rw[aN (bG e' Cz)];exact u5 _ _ (hs5 _ _ e')
     ·rw[aG,dz];rfl
     ·rw[et,if_pos (by rw[←ep];exact z)];exact PlAt.snoc (Paired.mapP (hN.same u5) λ_ _ z=>C4.put (u5 _ _ el2) z) (C4.put (u5 _ _ el2) aG)
    ·rw[et,if_neg (by rw[←ep,z];decide),ak];exact⟨⟨_,rfl⟩,hs5,ns,el2,hN⟩
   ·rintro σ H5 ⟨_,hs5,ns,el2,hN⟩;rw[lq,di,hxl0,iq (by omega)]at hN;have hnl:ns.length<=6:=by
     have e1:ns.length=_:=Paired.length hN;have e2:(dO pos (i:Int) xs).length<=xs.zipIdx.length:=xc _ _;rw[List.length_zipIdx]at e2;omega
    have el5:=hs5 _ _ el;refine⟨l,l2,_,_,rfl,rfl,el5,el2,by rw[di,di,ko];omega,⟨_,rfl⟩,λb u e=> ?_,ps++ns,?_,?_,by rw[c8];omega⟩
    ·rw[aN (bG e hl)];exact hs5 _ _ (hs _ _ e)
    ·rw[aG,dz]
    ·rw[gridF_succ pos g i xs hx];exact jF (Paired.mapP (hP.same hs5) λ_ _ z=>C4.put el5 z) (Paired.mapP hN λ_ _ z=>C4.put el5 z)
  ·rintro σ H' ⟨⟨o,rfl⟩,hs,ps,el,hP,hpi⟩;rw[lq,di,hbl,iq (CT _)]at hP;exact⟨_,rfl,q H' l ps hl hs el hP⟩
noncomputable def llS {α:Type}(acc:List (List α))(x:α):List (List α):=acc++acc.map (· ++[x])
noncomputable def C8 {α:Type}(xs:List α):List (List α):=xs.foldl llS [[]]
theorem tI (xs:List α)(x:α):C8 (xs++[x])=C8 xs++(C8 xs).map (· ++[x]):=by unfold C8;rw[cj];rfl
theorem uI (xs:List α):(C8 xs).length=2^xs.length:=by
 have:∀(xs:List α)(acc:List (List α)),(xs.foldl llS acc).length=acc.length*2^xs.length:=by
  intro xs
  induction xs with
  |nil=>intro acc;simp
  |cons x xs ih=>
   intro acc;rw[foldl_cons,ih,llS,c8,di,c9,pow_succ,mul_comm (2^xs.length) 2,←Nat.mul_assoc]
   congr 1
   omega
 have h:=this xs [[]];rw[dq,Nat.one_mul]at h;exact h
theorem vL:∀{ys:List α},ys∈C8 xs->ys.length<=xs.length:=by
 have:∀(xs:List α)(acc:List (List α))(n:Nat),(∀ys∈acc,ys.length<=n)->∀ys∈xs.foldl llS acc,ys.length<=n+xs.length:=by
  intro xs
  induction xs with
  |nil=>intro acc n h ys hy;exact h ys hy
  |cons x xs ih=>
   intro acc n h ys hy;have:=ih (llS acc x) (n+1) (λzs hz=>by
    rcases d8.mp hz with z|z
    ·have:=h zs z;omega
    ·obtain⟨y,hy',rfl⟩:=fm.mp z;have:=h y hy';rw[c8,dq];omega) ys hy
   rw[c9];omega
 intro ys hy;have:=this xs [[]] 0 (λys h=>by rw[fy.mp h];exact CT _) ys hy;omega
theorem B4s (h:TusAt H qs (C8 (ps.map V.ref)))(hP:PlAt H ps A):LansAt H qs (C8 A):=by
 have em:∀(ps:List ju)(acc:List (List ju)),(ps.map V.ref).foldl llS (acc.map (vd V.ref))=(ps.foldl llS acc).map (vd V.ref):=by
  intro ps
  induction ps with
  |nil=>intro acc;rfl
  |cons p ps ih=>
   intro acc;rw[d6,foldl_cons,foldl_cons,←ih]
   congr 1
   unfold llS;rw[dz,d7,d7]
   congr 1
   refine d5 λa _=> ?_;show _=vd V.ref (a++[p]);rw[dz];rfl
 have ep:∀{ps:List ju}{A:List Pl},PlAt H ps A->∀{l:List (List ju)}{m:List (List Pl)},Paired (λp c=>PlAt H p c) l m->Paired (λp c=>PlAt H p c) (ps.foldl llS l) (A.foldl llS m):=by
  intro ps A hP
  induction hP with
  |nil=>intro l m h;exact h
  |cons r t ih=>
   intro l m h;refine ih (jF h ?_);clear ih
   induction h with
   |nil=>exact .nil
   |cons r2 t2 ih2=>exact .cons (jF r2 (.cons r .nil)) ih2
 have e0:C8 (ps.map V.ref)=(C8 ps).map (vd V.ref):=em ps [[]];rw[e0]at h;have key:∀{qs:List ju}{l:List (List ju)}{m:List (List Pl)},TusAt H qs (l.map (vd V.ref))->Paired (λp c=>PlAt H p c) l m->LansAt H qs m:=by
  intro qs l m h1 h2
  induction h2 generalizing qs with
  |nil=>cases h1;exact .nil
  |cons r t ih=>
   cases h1 with
   |cons r1 t1=>exact .cons ⟨_,r1,r⟩ (ih t1)
 exact key h (ep hP (.cons .nil .nil))
noncomputable def A26:Sp:=λvs H Q _=> ∃a g w,vs=[.ref a]/\GridAt H a g/\dM g w/\cS g<=6/\∀l qs H',H l=none->Same H H'->H' l=some (.lst ((qs:List ju).map V.ref))->LansAt H' qs (C8 (aQ pos g))->Q (.ref l) H'
noncomputable abbrev nLL:List Str:=["_law_mead_here","_law_every","_law_cell_here"]
theorem B0t:(["_law_land","_law_cell_here"]:List Str).Nodup:=by decide +kernel
theorem B2q (F:D1 K mg "_law_lands" tF ["_law_mead_here"])(a1:A1 P w K mg base 1 "_law_cells" (eT pos)):A1 P w K mg base 2 "_law_lands" A26:=by
 refine F.k nLL ?_;ac_nf
 ·obtain⟨a,g,w',rfl,hA,G,c6,q⟩:=h;refine⟨_,aT (bJ (i:=1) nd rfl (ng rfl) (cZ (gI (bT aB) aB)))<|
   aT (dF k9 rfl (cR (a1.c hr (aD (pv 0) aB))) (aJ (i:=2) nd rfl (qr rfl))
    (aR (bJ (i:=1) nd rfl (ng rfl) (bC jI (pv 1) (bQ (bB tF).names nLL ["_law_land"] [("_law_cell_here",2)] rfl (cR (pv 1)) rfl rfl rfl (by decide +kernel)
     (λZ=>CZ 0 B0t) (λZ=>cF) (λZ=>bC nL (pv 0) (bT (aD (pv 1) aB))))))))<|
   aR (aY (pv 1)),?_⟩
  refine⟨by show 0<=jv;decide,λt0 ht0=> ⟨by show 1<=jv;decide,λl0 hl0=> ?_⟩⟩;have s0:=aK (o:=.tup []) ht0;have s1:=aK (o:=.lst [.ref t0]) hl0;have s01:=s0.trans s1;have el0:(upd (upd H t0 (.tup [])) l0 (.lst [.ref t0])) l0=some (.lst [.ref t0]):=aG;have et0:(upd (upd H t0 (.tup [])) l0 (.lst [.ref t0])) t0=some (.tup []):=s1 _ _ aG;have n0:H l0=none:=s0.free hl0;generalize upd (upd H t0 (.tup [])) l0 (.lst [.ref t0])=H1 at s01 el0 et0⊢;refine⟨_,rfl,a,g,w',rfl,hA.same s01,G,λH2 lc pc hlc s2 elc hP=> ?_⟩;have hpl:pc.length=(aQ pos g).length:=Paired.length hP;have h6:pc.length<=6:=by rw[hpl,eD];exact c6
  refine⟨lc,rfl,⟨_,CW.of elc⟩,?_⟩;refine eU (K:=K) (a:=lc) (xs:=pc.map V.ref) (λi σ H'=>Same H2 H'/\∃lt qs o,σ=[some (.ref a),some (.ref lt),o]/\H lt=none/\H' lt=some (.lst ((qs:List ju).map V.ref))/\TusAt H' qs (C8 ((pc.map V.ref).take i)))
   ⟨Same.refl _,l0,[t0],_,rfl,n0,s2 _ _ el0,.cons (s2 _ _ et0) .nil⟩ (λi σ H' _ h=>CW.of (h.1 _ _ elc)) ?_ ?_
  ·rintro i x σ H' hx ⟨hs,lt,qs,o,rfl,nlt,CC,hT⟩;have hi:i<pc.length:=by
    have:=(CL.mp hx).1;rw[di]at this;exact this
   have et:(pc.map V.ref).take (i+1)=(pc.map V.ref).take i++[x]:=by rw[iu,hx];rfl
   have hql:qs.length=_:=Paired.length hT;have hq64:qs.length<=64:=by
    rw[hql,uI,du,di];exact jd (jq (by decide) (show min i pc.length<=6 by omega)) (by decide)
   rw[et,tI];show gY _ _ _ [some (.ref a),some (.ref lt),some x] H';refine⟨_,rfl,_,rfl,lt,rfl,⟨_,CW.of CC⟩,λZ l hl=> ?_⟩;refine A0l (rest:=[some x]) (λys=>ys++[x]) gH (λH3 s3=>CW.of (s3 _ _ CC)) hT hl (by omega) (λqq ys H3 Q' hy hq s3 k=> ?_) λσ3 H3 qs' s3 hc3 hT3=> ?_
   ·refine⟨_,rfl,_,rfl,by show 1<=jv;decide,λtx htx=> ?_⟩;have v1:=aK (o:=.tup [x]) htx;refine⟨qq,tx,_,_,rfl,rfl,v1 _ _ hq,aG,?_,λc H5 s5 e5=>k c H5 (v1.trans s5) e5⟩;have:=vL hy;rw[du,di]at this;rw[ko];show _+1<=_;omega
   ·have hq3:qs'.length=_:=Paired.length hT3;rw[di]at hq3;refine⟨lt,l,_,_,rfl,rfl,s3 _ _ CC,hc3,?_,λla hla=> ?_⟩
    ·rw[di,di,ko];omega
    have v1:=aK (o:=.lst (qs.map V.ref++qs'.map V.ref)) hla;refine⟨(hs.trans s3).trans v1,la,qs++qs',_,rfl,?_,?_,?_⟩
    ·exact((s01.trans s2).trans (hs.trans s3)).free hla
    ·rw[aG,dz]
    ·exact jF ((hT.same s3).same v1) (hT3.same v1)
  ·rintro σ H' ⟨hs,lt,qs,o,rfl,nlt,CC,hT⟩;rw[iq (CT _)]at hT;exact⟨_,rfl,q lt qs H' nlt ((s01.trans s2).trans hs) CC (B4s hT (hP.same hs))⟩
noncomputable def iW (cs:List Pl)(d:Pl):Bool:=cs.any λc=>dL c d
noncomputable def iC (g:bE)(cs:List Pl):Bool:=(aQ road g).any (iW cs)
noncomputable def A2c:Sp:=λvs H Q _=> ∃a t g w cs,vs=[.ref a,.ref t]/\GridAt H a g/\dM g w/\C1 H t cs/\cs.length<=10/\∀H',Same H H'->Q (.bl (iC g cs)) H'
noncomputable abbrev nBR:List Str:=["_law_mead_here","_law_land","_law_row","_law_numbers","_law_column","_law_number","_law_near"]
theorem B37:(["_law_one","_law_column","_law_row"]:List Str).Nodup:=by decide +kernel
theorem B07 (F:D1 K mg "_law_by_road" tY ["_law_mead_here","_law_land"])(T:Txt mg)(a1:A1 P w K mg base 1 "_law_next_to" sP):A1 P w K mg base 2 "_law_by_road" A2c:=by
  refine F.k nBR ?_;ac_nf
  · obtain⟨a,t,g,w',cs,rfl,⟨bs,ha,hB⟩,G,⟨ps,ht,hP⟩,h10,q⟩:=h
    refine⟨_,aT (dF k9 rfl (kP rfl rfl T.enumerate (aD (pv 0) aB)) (bI rfl (aV (aJ (i:=2) nd rfl (qr rfl)) (aV (CZ 3 nd) bH)))
        (aR (dF k9 rfl (kP rfl rfl T.enumerate (aD (pv 3) aB)) (bI rfl (aV (aJ (i:=4) nd rfl (qr rfl)) (aV (CZ 5 nd) bH)))
          (aT (A7b (i:=6) (bB tY).names nBR ["_law_one"] [("_law_column",4),("_law_row",2)] rfl nd rfl rfl (cW (pv 1)) rfl rfl rfl (by decide +kernel)
            (λZ=>CZ 0 B37) (λZ=>dX (cA (a1.c hr (aD (pv 0) (gI (bT (aD (pv 2) (aD (pv 1) aB))) aB))))) (λZ=>pv 0))<|
           aR (bV (PW.pt (pT (cB fN (pv 5) (gN iA aU) (nomark _)) (uT (cB (A1b 1 (dI hr)) (pv 6) (cZ aB) (nomark _))))) (aR (aY fH)) bU)))))<|
      aR (aY fH),?_⟩
    have hbl:bs.length=g.length:=Paired.length hB;have hpl:ps.length=cs.length:=Paired.length hP;refine⟨_,rfl,a,_,rfl,CY.of ha,?_⟩;refine oG (S:=λH xs=>CY K H a xs) (xs:=bs.map V.ref) (λi σ H'=>Same H H'/\(∃o2 o3 o4 o5 o6,σ=[some (.ref a),some (.ref t),o2,o3,o4,o5,o6])/\(aQ road (g.take i)).any (iW cs)=false)
      ⟨Same.refl _,⟨_,_,_,_,_,rfl⟩,rfl⟩ (λi σ H' _ h=>CY.of (h.1 _ _ ha)) ?_ ?_
    · rintro i x p σ H' hx ⟨hs,⟨o2,o3,o4,o5,o6,rfl⟩,hno⟩ hp
      obtain⟨b,hbi,rfl⟩:=eY hx;have hi:i<g.length:=by rw[←hbl];exact(CL.mp hbi).1
      obtain⟨xs,hxs⟩:∃xs,g[i]?=some xs:=⟨g[i],cx hi⟩;obtain⟨b',hb',eb⟩:=hB.get hxs;rw[hbi]at hb';cases hb';have u1:=aK (o:=.tup [.int (i:Int),.ref b]) hp;refine⟨p,_,rfl,CY.of aG,rfl,_,_,rfl,_,_,rfl,rfl,?_⟩;generalize upd H' p (.tup [.int (i:Int),.ref b])=H1 at u1⊢;have s1:=hs.trans u1;refine⟨_,rfl,b,_,rfl,CY.of (s1 _ _ eb),?_⟩;refine oG (S:=λH xs=>CY K H b xs) (xs:=xs.map V.int) (λj σ H2=>Same H1 H2/\(∃o4 o5 o6,σ=[some (.ref a),some (.ref t),some (.int (i:Int)),some (.ref b),o4,o5,o6])/\(dO road i (xs.take j)).any (iW cs)=false)
        ⟨Same.refl _,⟨_,_,_,rfl⟩,rfl⟩ (λj σ H2 _ h=>CY.of (h.1 _ _ (s1 _ _ eb))) ?_ ?_
      · rintro j y p2 σ H2 hy ⟨hs2,⟨o4,o5,o6,rfl⟩,hno2⟩ hp2
        rw[cy]at hy;cases hn:xs[j]? with
        |none=>rw[hn]at hy;cases hy
        |some n=>
          rw[hn]at hy;cases hy;have u2:=aK (o:=.tup [.int (j:Int),.int n]) hp2;refine⟨p2,_,rfl,CY.of aG,rfl,_,_,rfl,_,_,rfl,rfl,?_⟩;generalize upd H2 p2 (.tup [.int (j:Int),.int n])=H3 at u2⊢;have s3:=(s1.trans hs2).trans u2;refine⟨_,rfl,t,rfl,⟨_,CY.of (s3 _ _ ht)⟩,λZ l hl=> ?_⟩;refine iB (R:=λH q c=>C4 H q c) (λe h=>e.tup _ _ h) (rest:=[some (.int (j:Int)),some (.int (i:Int))]) (λc=>dL c ((i:Int),(j:Int))) gM (λH' B3=>CY.of (B3 _ _ (s3 _ _ ht))) (hP.same s3) hl (by omega) (λb2 c2 H4 Q2 hc2 hb2 hs4 k2=> ?_) λσ H4 q4 hs4 el4 hP4=> ?_
          · refine⟨_,rfl,_,rfl,_,rfl,by show 2<=jv;decide,λtp htp=> ?_⟩
            have u4:=aK (o:=.tup [.int (i:Int),.int (j:Int)]) htp;exact⟨b2,tp,c2,((i:Int),(j:Int)),rfl,u4 _ _ hb2,aG,_,rfl,k2 _ u4⟩
          · have et:=rowF_succ road (i:Int) xs j n hn
            have hq4:q4.length=_:=Paired.length hP4;have s4:=hs2.trans (u2.trans hs4);have ed:decide (V.int n=V.int (-1))=road n:=decide_eq_decide.mpr ⟨λz=>V.int.inj z,λz=>by rw[z]⟩;refine⟨_,rfl,1,rfl,rfl,_,rfl,?_⟩;rw[ed];refine fB (λz=> ?_) λz=> ?_
            · rw[if_pos z]at et
              refine⟨_,rfl,by show 0<=jv;decide,λl0 hl0=> ?_⟩;have u6:=aK (o:=.lst []) hl0;refine⟨l,l0,_,[],rfl,rfl,u6 _ _ el4,aG,?_⟩;by_cases ze:cs.filter (λc=>dL c ((i:Int),(j:Int)))=[]
              · right
                rw[ze]at hq4;have:q4=[]:=ay hq4;subst this;have ea:iW cs ((i:Int),(j:Int))=false:=by
                  unfold iW;rw[ag];intro o ho z;have:o∈cs.filter (λc=>dL c ((i:Int),(j:Int))):=ff.mpr ⟨ho,z⟩;rw[ze]at this;cases this
                refine⟨[],trivial,_,rfl,bY ⟨s4.trans u6,⟨_,_,_,rfl⟩,?_⟩⟩;rw[et,List.any_append,hno2,af,ea];rfl
              · left
                have ea:iW cs ((i:Int),(j:Int))=true:=by
                  obtain⟨o,os,eo⟩:=a9 ze;have:o∈cs.filter (λc=>dL c ((i:Int),(j:Int))):=by rw[eo];exact CQ
                  exact ah.mpr ⟨o,(ff.mp this).1,(ff.mp this).2⟩
                refine⟨?_,_,rfl,fY ?_⟩
                · rw[di,hq4]
                  intro z0;exact ze (ay z0)
                · have hby:iC g cs=true:=by
                    unfold iC;refine ah.mpr ⟨((i:Int),(j:Int)),mem_gridF.mpr ⟨i,j,xs,n,rfl,hxs,hn,z⟩,ea⟩
                  have:=q _ (((s1.trans s4)).trans u6);rw[hby]at this;exact this
            · rw[if_neg (by rw[z];decide),ak]at et
              exact⟨s4,⟨_,_,_,rfl⟩,by rw[et];exact hno2⟩
      · rintro σ H2 ⟨hs2,⟨o4,o5,o6,rfl⟩,hno2⟩
        rw[di,iq (CT _)]at hno2;refine⟨s1.trans hs2,⟨_,_,_,_,_,rfl⟩,?_⟩;rw[gridF_succ road g i xs hxs,List.any_append,hno,hno2];rfl
    · rintro σ H' ⟨hs,_,hno⟩
      rw[di,hbl,iq (CT _)]at hno;have:=q H' hs;unfold iC at this;rw[hno]at this;exact this
noncomputable def lfit (g:bE)(cs:List Int)(cl:List C3)(od i:Int)(L:List Pl):Bool:=!decide (od*bF cs cl<ab (cM g L*bF cs cl - cM g (aQ pos g)*bN cs cl i))&&(lhangs L&&iC g L)
noncomputable def oZ:Sp:=λvs H Q _=> ∃p t g w cs cl od i L,vs=[.ref p,.int i,.ref t]/\PleA H p g w cs cl od/\C1 H t L/\(∀c∈L,c∈aQ pos g)/\L.length<=10/\∀H',Same H H'->Q (.bl (lfit g cs cl od i L)) H'
noncomputable abbrev nFi:List Str:=["_law_plea_here","_law_holder","_law_land","_law_mead_here","_law_custom_here","_law_claims_here","_law_odd","_law_total_here","_law_due"]
theorem B2z (F:D1 K mg "_law_fits" zW ["_law_plea_here","_law_holder","_law_land"])(T2:dZ mg)(a1:A1 P w K mg base 1 "_law_total" A0b)(a2:A1 P w K mg base 1 "_law_worth" xZ)(a3:A1 P w K mg base 1 "_law_cells" (eT pos))(a4:A1 P w K mg base 1 "_law_count" A2i)(a5:A1 P w K mg base 2 "_law_hangs" yV)(a6:A1 P w K mg base 2 "_law_by_road" A2c):A1 P w K mg base 3 "_law_fits" oZ:=by
 refine F.k nFi ?_;ac_nf
 ·obtain⟨p,t,g,w',cs,cl,od,i,L,rfl,D,⟨pt,ht,hpt⟩,hin,h10,q⟩:=h;obtain⟨m,c,a,hp,hm,hc,ha⟩:=D.ex;refine⟨_,aT (cQ (pv 0) (bI rfl (aV (CZ 3 nd) (aV (CZ 4 nd) (aV (CZ 5 nd) (aV (CZ 6 nd) bH))))))<|
   aT (bJ (i:=7) nd rfl (ng rfl) (a1.c hr (aD (pv 4) (aD (pv 5) aB))))<|
   aT (bJ (i:=8) nd rfl (ng rfl) (bC eQ (a2.c hr (aD (pv 3) (bM (a3.c hr (aD (pv 3) aB)) aB))) (a4.c hr (aD (pv 4) (aD (pv 5) (aD (pv 1) aB))))))<|
   aT (bV (cB vY (bD pG rfl T2.abs oT (dQ (bC iI (bC eQ (a2.c hr (aD (pv 3) (aD (pv 2) aB))) (pv 7)) (pv 8)) aB)) (bC eQ (pv 6) (pv 7)) (nomark _)) (aR (aY fH)) bU)<|
   aR (aY (hJ (a5.c hr (aD (pv 2) aB)) (gT (a6.c hr (aD (pv 3) (aD (pv 2) aB)))))),?_⟩
  refine⟨_,rfl,p,_,rfl,CY.of hp,rfl,_,_,rfl,_,_,rfl,_,_,rfl,_,_,rfl,rfl,?_⟩;refine⟨_,rfl,_,rfl,c,a,cs,cl,rfl,hc,D.cu,ha,mG D.ck D.un,λH1 s1=> ?_⟩;refine⟨_,rfl,_,rfl,m,g,w',rfl,hm.same s1,D.G,λH2 lc pc hlc s2 elc hP=> ?_⟩;have s12:=s1.trans s2;have wb0:=qA D.G (L:=aQ pos g) (λc hc=>hc) (by rw[eD];exact D.G.c10);have wb:=qA D.G hin h10;refine⟨m,lc,g,pc,aQ pos g,rfl,hm.same s12,.inr elc,hP,λc hc=>hc,?_⟩;refine⟨_,rfl,_,rfl,_,rfl,c,a,cs,cl,i,rfl,s12 _ _ hc,D.cu,ha.ext s12.ext,mG D.ck D.un,?_⟩;refine⟨_,_,rfl,rfl,.inl ⟨by omega,by omega⟩,?_⟩;refine⟨_,rfl,_,rfl,m,t,g,pt,L,rfl,hm.same s12,.inl (s12 _ _ ht),hpt.same s12,hin,?_⟩;refine⟨_,rfl,_,_,rfl,rfl,.inl ⟨by omega,by omega⟩,_,rfl,_,_,rfl,rfl,_,rfl,_,rfl,_,rfl,_,_,rfl,rfl,.inl ⟨by have:=D.o9;omega,by have:=D.o9;omega⟩,_,_,rfl,rfl,_,rfl,?_⟩;have el:lfit g cs cl od i L=(!decide (od*bF cs cl<ab (cM g L*bF cs cl - cM g (aQ pos g)*bN cs cl i))&&(lhangs L&&iC g L)):=rfl;refine dY (λz=> ?_) λz=> ?_
  ·rw[CM (show od*bF cs cl<ab (cM g L*bF cs cl - cM g (aQ pos g)*bN cs cl i)from z)]at el;have:=q H2 s12;rw[el]at this;exact this
  ·rw[CN (show¬od*bF cs cl<ab (cM g L*bF cs cl - cM g (aQ pos g)*bN cs cl i)from z)]at el;refine⟨_,rfl,t,L,rfl,⟨pt,s12 _ _ ht,hpt.same s12⟩,h10,λH3 s3=> ⟨_,rfl,fB (λe=> ?_) λe=> ?_⟩⟩
   ·have s13:=s12.trans s3;refine⟨_,rfl,_,rfl,m,t,g,w',L,rfl,hm.same s13,D.G,⟨pt,s13 _ _ ht,hpt.same s13⟩,h10,λH4 s4=> ?_⟩;have:=q H4 (s13.trans s4);rw[el,e]at this;exact this
   ·have:=q H3 (s12.trans s3);rw[el,e]at this;exact this
open Classical in
theorem A7y {L:List Pl}(nd:L.Nodup):lhangs L=mD L:=by
 unfold mD;cases L with
 |nil=>exact(CN λz=>z.1 rfl).symm
 |cons c0 tl=>
  have h:=B5x nd;rw[k6,decide_eq_true_eq];show decide ((hit (tl.length+1) ([c0],tl)).2=[])=true↔_;rw[decide_eq_true_eq];exact h
theorem B2o {g:bE}{L:List Pl}(hin:∀c∈L,c∈aQ pos g):iC g L=L.any λc=>decide (c∈(aQ pos g).filter (fM g)):=by
 unfold iC iW fM;rw[k6,ah,ah];constructor
 ·rintro⟨d,hd,h⟩;obtain⟨c,hc,hn⟩:=ah.mp h;refine⟨c,hc,CM (ff.mpr ⟨hin c hc,ah.mpr ⟨d,kG (next_iff.mp hn),CM hd⟩⟩)⟩
 ·rintro⟨c,hc,h⟩;have h1:=(ff.mp (of_decide_eq_true h)).2;obtain⟨d,hd,he⟩:=ah.mp h1;exact⟨d,of_decide_eq_true he,ah.mpr ⟨c,hc,next_iff.mpr (kG hd)⟩⟩
theorem A79 {g:bE}{L:List Pl}(nd:L.Nodup)(hin:∀c∈L,c∈aQ pos g):(lhangs L&&iC g L)=hZ g L:=by unfold hZ;rw[A7y nd,B2o hin,B5]
theorem zA:ab x<=k↔ -k<=x/\x<=k:=by
 unfold ab
 split<;>constructor<;>intro h<;>(try constructor)<;>omega
theorem iG {b x y:Int}(hb:1<=b):b*x<=b*y↔x<=y:=
 ⟨λh=>Int.le_of_mul_le_mul_left h (by omega),λh=>Int.mul_le_mul_of_nonneg_left h (by omega)⟩
theorem B5m {W b t N D od:Int}(hb:1<=b)(hN:1<=N)(e:t*N=D*b):ab (W*b - t)<=od*b↔ab (W*N - D)<=od*N:=by
 rw[zA,zA];have k1:N*(W*b - t)=b*(W*N - D):=by
  rw[Int.mul_sub,Int.mul_sub,tw N t,e,tw D b]
  congr 1
  rw[←qo,tw N W,tw (W*N) b]
 have k2:N*(od*b)=b*(od*N):=by rw[←qo,tw N od,tw (od*N) b]
 have k3:N* -(od*b)=b* -(od*N):=by rw[Int.mul_neg,Int.mul_neg,k2]
 constructor
 ·rintro⟨h1,h2⟩;have h1':=(iG hN).mpr h1;have h2':=(iG hN).mpr h2;rw[k3,k1]at h1';rw[k1,k2]at h2';exact⟨(iG hb).mp h1',(iG hb).mp h2'⟩
 ·rintro⟨h1,h2⟩;have h1':=(iG hb).mpr h1;have h2':=(iG hb).mpr h2;rw[←k3,←k1]at h1';rw[←k1,←k2]at h2';exact⟨(iG hN).mp h1',(iG hN).mp h2'⟩
theorem A4c (hT:0<=bP g)(hC:0<=bN cs cl i)(hN:1<=bF cs cl):1<=kD g cs cl i/\nZ g cs cl i*bF cs cl=(bP g*bN cs cl i)*kD g cs cl i:=by
 obtain⟨s0,s1,_,_,s4⟩:=rN hC hN;have hs0:0<=bP g*frTop (bN cs cl i) (bF cs cl):=Int.mul_nonneg hT s0;obtain⟨d0,d1,_,_,d4⟩:=rN hs0 s1;refine⟨d1,?_⟩;show frTop (bP g*frTop (bN cs cl i) (bF cs cl)) (frBot (bN cs cl i) (bF cs cl))*bF cs cl=bP g*bN cs cl i*frBot (bP g*frTop (bN cs cl i) (bF cs cl)) (frBot (bN cs cl i) (bF cs cl));generalize frTop (bN cs cl i) (bF cs cl)=sT at*;generalize frBot (bN cs cl i) (bF cs cl)=sB at*;generalize frTop (bP g*sT) sB=dT at*;generalize frBot (bP g*sT) sB=dB at*;have hne:sB≠0:=by omega
 refine Int.eq_of_mul_eq_mul_left hne ?_
 calc sB*(dT*bF cs cl)=dT*sB*bF cs cl:=by rw[←qo,tw sB dT]
  _=bP g*sT*dB*bF cs cl:=by rw[d4]
  _=bP g*(sT*bF cs cl)*dB:=by rw[qo (bP g*sT) dB,tw dB,←qo,qo (bP g)]
  _=bP g*(bN cs cl i*sB)*dB:=by rw[s4]
  _=sB*(bP g*bN cs cl i*dB):=by rw[←qo (bP g),tw _ sB,qo sB]
theorem A48 {g:bE}{cs:List Int}{cl:List C3}{od i:Int}{L:List Pl}(hT:0<=bP g)(hC:0<=bN cs cl i)(hN:1<=bF cs cl):jC g cs cl od i L= !decide (od*bF cs cl<ab (cM g L*bF cs cl - bP g*bN cs cl i)):=by obtain⟨h1,h2⟩:=A4c (g:=g) hT hC hN;have:=B5m (W:=cM g L) (od:=od) h1 hN h2;unfold jC;rw[k6,decide_eq_true_eq,this];simp
theorem A5m (g:bE):cM g (aQ pos g)=bP g:=A1x g
theorem B09 {g:bE}{cs:List Int}{cl:List C3}{od i:Int}{L:List Pl}(nd:L.Nodup)(hin:∀c∈L,c∈aQ pos g)(hT:0<=bP g)(hC:0<=bN cs cl i)(hN:1<=bF cs cl):lfit g cs cl od i L=(jC g cs cl od i L&&hZ g L):=by unfold lfit;rw[A79 nd hin,A5m,A48 hT hC hN]
theorem oB:∀(n:Nat){xs ys:List α},xs.length=n->(ys∈C8 xs↔ys.Sublist xs):=by
 intro n
 induction n with
 |zero=>
  intro xs ys h;have:xs=[]:=ay h;subst this;rw[ie];exact fy
 |succ n ih0=>
  intro xs ys h;rcases a8 xs with e| ⟨zs,x,e⟩
  ·rw[e]at h;cases h
  ·rw[ao]at e;subst e;rw[c8,dq]at h;have ih:∀{ys:List α},ys∈C8 zs↔ys.Sublist zs:=ih0 (by omega);rw[tI,d8];constructor
   ·rintro(hz|hz)
    ·exact(ih.mp hz).trans (List.sublist_append_left _ _)
    ·obtain⟨y,hy,rfl⟩:=fm.mp hz;exact(ih.mp hy).append (Cn.refl _)
   ·intro hs;obtain⟨l1,l2,rfl,h1,h2⟩:=List.sublist_append_iff.mp hs;cases h2 with
    |cons _ h3=>
     rw[ie.mp h3,ak];exact .inl (ih.mpr h1)
    |cons_cons _ h3=>
     rw[ie.mp h3];exact .inr (fm.mpr ⟨l1,ih.mpr h1,rfl⟩)
theorem A5v:ys∈C8 xs↔ys∈C6 xs:=(oB _ rfl).trans ⟨uS,gG⟩
theorem B3s {α:Type}{xs ys:List α}(h:ys∈C8 xs):∀c∈ys,c∈xs:=by
 have:∀(xs:List α)(acc:List (List α))(S:α->Prop),(∀ys∈acc,∀c∈ys,S c)->(∀c∈xs,S c)->∀ys∈xs.foldl llS acc,∀c∈ys,S c:=by
  intro xs
  induction xs with
  |nil=>intro acc S h _ ys hy;exact h ys hy
  |cons x xs ih=>
   intro acc S h hx ys hy;refine ih (llS acc x) S (λzs hz=> ?_) (λc hc=>hx c (CP _ hc)) ys hy;rcases d8.mp hz with z|z
   ·exact h zs z
   ·obtain⟨y,hy',rfl⟩:=fm.mp z;intro c hc;rcases d8.mp hc with hc|hc
    ·exact h y hy' c hc
    ·rw[fy.mp hc];exact hx x CQ
 exact this xs [[]] (· ∈xs) (λys h c hc=>by rw[fy.mp h]at hc;cases hc) (λc hc=>hc) ys h
theorem A9b (xs:List α):([]:List α)∈C8 xs:=by
 have:∀(xs:List α)(acc:List (List α)),[]∈acc->[]∈xs.foldl llS acc:=by
  intro xs
  induction xs with
  |nil=>intro acc h;exact h
  |cons x xs ih=>intro acc h;exact ih _ (d9 _ h)
 exact this xs [[]] CQ
theorem vE (g:bE)(cs:List Int)(cl:List C3)(od i:Int):lfit g cs cl od i []=false:=by unfold lfit lhangs;simp
theorem A8t (cs:List Int)(cl:List C3)(od i:Int)(h6:cS g<=6):((C8 (aQ pos g)).filter (lfit g cs cl od i)).length<64:=by
 have h1:((C8 (aQ pos g)).filter (lfit g cs cl od i)).length<(C8 (aQ pos g)).length:=tQ (A9b _) (vE g cs cl od i);have h2:(C8 (aQ pos g)).length<=64:=by
  rw[uI,eD];exact jd (jq (by decide) h6) (by decide)
 omega
theorem A5x {R:ju->List Pl->Prop}:∀{qs:List ju}{ts:List (List Pl)},Paired R qs ts->((qs.zip ts).map λz=>V.ref z.1)=qs.map V.ref/\(qs.zip ts).map (·.2)=ts/\(∀z∈qs.zip ts,R z.1 z.2):=by
 intro qs ts h
 induction h with
 |nil=>exact⟨rfl,rfl,λz hz=>by cases hz⟩
 |cons r t ih=>
  refine⟨?_,?_,λz hz=> ?_⟩
  ·rw[iw,d6,d6,ih.1]
  ·rw[iw,d6,ih.2.1]
  ·rw[iw]at hz;rcases fe.mp hz with e|hz
   ·rw[e];exact r
   ·exact ih.2.2 z hz
noncomputable def qK:Sp:=λvs H Q _=> ∃p g w cs cl od i,vs=[.ref p,.int i]/\PleA H p g w cs cl od/\∀l zs Cv H',H l=none->Same H H'->H' l=some (.lst ((Cv:List (ju×List Pl)).map λz=>V.ref z.1))->(∀z∈zs,C1 H' z.1 z.2)->zs.map (·.2)=(C8 (aQ pos g)).filter (lfit g cs cl od i)->sM zs Cv->Q (.ref l) H'
noncomputable abbrev nFt:List Str:=["_law_plea_here","_law_holder"]
theorem B1s:(["_law_land","_law_plea_here","_law_holder"]:List Str).Nodup:=by decide +kernel
theorem A8o (F:D1 K mg "_law_fit_lands" sY ["_law_plea_here","_law_holder"])(T2:dZ mg)(a1:A1 P w K mg base 2 "_law_lands" A26)(a2:A1 P w K mg base 3 "_law_fits" oZ):A1 P w K mg base 4 "_law_fit_lands" qK:=by
 refine F.k nFt ?_;ac_nf
 ·obtain⟨p,g,w',cs,cl,od,i,rfl,D,q⟩:=h;obtain⟨m,c,a,hp,hm,hc,ha⟩:=D.ex;refine⟨_,aR (aY (bD (B5w (dI hr)) rfl T2.sorted Aq (cY (bQ (bB sY).names nFt ["_law_land"] [("_law_plea_here",0),("_law_holder",1)] rfl (cR (a1.c hr (fE (bK cD (pv 0) aU (λ_ _=>rfl)) aB))) rfl rfl rfl (by decide +kernel)
   (λZ=>CZ 0 B1s) (λZ=>dX (cA (a2.c hr (aD (pv 1) (aD (pv 2) (aD (pv 0) aB)))))) (λZ=>pv 0)) aB))),?_⟩
  refine⟨_,rfl,p,_,0,_,rfl,rfl,CY.of hp,rfl,m,g,w',rfl,hm,D.G,D.c6,λll qs H1 hll s1 ell hL=> ?_⟩;have hql:qs.length=_:=Paired.length hL;have h64:qs.length<=64:=by
   rw[hql,uI,eD];exact jd (jq (by decide) D.c6) (by decide)
  refine⟨ll,rfl,⟨_,CW.of ell⟩,λZ l hl=> ?_⟩;refine iB (R:=λH q cs=>C1 H q cs) (λe h=>C1.ext h e) (rest:=[some (.ref p),some (.int i)]) (lfit g cs cl od i) gH (λH' hs=>CW.of (hs _ _ ell)) hL hl (by omega) (λb L H' Q' hc hb hs k=> ?_) λσ H' qs' hs el' hP'=> ?_
  ·refine⟨_,rfl,_,rfl,_,rfl,p,b,g,w',cs,cl,od,i,L,rfl,(D.same s1).same hs,hb,B3s hc,?_,λH2 s2=> ⟨_,rfl,k H2 s2⟩⟩;have:=vL hc;rw[eD]at this;have:=D.c6;omega
  ·obtain⟨z1,z2,z3⟩:=A5x hP';refine⟨l,qs'.zip _,rfl,by rw[el',z1],λz hz=> ⟨z3 z hz,λe=> ?_⟩,?_,λlz Cv hlz hS=> ?_⟩
   ·have:z.2∈(qs'.zip ((C8 (aQ pos g)).filter (lfit g cs cl od i))).map (·.2):=fm.mpr ⟨z,hz,rfl⟩;rw[z2]at this;have:=(ff.mp this).2;rw[e,vE]at this;cases this
   ·have:(qs'.zip ((C8 (aQ pos g)).filter (lfit g cs cl od i))).length=((qs'.zip ((C8 (aQ pos g)).filter (lfit g cs cl od i))).map (·.2)).length:=by rw[di]
    rw[this,z2];exact A8t cs cl od i D.c6
   ·have uz:=aK (o:=.lst (Cv.map λz=>V.ref z.1)) hlz;exact q lz _ Cv _ ((s1.trans hs).free hlz) ((s1.trans hs).trans uz) aG (λz hz=>C1.ext (z3 z hz) uz.ext) z2 hS
noncomputable def qR (g:bE)(cs:List Int)(cl:List C3)(od i:Int)(L:List Pl):Bool:=hZ g L&&jC g cs cl od i L
theorem A1k:∀{xs:List Pl},xs.Pairwise ltP->(C6 xs).Pairwise λa b=>HT.lexLt (fl a) (fl b)=true:=by
 intro xs
 induction xs with
 |nil=>intro _;exact gw _ _
 |cons x xs ih0=>
  intro h;rw[gr]at h;have ih:=ih0 h.2;have ne:∀b∈(C6 xs).tail,b≠[]:=by
   obtain⟨t,e⟩:=mX xs;rw[e,gr]at ih;rw[e];intro b hb z;have:=ih.1 b hb;rw[z,gL]at this;cases this
  have nil:∀b:List Pl,b≠[]->HT.lexLt (fl []) (fl b)=true:=λb hb=>by
   cases b with
   |nil=>exact absurd rfl hb
   |cons c b=>rfl
  show([]::((C6 xs).map (x:: ·)++(C6 xs).tail)).Pairwise _;rw[gr,gq,gv];refine⟨λb hb=> ?_,ih.imp fun{a b} z=> ?_,ih.sublist (List.tail_sublist _),λa ha b hb=> ?_⟩
  ·rcases d8.mp hb with z|z
   ·obtain⟨c,_,rfl⟩:=fm.mp z;exact nil _ (by simp)
   ·exact nil b (ne b z)
  ·show HT.lexLt (x.1::x.2::fl a) (x.1::x.2::fl b)=true;rw[HT.lexLt_cons,if_pos rfl,HT.lexLt_cons,if_pos rfl];exact z
  ·obtain⟨c,_,rfl⟩:=fm.mp ha;have hs:=gG (List.mem_of_mem_tail hb);cases b with
   |nil=>exact absurd rfl (ne _ hb)
   |cons y b=>
    have lt:HT.lexLt [x.1,x.2] [y.1,y.2]=true:=h.1 y (hs.subset CQ);show HT.lexLt (x.1::x.2::fl c) (y.1::y.2::fl b)=true;rw[HT.lexLt_cons,HT.lexLt_cons]at lt⊢;by_cases e1:x.1=y.1
    ·rw[if_pos e1]at lt⊢;by_cases e2:x.2=y.2
     ·rw[if_pos e2]at lt;cases lt
     ·rw[if_neg e2]at lt⊢;exact lt
    ·rw[if_neg e1]at lt⊢;exact lt
theorem A23:∀(n:Nat){xs:List Pl},xs.length=n->xs.Nodup->(C8 xs).Nodup
 |0,xs,h,_=>by
  have:xs=[]:=ay h;subst this;exact f9.mpr ⟨by simp,gg⟩
 |n+1,xs,h,hn=>by
  rcases a8 xs with e| ⟨zs,x,e⟩
  ·rw[e]at h;cases h
  ·rw[ao]at e;subst e;rw[c8,dq]at h;rw[f7]at hn;have ih:=A23 n (xs:=zs) (by omega) hn.1;rw[tI,f7];refine⟨ih,?_,λa ha b hb e=> ?_⟩
   ·rw[gc,gv];exact(gc.mp ih).imp fun{a b} z e=>z (AD e)
   ·obtain⟨c,_,rfl⟩:=fm.mp hb;have hx:x∈a:=by rw[e];exact fc _ CQ
    exact hn.2.2 x (((oB _ rfl).mp ha).subset hx) x CQ rfl
theorem iL (g:bE):(aQ pos g).Nodup:=(oQ pos g).imp fun{a b} z e=>by
 have z:HT.lexLt [a.1,a.2] [b.1,b.2]=true:=z;rw[e,gL]at z;cases z
theorem B01 (g:bE)(f:List Pl->Bool):((C8 (aQ pos g)).filter f).Pairwise (· ≠ ·):=(gc.mp (A23 _ rfl (iL g))).sublist bw
theorem pO {g:bE}{cs:List Int}{cl:List C3}{od i:Int}{L:List Pl}(hT:0<=bP g)(hC:0<=bN cs cl i)(hN:1<=bF cs cl)(h:L∈C8 (aQ pos g)):lfit g cs cl od i L=qR g cs cl od i L:=by have hs:=(oB _ rfl).mp h;rw[B09 ((iL g).sublist hs) (λc hc=>hs.subset hc) hT hC hN,B5];rfl
theorem wA {g:bE}{cs:List Int}{cl:List C3}{od i:Int}{L:List Pl}:L∈bO g cs cl od i↔L∈C8 (aQ pos g)/\qR g cs cl od i L=true:=by unfold bO lB qR;rw[ff,ff,A5v,pe,and_assoc]
theorem B5j {g:bE}{cs:List Int}{cl:List C3}{od i:Int}{R:List (List Pl)}(hT:0<=bP g)(hC:0<=bN cs cl i)(hN:1<=bF cs cl)(hp:R.Perm ((C8 (aQ pos g)).filter (lfit g cs cl od i)))(hs:R.Pairwise λa b=>HT.lexLt (fl b) (fl a)=false):R=bO g cs cl od i:=by
 have h1:(bO g cs cl od i).Pairwise λa b=>HT.lexLt (fl a) (fl b)=true:=((A1k (oQ pos g)).sublist bw).sublist bw;have nr:(bO g cs cl od i).Nodup:=h1.imp fun{a b} z e=>by rw[e,gL]at z;cases z
 refine m7.eq_of_pairwise (le:=λa b=>HT.lexLt (fl b) (fl a)=false) (λa b _ _ y z=>rH (kI z y)) hs (h1.imp fun{a b} z=> ?_) (hp.trans ((List.perm_ext_iff_of_nodup (gc.mpr (B01 g _)) nr).mpr λL=> ?_))
 ·cases e:HT.lexLt (fl b) (fl a)with
  |false=>rfl
  |true=>have:=lF z e;rw[gL]at this;cases this
 ·rw[wA,ff];exact⟨λ⟨h,z⟩=> ⟨h,by rw[←pO hT hC hN h];exact z⟩,λ⟨h,z⟩=> ⟨h,by rw[pO hT hC hN h];exact z⟩⟩
structure TxW (mg:Str->Option jt):Prop where
 divmod:mg "divmod" =none
 min:mg "min" =none
 figs:∃t,mg "FIGURES" =some (.int 4 t)
noncomputable def pN:Sp:=λvs H Q _=> ∃lc t pc ps C L,vs=[.ref lc,.ref t]/\H lc=some (.lst ((pc:List ju).map V.ref))/\PlAt H pc C/\C.length<=10/\(H t=some (.tup ((ps:List ju).map V.ref))\/H t=some (.lst (ps.map V.ref)))/\PlAt H ps L/\Q (.int (Wy.mk C L)) H
noncomputable def yT:Sp:=λvs H Q _=> ∃(lc:ju)(pc:List ju)(f:Nat->Int)(n:Nat),vs=[.ref lc,.int (Wy.V4 (kz n) f)]/\H lc=some (.lst (pc.map V.ref))/\pc.length=n/\n<=10/\Wy.Fig (kz n) f/\∀t H',H t=none->Same H H'->H' t=some (.tup (((kz n).map f).map V.int))->Q (.ref t) H'
theorem uQ (h:n<=10):(4:Int)^n<=1048576:=by have:(4:Nat)^n<=4^10:=jq (by decide) h;have h2:((4^n:Nat):Int)<=((4^10:Nat):Int):=Int.ofNat_le.mpr this;rw[Int.natCast_pow]at h2;exact h2
theorem A95 (F:D1 K mg "marks_of" zZ ["cells","land"])(T:TxW mg):A1 P w K mg base 1 "marks_of" pN:=by
 obtain⟨tf,mF⟩:=T.figs;refine F.k ["cells","land","marks","cell"] ?_;ac_nf
 ·obtain⟨lc,t,pc,ps,C,L,rfl,hlc,hPc,h10,ht,hPs,q⟩:=h;have hpl:pc.length=C.length:=Paired.length hPc;refine⟨_,aT (bJ (i:=2) nd rfl (ng rfl) aU)<|
   aT (dF k9 rfl (cR (pv 0)) (CZ 3 nd) (aR (bJ (i:=2) nd rfl (ng rfl) (bC dG (bC eQ (pv 2) (dW (v:=.int 4) rfl mF ⟨_,rfl⟩)) (A9s (cB (oK 1 (dI hr)) (pv 3) (pv 1) rfl) aU aU)))))<|
   aR (aY (pv 2)),?_⟩
  refine⟨_,rfl,lc,rfl,⟨_,CW.of hlc⟩,?_⟩;refine eU (K:=K) (a:=lc) (xs:=pc.map V.ref) (λi σ H'=>(∃o,σ=[some (.ref lc),some (.ref t),some (.int (Wy.mk (C.take i) L)),o])/\H'=H)
   ⟨⟨_,rfl⟩,rfl⟩ (λi σ H' _ h=>by rw[h.2];exact CW.of hlc) ?_ ?_
  ·rintro i x σ H' hx ⟨⟨o,rfl⟩,rfl⟩;obtain⟨p,hp,rfl⟩:=eY hx;obtain⟨c,hc,he⟩:=hPc.at hp;have hi:i<C.length:=(CL.mp hc).1;have hr1:=Wy.mk_ran (C.take i) L;have hp10:=uQ (n:=(C.take i).length) (by rw[du];omega);refine⟨_,rfl,_,_,rfl,rfl,(.inr (by decide)),_,rfl,_,rfl,t,_,_,rfl,ht,iM he hPs,?_⟩;rw[kM];have et:C.take (i+1)=C.take i++[c]:=by rw[iu,hc];rfl
   have em:Wy.mk (C.take (i+1)) L=Wy.mk (C.take i) L*4+(if c∈L then 1 else 0):=by
    rw[et];unfold Wy.mk;rw[Wy.V4_snoc];unfold Wy.ind;by_cases e:c∈L<;>simp[e]
   rw[em];refine⟨_,rfl,dY (λe=> ?_) λe=> ?_⟩
   ·rw[if_pos e];exact⟨_,_,rfl,rfl,⟨_,rfl⟩,rfl⟩
   ·rw[if_neg e];exact⟨_,_,rfl,rfl,⟨_,rfl⟩,rfl⟩
  ·rintro σ H' ⟨⟨o,rfl⟩,rfl⟩;rw[di,hpl,iq (CT _)];exact⟨_,rfl,q⟩
theorem B3r (F:D1 K mg "parting_written" A0n ["cells","number"])(T:TxW mg)(T1:Txt mg):A1 P w K mg base 1 "parting_written" yT:=by
  obtain⟨tf,mF⟩:=T.figs;refine F.k ["cells","number","figures","figure"] ?_;ac_nf
  · obtain⟨lc,pc,fg,n,rfl,hlc,hn,h10,hf,q⟩:=h
    refine⟨_,aT (bJ (i:=2) nd rfl (ng rfl) (cZ aB))<|
      aT (uX k9 (cB oX (bD eJ rfl T1.len m9 (aD (pv 2) aB)) (bD eJ rfl T1.len m9 (aD (pv 0) aB)) (nomark _))
        (aT (cQ (bD B3i rfl T.divmod boot_divmod (aD (pv 1) (aD (dW (v:=.int 4) rfl mF ⟨_,rfl⟩) aB))) (bI rfl (aV (CZ 1 nd) (aV (CZ 3 nd) bH))))<|
         aR (dP (iV ow qk ql jX (pv 2) (aD (pv 3) aB)))))<|
      aR (aY (eP gW rfl T1.tuple r6 (fE (A4l (pv 2) (gN iA aU)) aB))),?_⟩
    refine⟨by show 0<=jv;decide,λlf hlf=> ?_⟩;refine xX (λσ H'=> ∃(k:Nat)(xs:List Int),k<=n/\(∃o,σ=[some (.ref lc),some (.int (Wy.V4 (kz k) fg)),some (.ref lf),o])/\Same H H'/\H' lf=some (.lst (xs.map V.int))/\xs.length=n - k/\xs.reverse=((kz n).drop k).map fg) (λ_ H'=>match H' lf with|some (.lst xs)=>n - xs.length|_=>0)
      ⟨n,[],CT _,⟨_,rfl⟩,aK hlf,aG,by simp,by rw[av (by rw[dm];exact CT _)];rfl⟩ ?_ (λσ H' R R' hi hc=> ?_)
    · rintro σ H' ⟨k,xs,hk,⟨o,rfl⟩,hs,hl,hxl,hx⟩
      refine⟨_,rfl,lf,_,rfl,.inl (CW.of hl),_,rfl,lc,_,rfl,.inl (CW.of (hs _ _ hlc)),_,_,rfl,rfl,_,rfl,?_⟩;rw[di,di,hn];refine dY (λCA=> ?_) λCA=> ?_
      · obtain⟨k',rfl⟩:∃k',k=k'+1:=⟨k - 1,by omega⟩
        have ev:Wy.V4 (kz (k'+1)) fg=Wy.V4 (kz k') fg*4+fg k':=by rw[gz,Wy.V4_snoc]
        have hb:=hf k' (fw.mpr (by omega));rw[ev];refine⟨_,rfl,_,_,rfl,⟨by decide,by decide⟩,λpt hpt=> ?_⟩;have e1:(Wy.V4 (kz k') fg*4+fg k')/4=Wy.V4 (kz k') fg:=by omega
        have e2:(Wy.V4 (kz k') fg*4+fg k')%4=fg k':=by omega
        rw[e1,e2];have u:=aK (o:=.tup [.int (Wy.V4 (kz k') fg),.int (fg k')]) hpt;refine⟨pt,_,rfl,CY.of aG,rfl,_,_,rfl,_,_,rfl,rfl,?_⟩;have el:=u _ _ hl;refine⟨_,rfl,.inl ⟨rfl,_,CW.of el⟩,_,rfl,lf,_,_,rfl,rfl,el,cO (by rw[di];omega),?_⟩;refine⟨⟨k',xs++[fg k'],by omega,⟨_,rfl⟩,λb o' e=> ?_,by rw[aG,dz];rfl,by rw[c8,hxl];show n -(k'+1)+1=_;omega,?_⟩,?_⟩
        · rw[aN (bG e hlf)];exact u _ _ (hs _ _ e)
        · rw[List.reverse_append,hx]
          have hd:(kz n).drop k'=k'::(kz n).drop (k'+1):=by
            rw[sk (by rw[dm];omega),List.getElem_range]
          rw[hd];rfl
        · show(match (upd _ lf _) lf with|some (HO.lst xs)=>n - xs.length|_=>0)<(match H' lf with|some (HO.lst xs)=>n - xs.length|_=>0)
          rw[aG,hl];show n -(xs.map V.int++[V.int (fg k')]).length<n -(xs.map V.int).length;rw[c8,di];show n -(xs.length+1)<_;omega
      · have hk0:k=0:=by omega
        subst hk0;refine⟨_,rfl,_,rfl,rfl,lf,_,rfl,hl,λl2 Cz=> ?_⟩;rw[B0h,←List.map_reverse,hx,ax];have u2:=aK (o:=.lst (((kz n).map fg).map V.int)) Cz;refine⟨l2,_,rfl,.inl ⟨CW.of aG,λt ht=> ?_⟩⟩;have u3:=aK (o:=.tup (((kz n).map fg).map V.int)) ht;have sA:=(hs.trans u2).trans u3;exact q t _ ((hs.trans u2).free ht) sA aG
    · obtain⟨v,e1,p,ys,e2,e3,v',e4,p',ys',e5,e6,i,j,e7,e8,c,e9,h⟩:=hc
      exact⟨v,e1,p,ys,e2,e3,v',e4,p',ys',e5,e6,i,j,e7,e8,c,e9,hi _ _ h⟩
noncomputable def Sb (l:ju)(H H':Hp):Prop:=∀b u,b≠l->H b=some u->H' b=some u
theorem B2d:qu "min" =some (.builtin "min"):=by decide +kernel
noncomputable def WyA (H:Hp)(v:V)(x:Wy.W):Prop:=∃a b,v= .ref a/\H a=some (.tup [.int x.1,.ref b])/\H b=some (.tup [.int x.2.1,.int x.2.2])
noncomputable def WaysK (H:Hp)(kvs:List (Key×V))(M:List (Int×Wy.W)):Prop:=Paired (λkv m=>kv.1=kr m.1/\WyA H kv.2 m.2) kvs M
noncomputable def LdA (H:Hp)(l:ju)(xs:List (Int×Int)):Prop:=∃ls:List ju,H l=some (.lst (ls.map V.ref))/\Paired (λa x=>H a=some (.tup [.int x.1,.int x.2])) ls xs
theorem WyA.ext (h:WyA H v x)(e:∀b ys,H b=some (.tup ys)->H' b=some (.tup ys)):WyA H' v x:=let ⟨a,b,h1,h2,h3⟩:=h;⟨a,b,h1,e _ _ h2,e _ _ h3⟩
theorem WaysK.ext (h:WaysK H kvs M)(e:∀b ys,H b=some (.tup ys)->H' b=some (.tup ys)):WaysK H' kvs M:=Paired.mapP h λ_ _ z=> ⟨z.1,z.2.ext e⟩
theorem WaysK.val (h:WaysK H kvs M)(k:Int):(Wy.look M k=none->bW kvs (kr k)=none)/\∀x,Wy.look M k=some x->∃v,bW kvs (kr k)=some v/\WyA H v x:=by
 induction h with
 |nil=>exact⟨λ_=>rfl,λx e=>(by cases e)⟩
 | @cons kv m kvs M r t ih=>
  rw[Wy.look_cons];by_cases z:m.1=k
  ·rw[if_pos z];exact⟨λe=>(by cases e),λx e=> ⟨kv.2,lY (by rw[r.1,z]),j7 e▸r.2⟩⟩
  ·rw[if_neg z,lV (by rw[r.1];exact λy=>z (uq y))];exact ih
theorem WaysK.put (h:WaysK H kvs M)(k:Int)(hv:WyA H v x):WaysK H (cC kvs (kr k) v) (Wy.put M k x):=by
 have ea:(kvs.any λkv=>decide (kv.1=kr k))=M.any λe=>decide (e.1=k):=by
  clear hv
  induction h with
  |nil=>rfl
  | @cons kv m kvs M r t ih=>
   rw[af,af,ih,r.1]
   congr 1
   exact decide_eq_decide.mpr ⟨λz=>uq z,λz=>by rw[z]⟩
 unfold cC Wy.put;rw[ea]
 split
 ·clear ea;rename_i hh;clear hh
  induction h with
  |nil=>exact .nil
  | @cons kv m kvs M r t ih=>
   rw[d6,d6];refine .cons ?_ ih;by_cases z:m.1=k
   ·rw[if_pos z,if_pos (by rw[r.1,z])];exact⟨r.1,hv⟩
   ·rw[if_neg z,if_neg (by rw[r.1];exact λy=>z (uq y))];exact r
 ·exact Paired.snoc h ⟨rfl,hv⟩
theorem A9e {M:List (Int×Wy.W)}(nd:(M.map (·.1)).Nodup)(hk:∀k∈M.map (·.1),0<=k/\k<2*1048576):M.length<=2097152:=by
 have:=gE (ys:=(kz 2097152).map λn:Nat=>(n:Int)) nd λk h=>by
  obtain⟨h0,h1⟩:=hk k h;obtain⟨n,rfl⟩:=md h0;exact fm.mpr ⟨n,fw.mpr (by omega),rfl⟩
 rwa [di,di,dm]at this
noncomputable def lM (xs:List Int):Prop:=∀k∈xs,0<=k/\k<1048576
noncomputable def tZ:Sp:=λvs H Q _=> ∃d h l kvs M lands,vs=[.ref d,.int h,.ref l]/\H d=some (.dK kvs)/\WaysK H kvs M/\(M.map (·.1)).Nodup/\lM (M.map (·.1))/\LdA H l lands/\lM (lands.map (·.1))/\(0<=h/\h<4)/\∀d' kvs' H',H d'=none->Sb d H H'->H' d'=some (.dK kvs')->WaysK H' kvs' (Wy.more h M lands)->Q (.ref d') H'
noncomputable abbrev nMo:List Str:=["ways","holder","lands","led_on","dealt","many","cost","number","marks","more","way","others","least"]
theorem scMo:gD nMo ["ways","holder","lands"] (bB lE):=by ac_rfl
noncomputable abbrev XMo (P:j9)(w:kl)(K:W.Frag)(mg:Str->Option jt)(base:kj)(f:ju)(cdv:jt)(A:mh)(outer:List Env)(s:jw)(H0:Hp)(E:XK):Cx:=(fK CX0 P w K mg base nMo "with_one_more" (bB lE) f cdv A outer s H0 E).nox
noncomputable abbrev bMo:List mw:=fR ((dA lE).getD 1 (.Pass ⟨0,0,0,0⟩))
noncomputable abbrev bMi:List mw:=fR (bMo.getD 1 (.Pass ⟨0,0,0,0⟩))
section
variable {f:ju}{cdv:jt}{A:mh}{outer:List Env}{s:jw}{H0:Hp}{E:XK}
theorem A8s (T:TxW mg)(hr:Room 1 (XMo P w K mg base f cdv A outer s H0 E).A):∃tt,CV (XMo P w K mg base f cdv A outer s H0 E) bMi tt/\
    ∀(D:dC)(o0 o2 o10 o11 o12:Option V)(dl:ju)(h:Int)(e:Int×Wy.W)(l:Int×Int)(kvs:List (Key×V))(acc:List (Int×Wy.W))(H:Hp),H dl=some (.dK kvs)->WaysK H kvs acc->acc.length<=2097152->(0<=h/\h<4)->
      (∀o10' o11' o12' kvs' H',Sb dl H H'->H' dl=some (.dK kvs')->WaysK H' kvs' (Wy.step1 h e acc l)->D.nx [o0,some (.int h),o2,some (.ref dl),some (.int e.1),some (.int e.2.1),some (.int e.2.2.1),some (.int e.2.2.2),some (.int l.1),some (.int l.2),o10',o11',o12'] H')->
      tt D [o0,some (.int h),o2,some (.ref dl),some (.int e.1),some (.int e.2.1),some (.int e.2.2.1),some (.int e.2.2.2),some (.int l.1),some (.int l.2),o10,o11,o12] H:=by
  have nd:=scMo.nd;have hu:=dI hr;refine⟨_,aR (bV (cB fN (bC B30 (pv 4) (pv 8)) aU (nomark _))
    (aT (bJ (i:=10) nd rfl (ng rfl) (bT (dQ (bC dG (pv 6) (pv 9)) (dQ (bC dG (pv 7) (bC eQ (pv 1) (pv 8))) aB))))<|
     aT (cQ (A0m (jg hu) (pv 3) (bC dG (pv 4) (pv 8)) (bT (dH aU (aD (pv 10) aB))) ⟨rfl,rfl,rfl,rfl⟩) (bI rfl (aV (CZ 11 nd) (aV (CZ 12 nd) bH))))<|
     aR (vQ (jg hu) (pv 3) (bC dG (pv 4) (pv 8)) (bT (dQ (bC dG (pv 11) (pv 5)) (bM (bD (A97 rfl (jg hu)) rfl T.min B2d (aD (pv 12) (aD (pv 10) aB))) aB))) rfl)) bU),?_⟩
  intro D o0 o2 o10 o11 o12 dl h e l kvs acc H hd hW hal hh k;refine⟨_,rfl,_,rfl,_,_,rfl,rfl,rfl,_,rfl,?_⟩;refine dY (λhb=> ?_) λhb=> ?_
  · have hb:mq e.1 l.1=0:=V.int.inj hb
    refine⟨_,rfl,_,rfl,_,_,rfl,rfl,_,rfl,_,rfl,_,rfl,_,_,rfl,rfl,(.inl (by omega)),_,_,rfl,rfl,by show 2<=jv;decide,λpw hpw=> ?_⟩;have u1:=aK (o:=.tup [.int (e.2.2.1+l.2),.int (e.2.2.2+h*l.1)]) hpw;have ew:(upd H pw (.tup [.int (e.2.2.1+l.2),.int (e.2.2.2+h*l.1)])) pw=some (.tup [.int (e.2.2.1+l.2),.int (e.2.2.2+h*l.1)]):=aG;generalize hH1:upd H pw (.tup [.int (e.2.2.1+l.2),.int (e.2.2.2+h*l.1)])=H1 at u1 ew⊢;have hd1:=u1 _ _ hd;have hW1:=hW.ext (λb ys z=>u1 _ _ z);refine⟨_,rfl,dl,rfl,.inl ⟨_,.inl hd1⟩,_,rfl,_,rfl,_,_,rfl,rfl,_,rfl,by show 2<=jv;decide,λpz hpz=> ?_⟩;have u2:=aK (o:=.tup [.int 0,.ref pw]) hpz;have ez:(upd H1 pz (.tup [.int 0,.ref pw])) pz=some (.tup [.int 0,.ref pw]):=aG;generalize hH2:upd H1 pz (.tup [.int 0,.ref pw])=H2 at u2 ez⊢;have hd2:=u2 _ _ hd1;have ew2:=u2 _ _ ew;have hW2:=hW1.ext (λb ys z=>u2 _ _ z);refine⟨_,DGet.k (k:=kr (e.1+l.1)) hd2,?_⟩;obtain⟨v,pl,oth,lst,ev,e1,e2,eg⟩:∃v pl oth lst,(bW kvs (kr (e.1+l.1))).getD (.ref pz)= .ref v/\H2 v=some (.tup [.int oth,.ref pl])/\H2 pl=some (.tup [.int (lst:Int×Int).1,.int lst.2])/\(Wy.look acc (e.1+l.1)).getD (0,(e.2.2.1+l.2,e.2.2.2+h*l.1))=(oth,lst):=by
      obtain⟨w1,w2⟩:=hW2.val (e.1+l.1);cases hl:Wy.look acc (e.1+l.1)with
      |none=>rw[w1 hl];exact⟨pz,pw,0,(e.2.2.1+l.2,e.2.2.2+h*l.1),rfl,ez,ew2,rfl⟩
      |some x=>
        obtain⟨v,h1,a,b,rfl,h2,h3⟩:=w2 x hl;rw[h1];exact⟨a,b,x.1,x.2,rfl,h2,h3,rfl⟩
    rw[ev];refine⟨v,_,rfl,CY.of e1,rfl,_,_,rfl,_,_,rfl,rfl,?_⟩;refine⟨_,rfl,_,rfl,_,_,rfl,rfl,_,rfl,_,rfl,pl,pw,[lst.1,lst.2],[e.2.2.1+l.2,e.2.2.2+h*l.1],rfl,e2,ew2,by show 2<=jv;decide,λpn hpn=> ?_⟩;generalize hn:(if HT.lexLt [e.2.2.1+l.2,e.2.2.2+h*l.1] [lst.1,lst.2]=true then pw else pl)=pm at hpn⊢;have u3:=aK (o:=.tup [.int (oth+e.2.1),.ref pm]) hpn;have en:(upd H2 pn (.tup [.int (oth+e.2.1),.ref pm])) pn=some (.tup [.int (oth+e.2.1),.ref pm]):=aG;generalize hH3:upd H2 pn (.tup [.int (oth+e.2.1),.ref pm])=H3 at u3 en⊢;have hd3:=u3 _ _ hd2;have hW3:=hW2.ext (λb ys z=>u3 _ _ z);have hm:H3 pm=some (.tup [.int (Wy.mn2 lst (e.2.2.1+l.2,e.2.2.2+h*l.1)).1,.int (Wy.mn2 lst (e.2.2.1+l.2,e.2.2.2+h*l.1)).2]):=by
      rw[←hn];unfold Wy.mn2 Wy.lt2
      split
      · exact u3 _ _ ew2
      · exact u3 _ _ e2
    have hkl:kvs.length=acc.length:=Paired.length hW;refine⟨_,rfl,_,rfl,_,rfl,_,_,rfl,rfl,dl,_,rfl,DPut.k (k:=kr (e.1+l.1)) hd3 (by rw[ko];omega),?_⟩;have s3:=(u1.trans u2).trans u3;have tp:∀b ys,H3 b=some (.tup ys)->(upd H3 dl (.dK (cC kvs (kr (e.1+l.1)) (.ref pn)))) b=some (.tup ys):=λb ys z=>by rw[aN (λy=>by rw[y,hd3]at z;cases z)];exact z
    refine k _ _ _ _ _ (λb u n z=>by rw[aN n];exact s3 _ _ z) aG ?_;have hp:=(hW3.put (e.1+l.1) (v:=.ref pn) (x:=(oth+e.2.1,Wy.mn2 lst (e.2.2.1+l.2,e.2.2.2+h*l.1))) ⟨pn,pm,rfl,en,hm⟩).ext tp;unfold Wy.step1;rw[if_pos hb,eg];exact hp
  · have hb:¬mq e.1 l.1=0:=λz=>hb (by show V.int (mq e.1 l.1)=V.int 0;rw[z])
    refine k _ _ _ kvs H (λ_ _ _ z=>z) hd ?_;unfold Wy.step1;rw[if_neg hb];exact hW
theorem A4e (T:TxW mg)(hr:Room 1 (XMo P w K mg base f cdv A outer s H0 E).A):∃tt,CV (XMo P w K mg base f cdv A outer s H0 E) bMo tt/\
  ∀(D:dC)(o5 o6 o7 o8 o9 o10 o11 o12:Option V)(d dl ll:ju)(h:Int)(e:Int×Wy.W)(lands:List (Int×Int))(o:Obj)(kws:List (Key×V))(M:List (Int×Wy.W))(kvs:List (Key×V))(acc:List (Int×Wy.W))(H:Hp),H d=some (.frz o (.dK kws))->WaysK H kws M->Wy.look M e.1=some e.2->dl≠d->dl≠ll->H dl=some (.dK kvs)->WaysK H kvs acc->(acc.map (·.1)).Nodup->(∀k∈acc.map (·.1),0<=k/\k<2*1048576)->(0<=e.1/\e.1<1048576)->LdA H ll lands->lM (lands.map (·.1))->(0<=h/\h<4)->
   (∀o5' o6' o7' o8' o9' o10' o11' o12' kvs' H',Sb dl H H'->H' dl=some (.dK kvs')->WaysK H' kvs' (Wy.more1 h lands acc e)->((Wy.more1 h lands acc e).map (·.1)).Nodup->(∀k∈(Wy.more1 h lands acc e).map (·.1),0<=k/\k<2*1048576)->D.nx [some (.ref d),some (.int h),some (.ref ll),some (.ref dl),some (.int e.1),o5',o6',o7',o8',o9',o10',o11',o12'] H')->
   tt D [some (.ref d),some (.int h),some (.ref ll),some (.ref dl),some (.int e.1),o5,o6,o7,o8,o9,o10,o11,o12] H:=by
 have nd:=scMo.nd;have hu:=dI hr;obtain⟨tb,hb,rb⟩:=A8s (P:=P) (w:=w) (K:=K) (mg:=mg) (base:=base) (f:=f) (cdv:=cdv) (A:=A) (outer:=outer) (s:=s) (H0:=H0) (E:=E) T hr;refine⟨_,aT (cQ (tH (jg hu) (pv 0) (pv 4) (λ_ _=>rfl)) (bI rfl (aV (CZ 5 nd) (aV (bI rfl (aV (CZ 6 nd) (aV (CZ 7 nd) bH))) bH))))<|
  aR (dF k9 rfl (cR (pv 2)) (bI rfl (aV (CZ 8 nd) (aV (CZ 9 nd) bH))) hb),?_⟩
 intro D o5 o6 o7 o8 o9 o10 o11 o12 d dl ll h e lands o kws M kvs acc H hfz hWM hlk ndl nll hdl hW hnd hks he ⟨ls,ell,hL⟩ hsm hh k;obtain⟨v,ev,a,b,rfl,ea,eb⟩:=(hWM.val e.1).2 _ hlk;have dg:DGet H d (.int e.1) (some (.ref a)):=.inl ⟨kws,kr e.1,.inr ⟨o,hfz⟩,rfl,ev.symm⟩;refine⟨_,rfl,_,rfl,d,_,rfl,dg,a,_,rfl,CY.of ea,rfl,_,_,rfl,_,_,rfl,b,_,rfl,CY.of eb,rfl,_,_,rfl,_,_,rfl,rfl,rfl,?_⟩;have hll:ls.length=lands.length:=Paired.length hL;refine⟨_,rfl,ll,rfl,⟨_,CW.of ell⟩,?_⟩;refine eU (K:=K) (a:=ll) (xs:=ls.map V.ref) (λj σ H'=>(∃o8 o9 o10 o11 o12,σ=[some (.ref d),some (.int h),some (.ref ll),some (.ref dl),some (.int e.1),some (.int e.2.1),some (.int e.2.2.1),some (.int e.2.2.2),o8,o9,o10,o11,o12])/\Sb dl H H'/\∃kv2,H' dl=some (.dK kv2)/\WaysK H' kv2 ((lands.take j).foldl (Wy.step1 h e) acc)/\(((lands.take j).foldl (Wy.step1 h e) acc).map (·.1)).Nodup/\∀k∈((lands.take j).foldl (Wy.step1 h e) acc).map (·.1),0<=k/\k<2*1048576)
  ⟨⟨_,_,_,_,_,rfl⟩,λ_ _ _ z=>z,kvs,hdl,hW,hnd,hks⟩ (λj σ H' _ h=>CW.of (h.2.1 _ _ (Ne.symm nll) ell)) ?_ ?_
 ·rintro j x σ H' hx ⟨⟨o8,o9,o10,o11,o12,rfl⟩,hs,kv2,ed,hW2,n2,k2⟩;obtain⟨q,hq,rfl⟩:=eY hx;obtain⟨l,hl,el⟩:=fU hL hq;have hlm:=hsm l.1 (fm.mpr ⟨l,fq hl,rfl⟩);have nq:q≠dl:=λz=>by rw[z,hdl]at el;cases el
  have et:(lands.take (j+1)).foldl (Wy.step1 h e) acc=Wy.step1 h e ((lands.take j).foldl (Wy.step1 h e) acc) l:=by rw[iu,hl,cj];rfl
  obtain⟨n3,k3⟩:=Wy.step1_keys (B:=1048576) (h:=h) n2 k2 he hlm;refine⟨q,_,rfl,CY.of (hs _ _ nq el),rfl,_,_,rfl,_,_,rfl,rfl,?_⟩;refine rb _ _ _ _ _ _ dl h e l kv2 _ H' ed hW2 (A9e n2 k2) hh λo10' o11' o12' kv3 H2 s2 e2 hW3=> ?_;refine⟨⟨_,_,_,_,_,rfl⟩,λb u n z=>s2 b u n (hs b u n z),kv3,e2,?_⟩;rw[et];exact⟨hW3,n3,k3⟩
 ·rintro σ H' ⟨⟨o8,o9,o10,o11,o12,rfl⟩,hs,kv2,ed,hW2,n2,k2⟩;rw[di,hll,iq (CT _)]at hW2 n2 k2;exact k _ _ _ _ _ _ _ _ kv2 H' hs ed hW2 n2 k2
theorem A4g (F:D1 K mg "with_one_more" lE ["ways","holder","lands"])(T:TxW mg):A1 P w K mg base 2 "with_one_more" tZ:=by
 refine F.k nMo ?_;ac_nf
 ·obtain⟨d,h,ll,kws,M,lands,rfl,hd,hWM,ndM,hsM,hL,hsm,hh,q⟩:=h;obtain⟨tb,hb,rb⟩:=A4e (P:=P) (w:=w) (K:=K) (mg:=mg) (base:=base) (f:=f) (cdv:=cdv) (A:=A) (outer:=outer) (s:=s) (H0:=H) (E:=E) T hr;refine⟨_,aT (bJ (i:=3) nd rfl (ng rfl) A54)<|
   aT (dF k9 rfl (A3c (pv 0)) (CZ 4 nd) hb)<|
   aR (aY (pv 3)),?_⟩
  intro dl hdl;have u1:=aK (o:=.dK []) hdl;have ndl:dl≠d:=λz=>by rw[z,hd]at hdl;cases hdl
  refine⟨_,rfl,d,kws,rfl,u1 _ _ hd,λo=> ?_⟩;have edl:(upd (upd H dl (.dK [])) d (.frz o (.dK kws))) dl=some (.dK []):=by rw[aN ndl];exact aG
  have efz:(upd (upd H dl (.dK [])) d (.frz o (.dK kws))) d=some (.frz o (.dK kws)):=aG;have s1:Sb d H (upd (upd H dl (.dK [])) d (.frz o (.dK kws))):=λb u n z=>by rw[aN n];exact u1 _ _ z
  generalize upd (upd H dl (.dK [])) d (.frz o (.dK kws))=H1 at edl efz s1⊢;have tp:∀{H2:Hp},Sb dl H1 H2->∀b ys,H b=some (.tup ys)->H2 b=some (.tup ys):=λs2 b ys z=>s2 _ _ (λy=>by rw[y,hdl]at z;cases z) (s1 _ _ (λy=>by rw[y,hd]at z;cases z) z);have hkl:kws.length=M.length:=Paired.length hWM;refine A2g (d:=d) (o:=o) (kvs:=kws) (λj σ H'=>(∃o4 o5 o6 o7 o8 o9 o10 o11 o12,σ=[some (.ref d),some (.int h),some (.ref ll),some (.ref dl),o4,o5,o6,o7,o8,o9,o10,o11,o12])/\Sb dl H1 H'/\∃kv2,H' dl=some (.dK kv2)/\WaysK H' kv2 ((M.take j).foldl (Wy.more1 h lands) [])/\(((M.take j).foldl (Wy.more1 h lands) []).map (·.1)).Nodup/\∀k∈((M.take j).foldl (Wy.more1 h lands) []).map (·.1),0<=k/\k<2*1048576)
   ⟨⟨_,_,_,_,_,_,_,_,_,rfl⟩,λ_ _ _ z=>z,[],edl,.nil,gg,λk z=>(by cases z)⟩ (λj σ H' h=>h.2.1 _ _ (Ne.symm ndl) efz) ?_ ?_
  ·rintro j kk x σ H' hx ⟨⟨o4,o5,o6,o7,o8,o9,o10,o11,o12,rfl⟩,hs,kv2,ed,hW2,n2,k2⟩;obtain⟨e,he,hkk,_⟩:=fU hWM hx;have hem:=fq he;have hkk:kk=kr e.1:=hkk;subst hkk;obtain⟨ls,ell,hLs⟩:=id hL;have nll:dl≠ll:=λz=>by rw[←z,hdl]at ell;cases ell
   have nld:ll≠d:=λz=>by rw[z,hd]at ell;cases ell
   have et:(M.take (j+1)).foldl (Wy.more1 h lands) []=Wy.more1 h lands ((M.take j).foldl (Wy.more1 h lands) []) e:=by rw[iu,he,cj];rfl
   refine rb _ _ _ _ _ _ _ _ _ d dl ll h e lands o kws M kv2 _ H' (hs _ _ (Ne.symm ndl) efz) (hWM.ext (tp hs)) (Wy.mem_look ndM hem) ndl nll ed hW2 n2 k2 (hsM e.1 (fm.mpr ⟨e,hem,rfl⟩)) ⟨ls,hs _ _ (Ne.symm nll) (s1 _ _ nld ell),Paired.mapP hLs λ_ _ z=>tp hs _ _ z⟩ hsm hh λo5' o6' o7' o8' o9' o10' o11' o12' kv3 H2 s2 e2 hW3 n3 k3=> ?_;refine⟨⟨_,_,_,_,_,_,_,_,_,rfl⟩,λb u n z=>s2 b u n (hs b u n z),kv3,e2,?_⟩;rw[et];exact⟨hW3,n3,k3⟩
  ·rintro σ H' ⟨⟨o4,o5,o6,o7,o8,o9,o10,o11,o12,rfl⟩,hs,kv2,ed,hW2,n2,k2⟩;rw[hkl,iq (CT _)]at hW2;refine⟨_,rfl,q dl kv2 H' hdl (λb u n z=>hs _ _ (λy=>by rw[y,hdl]at z;cases z) (s1 _ _ n z)) ed hW2⟩
end
noncomputable def C9 (L:List Pl)(q:List (List Pl)):Bool:=L.all λc=> !decide (c∈q.flatten)
noncomputable def eZ (Ls:List (List Pl))(cs:List (List (List Pl))):List (List (List Pl)):=Ls.flatMap λL=>(cs.filter (C9 L)).map (· ++[L])
theorem yP (h:q∈eZ Ls cs):∃q0 L,q=q0++[L]/\q0∈cs/\L∈Ls/\C9 L q0=true:=by obtain⟨L,hL,hq⟩:=List.mem_flatMap.mp h;obtain⟨q0,h0,rfl⟩:=fm.mp hq;exact⟨q0,L,rfl,(ff.mp h0).1,hL,(ff.mp h0).2⟩
theorem tK:∀(Ls:List (List Pl))(cs:List (List (List Pl))),(eZ Ls cs).length<=Ls.length*cs.length
 | [],cs=>js _
 |L::Ls,cs=>by
  have ih:=tK Ls cs;have e:eZ (L::Ls) cs=(cs.filter (C9 L)).map (· ++[L])++eZ Ls cs:=rfl;have h:=dh (C9 L) cs;rw[e,c8,di,c9,Nat.succ_mul];omega
theorem zY:∀{Ls:List (List Pl)}{cs:List (List (List Pl))},Ls.Nodup->cs.Nodup->(eZ Ls cs).Nodup
 | [],cs,_,_=>gg
 |L::Ls,cs,h1,h2=>by
  rw[f9]at h1;have ih:=zY h1.2 h2;have e:eZ (L::Ls) cs=(cs.filter (C9 L)).map (· ++[L])++eZ Ls cs:=rfl;rw[e,f7];refine⟨?_,ih,λa ha b hb e=> ?_⟩
  ·rw[gc,gv];exact(gc.mp (h2.sublist bw)).imp fun{a b} z e=>z (AD e)
  ·obtain⟨q0,_,rfl⟩:=fm.mp ha;obtain⟨q1,L1,rfl,_,hL,_⟩:=yP hb;have:=List.append_inj_right' e (by rfl);injection this with this _
   exact h1.1 (this▸hL)
structure Ln (Lfs:List (List (List Pl)))(q:List (List Pl)):Prop where
 p:Paired (λL Ls=>L∈Ls) q Lfs
 nd:q.flatten.Nodup
noncomputable def cE (Lfs:List (List (List Pl))):List (List (List Pl)):=Lfs.foldl (λcs Ls=>eZ Ls cs) [[]]
theorem kJ (Lfs:List (List (List Pl)))(Ls:List (List Pl)):cE (Lfs++[Ls])=eZ Ls (cE Lfs):=by unfold cE;rw[cj];rfl
theorem A2w:∀(n:Nat){Lfs:List (List (List Pl))},Lfs.length=n->(∀Ls∈Lfs,∀L∈Ls,L.Nodup)->∀q∈cE Lfs,Ln Lfs q
 |0,Lfs,h,_,q,hq=>by
  have:Lfs=[]:=ay h;subst this;rw[fy.mp hq];exact⟨.nil,gg⟩
 |n+1,Lfs,h,hn,q,hq=>by
  rcases a8 Lfs with e| ⟨Ms,Ls,e⟩
  ·rw[e]at h;cases h
  ·rw[ao]at e;subst e;rw[c8,dq]at h;rw[kJ]at hq;obtain⟨q0,L,rfl,h0,hL,hd⟩:=yP hq;have ih:=A2w n (Lfs:=Ms) (by omega) (λLs h=>hn Ls (d9 _ h)) q0 h0;refine⟨Paired.snoc ih.p hL,?_⟩;rw[b9,f7];refine⟨ih.nd,?_,λa ha b hb e=> ?_⟩
   ·rw[cf];exact hn Ls (fc _ CQ) L hL
   ·rw[cf]at hb;have:=aa.mp hd b hb;rw[←e]at this;simp[ha]at this
theorem A08:∀(n:Nat){Lfs:List (List (List Pl))},Lfs.length=n->(∀Ls∈Lfs,Ls.Nodup)->(cE Lfs).Nodup
 |0,Lfs,h,_=>by
  have:Lfs=[]:=ay h;subst this;exact f9.mpr ⟨by simp,gg⟩
 |n+1,Lfs,h,hn=>by
  rcases a8 Lfs with e| ⟨Ms,Ls,e⟩
  ·rw[e]at h;cases h
  ·rw[ao]at e;subst e;rw[c8,dq]at h;rw[kJ];exact zY (hn Ls (fc _ CQ)) (A08 n (by omega) λLs h=>hn Ls (d9 _ h))
theorem zK:∀(n:Nat){Lfs:List (List (List Pl))},Lfs.length=n->(∀Ls∈Lfs,Ls.length<=64)->(cE Lfs).length<=64^n
 |0,Lfs,h,_=>by
  have:Lfs=[]:=ay h;subst this;exact CT _
 |n+1,Lfs,h,hn=>by
  rcases a8 Lfs with e| ⟨Ms,Ls,e⟩
  ·rw[e]at h;cases h
  ·rw[ao]at e;subst e;rw[c8,dq]at h;have ih:=zK n (Lfs:=Ms) (by omega) λLs h=>hn Ls (d9 _ h);rw[kJ];refine jd (tK _ _) ?_;rw[pow_succ,mul_comm (64^n)];exact jm (hn Ls (fc _ CQ)) ih
noncomputable abbrev kp (c:Pl):List Key:=[kr c.1,kr c.2]
noncomputable def ents (hs:List Int)(q:List (List Pl)):List (List Key×V):=(hs.zip q).flatMap λz=>z.2.map λc=>(kp c,V.int z.1)
noncomputable def own (hs:List Int)(q:List (List Pl))(c:Pl):Option Int:=((hs.zip q).find? λz=>decide (c∈z.2)).map (·.1)
theorem sD (h:kp c=kp d):c=d:=by injection h with h1 h2;injection h2 with h2 _;exact AH (uq h1) (uq h2)
theorem A8i (k:List Key):bW (l++m) k=(bW l k).or (bW m k):=by unfold bW;rw[List.find?_append];cases l.find? λkv=>decide (kv.1=k)<;>rfl
theorem B3m {L:List Pl}{h:Int}{c:Pl}:bW (L.map λc=>(kp c,V.int h)) (kp c)=if c∈L then some (.int h)else none:=by
 induction L with
 |nil=>rfl
 |cons d L ih=>
  rw[d6];by_cases e:d=c
  ·rw[lY (by rw[e]),if_pos (by rw[e];exact CQ)]
  ·rw[lV (λz=>e (sD z)),ih];by_cases hc:c∈L
   ·rw[if_pos hc,if_pos (CP _ hc)]
   ·rw[if_neg hc,if_neg (λz=>(fe.mp z).elim (λz=>e z.symm) hc)]
theorem uN:∀(hs:List Int)(q:List (List Pl))(c:Pl),bW (ents hs q) (kp c)=(own hs q c).map V.int
 | [],q,c=>by simp[ents,own,bW]
 |h::hs,[],c=>by simp[ents,own,bW]
 |h::hs,L::q,c=>by
  have ih:=uN hs q c;have e:ents (h::hs) (L::q)=(L.map λc=>(kp c,V.int h))++ents hs q:=rfl;rw[e,A8i,B3m,ih];unfold own;rw[iw];by_cases hc:c∈L
  ·rw[if_pos hc,b6 (by simpa using hc)];rfl
  ·rw[if_neg hc,bz (by simpa using hc)];rfl
theorem oV:∀(hs:List Int)(q:List (List Pl)),hs.length=q.length->(ents hs q).map (·.1)=q.flatten.map kp
 | [],[],_=>rfl
 | [],_::_,h=>by cases h
 |_::_,[],h=>by cases h
 |h::hs,L::q,hl=>by
  have ih:=oV hs q (by simpa using hl);have e:ents (h::hs) (L::q)=(L.map λc=>(kp c,V.int h))++ents hs q:=rfl;rw[e,dz,ih,cb,dz,d7];rfl
theorem A25 (h:hs.length=q.length):(ents hs q).length=q.flatten.length:=by
 have:=congrArg pk (oV hs q h)
 rwa [di,di]at this
theorem A24 (hl:hs.length=q.length):(own hs q c).isSome=decide (c∈q.flatten):=by
 have h1:=congrArg Option.isSome (uN hs q c);rw[Am]at h1;rw[←h1,←oS,k6,ah,decide_eq_true_eq];have hk:=oV hs q hl;constructor
 ·rintro⟨kv,hkv,e⟩;have e:=of_decide_eq_true e;have:kv.1∈(ents hs q).map (·.1):=fm.mpr ⟨kv,hkv,rfl⟩;rw[hk,e]at this;obtain⟨d,hd,ed⟩:=fm.mp this;rw[←sD ed];exact hd
 ·intro hc;have:kp c∈(ents hs q).map (·.1):=by rw[hk];exact fm.mpr ⟨c,hc,rfl⟩
  obtain⟨kv,hkv,e⟩:=fm.mp this;exact⟨kv,hkv,CM e⟩
theorem A59 {hs:List Int}{q:List (List Pl)}{h:Int}{L:List Pl}(hl:hs.length=q.length):ents (hs++[h]) (q++[L])=ents hs q++L.map λc=>(kp c,V.int h):=by unfold ents;rw[zip_append hl,List.flatMap_append];simp
noncomputable def eK (A:List Pl)(hs:List Int)(q:List (List Pl)):List Int:=A.map λc=>(own hs q c).getD 0
theorem wP {A L:List Pl}(hA:A.Nodup)(h:L.Sublist A):A.filter (λc=>decide (c∈L))=L:=by
 induction h with
 |slnil=>rfl
 |cons a h ih=>
  rw[f9]at hA;rw[bj (by simpa using λz=>hA.1 (h.subset z))];exact ih hA.2
 |cons_cons a h ih=>
  rename_i L A;rw[f9]at hA;rw[bo (by simp)]
  congr 1
  rw[←ih hA.2];refine bh λc hc=> ?_;rw[k6,decide_eq_true_eq,decide_eq_true_eq,ih hA.2];exact⟨λz=>(fe.mp z).elim (λe=>absurd hc (e▸hA.1)) id,λz=>CP _ z⟩
theorem A2u:∀{hs:List Int}{q:List (List Pl)}{c:Pl},hs.Nodup->q.flatten.Nodup->hs.length=q.length->∀{h:Int}{L:List Pl}{j:Nat},hs[j]?=some h->q[j]?=some L->(own hs q c=some h↔c∈L)
 | [],_,c,_,_,_,h,L,j,e1,_=>by simp at e1
 |h0::hs,[],c,_,_,hl,_,_,_,_,_=>by cases hl
 |h0::hs,L0::q,c,n1,n2,hl,h,L,j,e1,e2=>by
  rw[f9]at n1;rw[cb,f7]at n2;have Ao:hs.length=q.length:=by simpa using hl
  unfold own;rw[iw];cases j with
  |zero=>
   cases e1;cases e2;by_cases hc:c∈L0
   ·rw[b6 (by simpa using hc)];exact⟨λ_=>hc,λ_=>rfl⟩
   ·rw[bz (by simpa using hc)];refine⟨λz=> ?_,λz=>absurd z hc⟩;have hm:h0∈hs:=by
     cases e:(hs.zip q).find? λz=>decide (c∈z.2)with
     |none=>rw[e]at z;cases z
     |some y=>
      rw[e]at z;have:y.1=h0:=j7 z;rw[←this];exact(gj (Ai e)).1
    exact absurd hm n1.1
  |succ j=>
   have e1':hs[j]?=some h:=by simpa using e1
   have e2':q[j]?=some L:=by simpa using e2
   have hLq:∀c∈L,c∈q.flatten:=λc hc=>fi.mpr ⟨L,fq e2',hc⟩;by_cases hc:c∈L0
   ·rw[b6 (by simpa using hc)];refine⟨λz=> ?_,λz=>absurd rfl (n2.2.2 c hc c (hLq c z))⟩;have:h0=h:=j7 z;exact absurd (fq e1') (this▸n1.1)
   ·rw[bz (by simpa using hc)];exact A2u n1.2 n2.2.1 Ao e1' e2'
theorem A0p (f:Pl->Int):∀A:List Pl,A.zip (A.map f)=A.map λc=>(c,f c)
 | []=>rfl
 |c::A=>by rw[d6,iw,A0p f A];rfl
noncomputable def trip (C:List Pl)(CB:List Pl->Int)(hs:List Int)(q:List (List Pl)):Wy.Tr:=(Wy.mk C q.flatten,((q.map CB).sum,Wy.V4 C λc=>(own hs q c).getD 0))
theorem A3j (hl:hs.length=q.length)(h:Int)(L:List Pl)(c:Pl):own (hs++[h]) (q++[L]) c=(own hs q c).or (if c∈L then some h else none):=by
 unfold own;rw[zip_append hl,List.find?_append];cases (hs.zip q).find? λz=>decide (c∈z.2)with
 |some y=>rfl
 |none=>
  show Option.map (λx:Int×List Pl=>x.1) ([(h,L)].find? λz=>decide (c∈z.2))=if c∈L then some h else none
  by_cases e:c∈L
  ·rw[b6 (by simpa using e),if_pos e];rfl
  ·rw[bz (by simpa using e),if_neg e];rfl
theorem A55 (h:c∉q.flatten):own hs q c=none:=by unfold own;rw[b7.mpr λz hz=> ?_];rfl;have:=(gj hz).2;simpa using λy=>h (fi.mpr ⟨z.2,this,y⟩)
theorem xS {C L:List Pl}{q:List (List Pl)}(hL:∀c∈L,c∈C):C9 L q=true↔ ∀c∈C,¬(c∈q.flatten/\c∈L):=by
 unfold C9;rw[aa];constructor
 ·intro h c _ ⟨h1,h2⟩;have:=h c h2;rw[CM h1]at this;cases this
 ·intro h c hc;rw[CN λz=>h c (hL c hc) ⟨z,hc⟩];rfl
theorem A9j {C L:List Pl}{CB:List Pl->Int}{hs:List Int}{q:List (List Pl)}{h:Int}(hl:hs.length=q.length)(hL:∀c∈L,c∈C)(hd:C9 L q=true):trip C CB (hs++[h]) (q++[L])=Wy.tr h (Wy.mk C L,CB L) (trip C CB hs q):=by
 have hj:=(xS hL).mp hd;have e1:Wy.mk C (q++[L]).flatten=Wy.mk C q.flatten+Wy.mk C L:=by
  rw[b9,cf];exact Wy.mk_app hj
 have e2:((q++[L]).map CB).sum=(q.map CB).sum+CB L:=by rw[dz,ig];simp
 have e3:(Wy.V4 C λc=>(own (hs++[h]) (q++[L]) c).getD 0)=(Wy.V4 C λc=>(own hs q c).getD 0)+h*Wy.mk C L:=by
  unfold Wy.mk;rw[←Wy.V4_mul,←Wy.V4_add];refine Wy.V4_congr λc hc=> ?_;rw[A3j hl];unfold Wy.ind;by_cases z:c∈L
  ·rw[A55 λy=>hj c hc ⟨y,z⟩];simp[z]
  ·simp only[z,if_false];cases own hs q c<;>simp
 unfold trip Wy.tr;rw[e1,e2,e3]
structure Lfo (C:List Pl)(Lfs:List (List (List Pl))):Prop where
 sub:∀Ls∈Lfs,∀L∈Ls,L.Sublist C
theorem jM (hC:C.Nodup)(o:Lfo C Lfs)(hq:q∈cE Lfs):q.length=Lfs.length/\q.flatten.Nodup/\∀L∈q,L.Sublist C:=by have ln:=A2w _ rfl (λLs hLs L hL=>hC.sublist (o.sub Ls hLs L hL)) q hq;refine⟨Paired.length ln.p,ln.nd,λL hL=> ?_⟩;obtain⟨i,hi⟩:=fk.mp hL;obtain⟨Ls,hLs,hm⟩:=fU ln.p hi;exact o.sub Ls (fq hLs) L hm
theorem A3t {C:List Pl}{CB:List Pl->Int}{hs:List Int}{Lfs:List (List (List Pl))}{h:Int}{Ls:List (List Pl)}{M:List (Int×Wy.W)}(hC:C.Nodup)(o:Lfo C (Lfs++[Ls]))(hl:hs.length=Lfs.length)(r:Wy.Rep M ((cE Lfs).map (trip C CB hs))):Wy.Rep (Wy.more h M (Ls.map λL=>(Wy.mk C L,CB L))) ((cE (Lfs++[Ls])).map (trip C CB (hs++[h]))):=by
 have o1:Lfo C Lfs:=⟨λLs h=>o.sub Ls (d9 _ h)⟩;have hLs:=o.sub Ls (fc _ CQ);have:=Wy.rep_more (h:=h) (lands:=Ls.map λL=>(Wy.mk C L,CB L)) r;have e:((Ls.map λL=>(Wy.mk C L,CB L)).flatMap λl=>(((cE Lfs).map (trip C CB hs)).filter λt=>decide (mq t.1 l.1=0)).map (Wy.tr h l))=(cE (Lfs++[Ls])).map (trip C CB (hs++[h])):=by
  rw[kJ];unfold eZ;rw[List.flatMap_map,List.map_flatMap];have cg:∀(F G:List Pl->List Wy.Tr)(l:List (List Pl)),(∀x∈l,F x=G x)->l.flatMap F=l.flatMap G:=by
   intro F G l
   induction l with
   |nil=>intro _;rfl
   |cons x l ihl=>intro hx;rw[b8,b8,hx x CQ,ihl λy hy=>hx y (CP _ hy)]
  refine cg _ _ Ls λL hL=> ?_;have hLC:=(hLs L hL).subset;rw[bu,d7,d7];have ef:(cE Lfs).filter ((λt:Wy.Tr=>decide (mq t.1 (Wy.mk C L)=0))∘trip C CB hs)=(cE Lfs).filter (C9 L):=by
   refine bh λq _=> ?_;rw[k6];show decide (mq (Wy.mk C q.flatten) (Wy.mk C L)=0)=true↔_;rw[decide_eq_true_eq,Wy.mk_and,xS λc hc=>hLC hc]
  show((cE Lfs).filter ((λt:Wy.Tr=>decide (mq t.1 (Wy.mk C L)=0))∘trip C CB hs)).map _=_;rw[ef];refine d5 λq hq=> ?_;obtain⟨hq1,hq2⟩:=ff.mp hq;exact(A9j (hl.trans (jM hC o1 hq1).1.symm) (λc hc=>hLC hc) hq2).symm
 rw[e]at this;exact this
theorem A6d (C:List Pl)(CB:List Pl->Int):Wy.Rep [(0,(1,(0,0)))] ((cE []).map (trip C CB [])):=by
 have z:∀C:List Pl,(Wy.V4 C λ_=>0)=0:=by
  refine Wy.snoc_ind rfl λC c ih=> ?_;rw[Wy.V4_snoc,ih];rfl
 have e:(cE []).map (trip C CB [])=[(0,(0,0))]:=by
  show [trip C CB [] []]=_;unfold trip Wy.mk;have e1:Wy.V4 C (Wy.ind ([]:List (List Pl)).flatten)=0:=(Wy.V4_congr λc _=>by unfold Wy.ind;simp).trans (z C);rw[e1];show [((0:Int),((0:Int),Wy.V4 C λc=>(own [] [] c).getD 0))]=_;rw[show(Wy.V4 C λc=>(own [] [] c).getD 0)=0 from z C]
 rw[e];refine⟨f9.mpr ⟨by simp,gg⟩,λk hk t ht=> ?_,λk m cn hk=> ?_⟩
 ·rw[fy.mp ht];intro y;rw[Wy.look_cons,if_pos y]at hk;cases hk
 ·rw[Wy.look_cons]at hk;by_cases y:(0:Int)=k
  ·rw[if_pos y]at hk;have hk:=j7 hk;have h1:=congrArg BJ hk;have h2:=congrArg Prod.snd hk;simp only at h1 h2;subst y;rw[←h1,←h2];exact⟨rfl,CQ,λt ht _=>by rw[fy.mp ht];exact Wy.le2_refl _⟩
  ·rw[if_neg y]at hk;cases hk
theorem A5w {C:List Pl}{CB:List Pl->Int}{hs:List Int}{CS:List (List (List Pl))}{M:List (Int×Wy.W)}(h10:C.length<=10)(r:Wy.Rep M (CS.map (trip C CB hs))):lM (M.map (·.1)):=λk hk=>by
 cases e:Wy.look M k with
 |none=>exact absurd hk (Wy.look_none.mp e)
 |some x=>
  obtain⟨_,h2,_⟩:=r.yes k x.1 x.2 e;obtain⟨q,_,hq⟩:=fm.mp h2;have:k=Wy.mk C q.flatten:=(congrArg BJ hq).symm;rw[this];have h1:=Wy.mk_ran C q.flatten;have:=uQ h10;omega
noncomputable def eF (C:List Pl)(Lfs:List (List (List Pl))):List (List (List Pl)):=(cE Lfs).filter λq=>decide (q.flatten.length=C.length)
noncomputable def eO (CB:List Pl->Int)(q:List (List Pl)):Int:=(q.map CB).sum
structure B3x (P:j9)(w:kl)(H:Hp)(lc df dc:ju)(C:List Pl)(hs:List Int)(Fh:Int->List (List Pl))(CB:List Pl->Int):Prop where
 c:∃pc:List ju,H lc=some (.lst (pc.map V.ref))/\PlAt H pc C
 nd:C.Nodup
 l:C.length<=10
 f:FitD H df hs Fh
 n:hs.Nodup
 h:∀i∈hs,0<=i/\i<4
 o:Lfo C (hs.map Fh)
 z:∀i∈hs,(Fh i).length<=1024
 k:CostA P w H dc CB
noncomputable def pJ (P:j9)(w:kl):Sp:=λvs H Q _=> ∃lc df dc C hs Fh CB,vs=[.ref lc,.ref df,.ref dc]/\B3x P w H lc df dc C hs Fh CB/\
 (∀t H',H t=none->Sb df H H'->eF C (hs.map Fh)=[]->H' t=some (.tup [.int 0,.non])->Q (.ref t) H')/\
 ∀t b tk q0 H',H t=none->Sb df H H'->q0∈eF C (hs.map Fh)->H' t=some (.tup [.int ((eF C (hs.map Fh)).length:Nat),.ref b])->H' b=some (.tup [.int (eO CB q0),.ref tk])->H' tk=some (.tup ((eK C hs q0).map V.int))->(∀q∈eF C (hs.map Fh),HT.lexLt (eO CB q::eK C hs q) (eO CB q0::eK C hs q0)=false)->Q (.ref t) H'
noncomputable abbrev nWP:List Str:=["cells","fits","costs","ways","holder","whole","many","cost","number"]
theorem scWP:gD nWP ["cells","fits","costs"] (bB fZ):=by ac_rfl
theorem B3g:(["land","cells","costs"]:List Str).Nodup:=by decide +kernel
noncomputable abbrev XWP (P:j9)(w:kl)(K:W.Frag)(mg:Str->Option jt)(base:kj)(f:ju)(cdv:jt)(A:mh)(outer:List Env)(s:jw)(H0:Hp)(E:XK):Cx:=(fK CX0 P w K mg base nWP "ways_to_part" (bB fZ) f cdv A outer s H0 E).nox
noncomputable abbrev bWP:List mw:=fR ((dA fZ).getD 1 (.Pass ⟨0,0,0,0⟩))
section
variable {f:ju}{cdv:jt}{A:mh}{outer:List Env}{s:jw}{H0:Hp}{E:XK}
theorem B1j (hr:Room 2 (XWP P w K mg base f cdv A outer s H0 E).A)(aM:A1 P w K mg base 1 "marks_of" pN)(aO:A1 P w K mg base 2 "with_one_more" tZ):∃tt,CV (XWP P w K mg base f cdv A outer s H0 E) bWP tt/\
  ∀(D:dC)(o5 o6 o7 o8:Option V)(lc df dc dw:ju)(h:Int)(o:Obj)(kfs kvs:List (Key×V))(lf:ju)(qs pc:List ju)(C:List Pl)(Ls:List (List Pl))(CB:List Pl->Int)(M:List (Int×Wy.W))(H:Hp),H df=some (.frz o (.dK kfs))->bW kfs (kr h)=some (.ref lf)->H lf=some (.lst (qs.map V.ref))->LansAt H qs Ls->Ls.length<=1024->H lc=some (.lst (pc.map V.ref))->PlAt H pc C->C.length<=10->CostA P w H dc CB->H dw=some (.dK kvs)->WaysK H kvs M->(M.map (·.1)).Nodup->lM (M.map (·.1))->(0<=h/\h<4)->
   (∀dn kv2 H',H dn=none->Sb dw H H'->H' dn=some (.dK kv2)->WaysK H' kv2 (Wy.more h M (Ls.map λL=>(Wy.mk C L,CB L)))->D.nx [some (.ref lc),some (.ref df),some (.ref dc),some (.ref dn),some (.int h),o5,o6,o7,o8] H')->
   tt D [some (.ref lc),some (.ref df),some (.ref dc),some (.ref dw),some (.int h),o5,o6,o7,o8] H:=by
 have nd:=scWP.nd;have hu:=dI hr;refine⟨_,aR (bJ (i:=3) nd rfl (ng rfl) (aO.c hr (aD (pv 3) (aD (pv 4) (cY (bQ (bB fZ).names nWP ["land"] [("cells",0),("costs",2)] rfl (cR (tH (jg hu) (pv 1) (pv 4) (λ_ _=>rfl))) rfl rfl rfl (by decide +kernel)
   (λZ=>CZ 0 B3g) (λZ=>cF) (λZ=>bT (bM (aM.c hr (aD (pv 1) (aD (pv 0) aB))) (bM (B3t hu (pv 2) (pv 0) aU ⟨rfl,rfl,rfl,rfl⟩) aB)))) aB))))),?_⟩
 intro D o5 o6 o7 o8 lc df dc dw h o kfs kvs lf qs pc C Ls CB M H hfz hv elf hL hLl elc hPc h10 hco hdw hW hnd hsM hh k;refine⟨_,rfl,_,rfl,_,rfl,_,rfl,df,_,rfl,.inl ⟨kfs,kr h,.inr ⟨o,hfz⟩,rfl,hv.symm⟩,lf,rfl,⟨_,CW.of elf⟩,λZ l hl=> ?_⟩;have hql:qs.length=Ls.length:=Paired.length hL;refine eU (K:=K) (a:=lf) (xs:=qs.map V.ref) (λj σ H'=>(∃ol,σ=[ol,some (.ref lc),some (.ref dc)])/\Same H H'/\∃ls:List ju,H' l=some (.lst (ls.map V.ref))/\Paired (λa x=>H' a=some (.tup [.int x.1,.int x.2])) ls ((Ls.take j).map λL=>(Wy.mk C L,CB L)))
  ⟨⟨_,rfl⟩,aK hl,[],aG,.nil⟩ (λj σ H' _ h=>CW.of (h.2.1 _ _ elf)) ?_ ?_
 ·rintro j x σ H' hx ⟨⟨ol,rfl⟩,hs,ls,el,hLs⟩;obtain⟨t,htj,rfl⟩:=eY hx;obtain⟨L,hLj,hT⟩:=fU hL htj;have hj:j<Ls.length:=(CL.mp hLj).1;have hT':=C1.same hT hs;obtain⟨ps,et,hPs⟩:=id hT';refine iZ ?_;refine⟨_,rfl,_,rfl,lc,t,pc,ps,C,L,rfl,hs _ _ elc,hPc.same hs,h10,.inl et,hPs,?_⟩;refine⟨_,rfl,dc,CB,rfl,hco.same hs,_,rfl,t,L,rfl,rfl,hco.same hs,hT',by show 2<=jv;decide,λpt hpt=> ?_⟩;have u:=aK (o:=.tup [.int (Wy.mk C L),.int (CB L)]) hpt;have hll:ls.length=_:=Paired.length hLs;rw[di,du]at hll;have npl:pt≠l:=λz=>by rw[z,el]at hpt;cases hpt
  refine⟨_,u _ _ el,by rw[di,ko];omega,⟨_,rfl⟩,λb z e=> ?_,ls++[pt],by rw[aG,dz];rfl,?_⟩
  ·rw[aN (bG e hl)];exact u _ _ (hs _ _ e)
  ·have tp:∀b ys,H' b=some (.tup ys)->(upd (upd H' pt (.tup [.int (Wy.mk C L),.int (CB L)])) l (.lst (ls.map V.ref++[.ref pt]))) b=some (.tup ys):=λb ys z=>by
    rw[aN (λy=>by rw[y,el]at z;cases z)];exact u _ _ z
   rw[iu,hLj,dz];exact Paired.snoc (Paired.mapP hLs λ_ _ z=>tp _ _ z) (by rw[aN npl];exact aG)
 ·rintro σ H' ⟨_,hs,ls,el,hLs⟩;rw[di,hql,iq (CT _)]at hLs;refine⟨dw,h,l,kvs,M,_,rfl,hs _ _ hdw,hW.ext (λb ys z=>hs _ _ z),hnd,hsM,⟨ls,el,hLs⟩,λkk hk=> ?_,hh,λdn kv2 H2 hdn s2 ed hW2=> ?_⟩
  ·rw[d7]at hk;obtain⟨L,_,rfl⟩:=fm.mp hk;have h1:=Wy.mk_ran C L;have:=uQ h10;show 0<=Wy.mk C L/\Wy.mk C L<1048576;omega
  ·exact k dn kv2 H2 (hs.free hdn) (λb u n z=>s2 b u n (hs _ _ z)) ed hW2
end
theorem A3u {C:List Pl}{q:List (List Pl)}(hC:C.Nodup)(hn:q.flatten.Nodup)(hs:∀L∈q,L.Sublist C):Wy.mk C q.flatten=Wy.mk C C↔q.flatten.length=C.length:=by
 have hin:∀c∈q.flatten,c∈C:=λc hc=>by
  obtain⟨L,hL,h⟩:=fi.mp hc;exact(hs L hL).subset h
 rw[Wy.mk_whole];constructor
 ·intro h;have h1:=gE hC h;have h2:=gE hn hin;omega
 ·intro h c hc;by_cases z:c∈q.flatten
  ·exact z
  ·have:=gE (f9.mpr ⟨z,hn⟩) (λd hd=>(fe.mp hd).elim (λe=>e▸hc) (hin d));rw[c9]at this;omega
theorem A30 (e:own hs q c=some h):h∈hs:=by
 unfold own at e;cases ef:(hs.zip q).find? λz=>decide (c∈z.2)with
 |none=>rw[ef]at e;cases e
 |some y=>
  rw[ef]at e;have:y.1=h:=j7 e;rw[←this];exact(gj (Ai ef)).1
theorem pL (h4:∀i∈hs,0<=i/\i<4):Wy.Fig C λc=>(own hs q c).getD 0:=λc _=>by
 show 0<=(own hs q c).getD 0/\(own hs q c).getD 0<4;cases e:own hs q c with
 |none=>exact⟨(by decide:(0:Int)<=0),(by decide:(0:Int)<4)⟩
 |some h=>exact h4 h (A30 e)
theorem A61 (f:Pl->Int):Wy.V4 C f=Wy.V4 (kz C.length) λk=>f (C.getD k (0,0)):=by
 refine Wy.snoc_ind (P:=λC:List Pl=>Wy.V4 C f=Wy.V4 (kz C.length) λk=>f (C.getD k (0,0))) rfl (λC c ih=> ?_) C;rw[Wy.V4_snoc,c8,dq,gz,Wy.V4_snoc,ih]
 congr 1
 ·congr 1
  refine Wy.V4_congr λk hk=> ?_;have:=fw.mp hk;rw[cm,cm,cp this]
 ·simp
theorem B13 {C:List Pl}(f:Pl->Int):(kz C.length).map (λk=>f (C.getD k (0,0)))=C.map f:=by refine ba (by simp) λi h1 h2=> ?_;simp at h1;simp[h1]
end
section
variable {C:List Pl}{hs:List Int}{Lfs:List (List (List Pl))}{CB:List Pl->Int}{M:List (Int×Wy.W)}
theorem nB (hC:C.Nodup)(o:Lfo C Lfs):((cE Lfs).map (trip C CB hs)).filter (λt=>decide (t.1=Wy.mk C C))=(eF C Lfs).map (trip C CB hs):=by
 unfold eF;rw[bu]
 congr 1
 refine bh λq hq=> ?_;obtain⟨_,h2,h3⟩:=jM hC o hq;show decide (Wy.mk C q.flatten=Wy.mk C C)=_;exact decide_eq_decide.mpr (A3u hC h2 h3)
theorem B1t (hC:C.Nodup)(o:Lfo C Lfs)(r:Wy.Rep M ((cE Lfs).map (trip C CB hs)))(hl:Wy.look M (Wy.mk C C)=none):eF C Lfs=[]:=by
 have:(eF C Lfs).map (trip C CB hs)=[]:=by
  rw[←nB hC o];exact bp.mpr λt ht=>by simpa using r.no _ hl t ht
 exact List.map_eq_nil_iff.mp this
theorem A5o (hC:C.Nodup)(o:Lfo C Lfs)(h4:∀i∈hs,0<=i/\i<4)(r:Wy.Rep M ((cE Lfs).map (trip C CB hs)))(hl:Wy.look M (Wy.mk C C)=some (m,cn)):
  m=((eF C Lfs).length:Nat)/\∃q0∈eF C Lfs,cn=(eO CB q0,Wy.V4 C λc=>(own hs q0 c).getD 0)/\∀q∈eF C Lfs,HT.lexLt (eO CB q::eK C hs q) (eO CB q0::eK C hs q0)=false:=by
 obtain⟨h1,h2,h3⟩:=r.yes _ m cn hl;rw[nB hC o,di]at h1;have hm:(Wy.mk C C,cn)∈(eF C Lfs).map (trip C CB hs):=by
  rw[←nB hC o];exact ff.mpr ⟨h2,CM rfl⟩
 obtain⟨q0,hq0,e0⟩:=fm.mp hm;have ecn:cn=(eO CB q0,Wy.V4 C λc=>(own hs q0 c).getD 0):=(congrArg Prod.snd e0).symm;refine⟨h1,q0,hq0,ecn,λq hq=> ?_⟩;have hqm:trip C CB hs q∈((cE Lfs).map (trip C CB hs)).filter (λt=>decide (t.1=Wy.mk C C)):=by rw[nB hC o];exact fm.mpr ⟨q,hq,rfl⟩
 obtain⟨g1,g2⟩:=ff.mp hqm;have hle:=Wy.le2_iff.mp (h3 _ g1 (of_decide_eq_true g2));rw[ecn]at hle;have hle:¬(eO CB q<eO CB q0\/eO CB q=eO CB q0/\(Wy.V4 C λc=>(own hs q c).getD 0)<Wy.V4 C λc=>(own hs q0 c).getD 0):=hle;rw[HT.lexLt_cons];by_cases ec:eO CB q=eO CB q0
 ·rw[if_pos ec];cases e:HT.lexLt (eK C hs q) (eK C hs q0)with
  |false=>rfl
  |true=>exact absurd (.inr ⟨ec,(Wy.V4_lex (pL h4) (pL h4)).mp e⟩) hle
 ·rw[if_neg ec];exact CN λz=>hle (.inl z)
end
section
variable {P:j9}{w:kl}{K:W.Frag}{mg:Str->Option jt}{base:kj}
theorem B4w {f:ju}{cdv:jt}{A:mh}{outer:List Env}{s:jw}{H0:Hp}{E:XK}:PSq (XWP P w K mg base f cdv A outer s H0 E) ((dA fZ).getD 0 (.Pass ⟨0,0,0,0⟩)) (gY rO (cN 3)):=A5z scWP.nd rfl (ng rfl) B5c
theorem A7n (F:D1 K mg "ways_to_part" fZ ["cells","fits","costs"])(aM:A1 P w K mg base 1 "marks_of" pN)(aW:A1 P w K mg base 1 "parting_written" yT)(aO:A1 P w K mg base 2 "with_one_more" tZ):A1 P w K mg base 3 "ways_to_part" (pJ P w):=by
 refine F.k nWP ?_;ac_nf
 ·obtain⟨lc,df,dc,C,hs,Fh,CB,rfl,W,qn,qy⟩:=h;obtain⟨tb,hb,rb⟩:=B1j (P:=P) (w:=w) (K:=K) (mg:=mg) (base:=base) (f:=f) (cdv:=cdv) (A:=A) (outer:=outer) (s:=s) (H0:=H) (E:=E) hr aM aO;have h0:=B4w (P:=P) (w:=w) (K:=K) (mg:=mg) (base:=base) (f:=f) (cdv:=cdv) (A:=A) (outer:=outer) (s:=s) (H0:=H) (E:=E);have eb:dA fZ=(dA fZ).getD 0 (.Pass ⟨0,0,0,0⟩)::(dA fZ).drop 1:=rfl;rw[eb];generalize (dA fZ).getD 0 (.Pass ⟨0,0,0,0⟩)=s0 at h0⊢;have hu:=dI hr;refine⟨_,A78 h0<|
   aT (dF k9 rfl (A3c (pv 1)) (CZ 4 nd) hb)<|
   aT (bJ (i:=5) nd rfl (ng rfl) (aM.c hr (aD (pv 0) (aD (pv 0) aB))))<|
   aT (bV (A6x (A6g (jg hu) (pv 5) (pv 3)) rfl) (aR (aY (bT (dH aU (dH pD aB))))) bU)<|
   aT (cQ (tH (jg hu) (pv 3) (pv 5) (λ_ _=>rfl)) (bI rfl (aV (CZ 6 nd) (aV (bI rfl (aV (CZ 7 nd) (aV (CZ 8 nd) bH))) bH))))<|
   aR (aY (bT (aD (pv 6) (gI (bT (aD (pv 7) (bM (aW.c hr (aD (pv 0) (aD (pv 8) aB))) aB))) aB)))),?_⟩
  intro dw0 a0 b0 H1 hdw0 s1 e1 e2 e3;obtain⟨pc,elc,hPc⟩:=W.c;obtain⟨ls,edf,hPf⟩:=W.f;refine⟨_,rfl,df,_,rfl,s1 _ _ edf,λo=> ?_⟩;have hkl:hs.length=ls.length:=Paired.length hPf;have ndf:dw0≠df:=λz=>by rw[z,edf]at hdw0;cases hdw0
  generalize hkf:((hs.zip ls).map λz=>((kr z.1:Key),V.ref z.2))=kfs at*;have hkfl:kfs.length=hs.length:=by rw[←hkf,di,length_zip];omega
  have s2:Sb df H (upd H1 df (.frz o (.dK kfs))):=λb u n z=>by rw[aN n];exact s1 _ _ z
  have efz:(upd H1 df (.frz o (.dK kfs))) df=some (.frz o (.dK kfs)):=aG;have nt:∀{b:ju}{u:HO},H1 b=some u->u≠ .dK kfs->(upd H1 df (.frz o (.dK kfs))) b=some u:=fun{b u} z n=>by rw[aN (λy=>by rw[y,s1 _ _ edf]at z;exact n (j7 z).symm)];exact z
  have f1:(upd H1 df (.frz o (.dK kfs))) dw0=some (.dK [(kr 0,.ref a0)]):=by rw[aN ndf];exact e1
  have f2:=nt e2 (by intro z;cases z);have f3:=nt e3 (by intro z;cases z);generalize upd H1 df (.frz o (.dK kfs))=H2 at s2 efz f1 f2 f3⊢;have up:∀{H':Hp}{b:ju}{u:HO},Sb df H H'->u≠ .dK kfs->H b=some u->H' b=some u:=fun{H' b u} sb n z=>sb _ _ (λy=>by rw[y,edf]at z;exact n (j7 z).symm) z;have pl:∀{H':Hp},Sb df H H'->PlAt H' pc C:=λsb=>Paired.mapP hPc λ_ _ z=>up sb (by intro z;cases z) z;have sq:∀{H':Hp}{t:ju}{L:List Pl},Sb df H H'->C1 H t L->C1 H' t L:=λsb ⟨ps,h1,h2⟩=> ⟨ps,up sb (by intro z;cases z) h1,Paired.mapP h2 λ_ _ z=>up sb (by intro z;cases z) z⟩;have co:∀{H':Hp},Sb df H H'->CostA P w H' dc CB:=λsb=>by
   obtain⟨xs,c⟩:=W.k;exact⟨xs,up sb (by intro z;cases z) c.e,λx hx=>(by obtain⟨L,e,h⟩:=c.k x hx;exact⟨L,e,sq sb h⟩),c.nd,c.v⟩
  have hnk:(kfs.map (·.1)).Nodup:=by
   rw[←hkf,d7];have:((λkv:Key×V=>kv.1)∘λz:Int×ju=>((kr z.1:Key),V.ref z.2))=(kr:Int->Key)∘BJ:=rfl;rw[this,←d7,List.map_fst_zip (ja hkl),gc,gv];exact(gc.mp W.n).imp fun{a b} z e=>z (uq e)
  have oL:∀j,Lfo C ((hs.take j).map Fh):=λj=> ⟨λLs h=>W.o.sub Ls (by
   obtain⟨i,hi,rfl⟩:=fm.mp h;exact fm.mpr ⟨i,fu hi,rfl⟩)⟩
  refine A2g (d:=df) (o:=o) (kvs:=kfs) (λj σ H'=>Sb df H H'/\H' df=some (.frz o (.dK kfs))/\∃dw kvs M,(∃o4 o5 o6 o7 o8,σ=[some (.ref lc),some (.ref df),some (.ref dc),some (.ref dw),o4,o5,o6,o7,o8])/\H dw=none/\H' dw=some (.dK kvs)/\WaysK H' kvs M/\Wy.Rep M ((cE ((hs.take j).map Fh)).map (trip C CB (hs.take j))))
   ⟨s2,efz,dw0,_,_,⟨_,_,_,_,_,rfl⟩,hdw0,f1,.cons ⟨rfl,a0,b0,rfl,f2,f3⟩ .nil,A6d C CB⟩ (λj σ H' h=>h.2.1) ?_ ?_
  ·rintro j kk x σ H' hx ⟨sb,ef,dw,kvs,M,⟨o4,o5,o6,o7,o8,rfl⟩,hdw,ed,hW,rM⟩;have hx':=hx;rw[←hkf,cy]at hx';cases hz:(hs.zip ls)[j]? with
   |none=>rw[hz]at hx';cases hx'
   |some z=>
    rw[hz]at hx';cases hx';obtain⟨z1,z2⟩:=su.mp hz;obtain⟨lf,hlf,qs,elf,hL⟩:=fU hPf z1;have elz:z.2=lf:=j7 (z2.symm.trans hlf);have hm:z.1∈hs:=fq z1;have hj:j<hs.length:=(CL.mp z1).1;have et:hs.take (j+1)=hs.take j++[z.1]:=by rw[iu,z1];rfl
    have hv:=vS hnk hx;rw[elz]at hv;have ndw:dw≠df:=λy=>by rw[y,edf]at hdw;cases hdw
    refine rb _ o5 o6 o7 o8 lc df dc dw z.1 o kfs kvs lf qs pc C (Fh z.1) CB M H' ef hv (up sb (by intro z;cases z) elf) (Paired.mapP hL λ_ _ h=>sq sb h) (W.z _ hm) (up sb (by intro z;cases z) elc) (pl sb) W.l (co sb) ed hW rM.nd (A5w W.l rM) (W.h _ hm) λdn kv2 H3 hdn s3 e3 hW3=> ?_;refine⟨λb u n y=>s3 b u (λy2=>by rw[y2,hdw]at y;cases y) (sb b u n y),s3 _ _ (Ne.symm ndw) ef,dn,kv2,_,⟨_,_,_,_,_,rfl⟩,?_,e3,hW3,?_⟩
    ·cases hh:H dn with
     |none=>rfl
     |some u=>
      by_cases y:dn=df
      ·rw[y,ef]at hdn;cases hdn
      ·rw[sb _ _ y hh]at hdn;cases hdn
    ·rw[et,dz];have oL':=oL (j+1);rw[et,dz]at oL';exact A3t W.nd oL' (by rw[di]) rM
  ·rintro σ H' ⟨sb,ef,dw,kvs,M,⟨o4,o5,o6,o7,o8,rfl⟩,hdw,ed,hW,rM⟩;rw[hkfl,iq (CT _)]at rM;have o1:Lfo C (hs.map Fh):=W.o;refine⟨_,rfl,_,rfl,lc,lc,pc,pc,C,C,rfl,up sb (by intro z;cases z) elc,pl sb,W.l,.inr (up sb (by intro z;cases z) elc),pl sb,?_⟩;refine⟨_,rfl,_,rfl,dw,_,rfl,DGet.k (k:=kr (Wy.mk C C)) ed,_,rfl,?_⟩;obtain⟨w1,w2⟩:=hW.val (Wy.mk C C);cases hl:Wy.look M (Wy.mk C C)with
   |none=>
    rw[w1 hl];refine fY ⟨by show 2<=jv;decide,λt ht=> ?_⟩;have u:=aK (o:=.tup [.int 0,.non]) ht;have ht0:H t=none:=by
     cases hh:H t with
     |none=>rfl
     |some u=>
      by_cases y:t=df
      ·rw[y,ef]at ht;cases ht
      ·rw[sb _ _ y hh]at ht;cases ht
    exact qn t _ ht0 (λb z n y=>u _ _ (sb b z n y)) (B1t W.nd o1 rM hl) aG
   |some x=>
    obtain⟨v,ev,a,b,rfl,ea,eb'⟩:=w2 x hl;rw[ev];refine bY ?_;obtain⟨m1,q0,hq0,hcn,hmin⟩:=A5o W.nd o1 W.h rM (m:=x.1) (cn:=x.2) hl;refine⟨_,rfl,_,rfl,dw,_,rfl,(by rw[←ev];exact DGet.k (k:=kr (Wy.mk C C)) ed),a,_,rfl,CY.of ea,rfl,_,_,rfl,_,_,rfl,b,_,rfl,CY.of eb',rfl,_,_,rfl,_,_,rfl,rfl,rfl,?_⟩;have ex2:x.2.2=Wy.V4 (kz C.length) λk=>(own hs q0 (C.getD k (0,0))).getD 0:=by rw[hcn];exact A61 _
    have hfig:Wy.Fig (kz C.length) λk=>(own hs q0 (C.getD k (0,0))).getD 0:=λk _=>pL (C:=[C.getD k (0,0)]) W.h _ CQ;refine⟨_,rfl,_,rfl,_,rfl,_,rfl,lc,pc,(λk=>(own hs q0 (C.getD k (0,0))).getD 0),C.length,(by rw[ex2];rfl),up sb (by intro z;cases z) elc,Paired.length hPc,W.l,hfig,λtk H3 htk s3 etk=> ?_⟩;rw[B13 λc=>(own hs q0 c).getD 0]at etk;refine⟨by show 2<=jv;decide,λb2 hb2=> ?_⟩;have u2:=aK (o:=.tup [.int x.2.1,.ref tk]) hb2;refine⟨by show 2<=jv;decide,λt ht=> ?_⟩;have u3:=aK (o:=.tup [.int x.1,.ref b2]) ht;have sA:=s3.trans (u2.trans u3);have ht0:H t=none:=by
     have ht1:=(s3.trans u2).free ht;cases hh:H t with
     |none=>rfl
     |some u=>
      by_cases y:t=df
      ·rw[y,ef]at ht1;cases ht1
      ·rw[sb _ _ y hh]at ht1;cases ht1
    refine qy t b2 tk q0 _ ht0 (λb z n y=>sA _ _ (sb b z n y)) hq0 ?_ ?_ (u3 _ _ (u2 _ _ etk)) hmin
    ·rw[aG,m1]
    ·rw[u3 _ _ aG,hcn]
structure FwIn (H:Hp)(lc df:ju)(C:List Pl)(hs:List Int)(Fh:Int->List (List Pl)):Prop where
 c:∃pc:List ju,H lc=some (.lst (pc.map V.ref))/\PlAt H pc C
 nd:C.Nodup
 l:C.length<=10
 f:FitD H df hs Fh
 n:hs.Nodup
 h:∀i∈hs,0<=i/\i<4
 o:Lfo C (hs.map Fh)
 z:∀i∈hs,(Fh i).length<=1024
theorem FitD.same (h:FitD H d hs Fh)(s:Same H H'):FitD H' d hs Fh:=let ⟨ls,h1,h2⟩:=h;⟨ls,s _ _ h1,Paired.mapP h2 λ_ _ ⟨qs,e,l⟩=> ⟨qs,s _ _ e,l.ext s.ext⟩⟩
theorem FwIn.same (x:FwIn H lc df C hs Fh)(s:Same H H'):FwIn H' lc df C hs Fh:=⟨let ⟨pc,e,h⟩:=x.c;⟨pc,s _ _ e,h.same s⟩,x.nd,x.l,x.f.same s,x.n,x.h,x.o,x.z⟩
noncomputable def Ps (C:List Pl)(hs:List Int)(Fh:Int->List (List Pl)):List (List Int):=(eF C (hs.map Fh)).map (eK C hs)
theorem yQ (q:List (List Pl)):eO (λ_=>0) q=0:=by
 unfold eO
 induction q with
 |nil=>rfl
 |cons L q ih=>rw[d6,il,ih];rfl
noncomputable def sS (R:List (List Int))(Q:VK)(Sm:Hp->Prop):Prop:=(R=[]->∀H',Sm H'->Q .non H')/\∀t ks H',Sm H'->H' t=some (.tup ((ks:List Int).map V.int))->ks∈R->(∀k∈R,HT.lexLt k ks=false)->Q (.ref t) H'
noncomputable def A0q:Sp:=λvs H Q _=> ∃lc df C hs Fh,vs=[.ref lc,.ref df]/\FwIn H lc df C hs Fh/\sS (Ps C hs Fh) Q (Sb df H)
noncomputable def PsP (g:bE)(cs:List Int)(cl:List C3)(od:Int):List (List Int):=Ps (aQ pos g) (C7 cl) (bO g cs cl od)
noncomputable def uA:Sp:=λvs H Q _=> ∃p g w cs cl od,vs=[.ref p]/\PleA H p g w cs cl od/\sS (PsP g cs cl od) Q (Same H)
noncomputable def uZ:Sp:=λvs H Q _=> ∃p g w cs cl od,vs=[.ref p]/\PleA H p g w cs cl od/\∀H',Same H H'->Q (.int ((PsP g cs cl od).length:Nat)) H'
theorem A5e (h:i∈C7 cl):0<=i/\i<4:=by obtain⟨k,hk,rfl⟩:=fm.mp h;have:=(mem_mem4.mp hk).1;omega
end
theorem A1o (D:PleA H p g w cs cl od)(elc:H lc=some (.lst (pc.map V.ref)))(hPc:PlAt H pc (aQ pos g))(hF:FitD H df (C7 cl) (bO g cs cl od)):FwIn H lc df (aQ pos g) (C7 cl) (bO g cs cl od):=
 ⟨⟨pc,elc,hPc⟩,iL g,by rw[eD];have:=D.c6;omega,hF,rC cl,λi h=>A5e h,⟨λLs h L hL=>by
  obtain⟨i,_,rfl⟩:=fm.mp h;exact gG (ff.mp (ff.mp hL).1).1⟩,λi _=>jd (jd (dh _ _) (dh _ _)) (jd (lX D.c6) (by decide))⟩
section
variable {P:j9}{w:kl}{K:W.Frag}{mg:Str->Option jt}{base:kj}
theorem A6q (F:D1 K mg "first_way" zC ["cells","fits"])(aP:A1 P w K mg base 3 "ways_to_part" (pJ P w)):A1 P w K mg base 4 "first_way" A0q:=by
 refine F.k ["cells","fits","many","first","cost","parting"] ?_;ac_nf
 ·obtain⟨lc,df,C,hs,Fh,rfl,W,q1,q2⟩:=h;refine⟨_,aT (cQ (aP.c hr (aD (pv 0) (aD (pv 1) (pV zO aB)))) (bI rfl (aV (CZ 2 nd) (aV (CZ 3 nd) bH))))<|
   aT (bV (cB B11 (pv 3) pD (nomark _)) (aR (aY pD)) bU)<|
   aT (cQ (pv 3) (bI rfl (aV (CZ 4 nd) (aV (CZ 5 nd) bH))))<|
   aR (aY (pv 5)),?_⟩
  refine⟨_,rfl,_,rfl,λdc hdc=> ?_⟩;have u:=aK (o:=nO P w dc []) hdc;have W1:=W.same u;obtain⟨ls,edf,_⟩:=id W.f;refine⟨lc,df,dc,C,hs,Fh,_,rfl,⟨W1.c,W1.nd,W1.l,W1.f,W1.n,W1.h,W1.o,W1.z,xD⟩,λt H' ht sb hf et=> ?_,λt b tk q0 H' ht sb hq et eb ek hm=> ?_⟩
  ·have sb':Sb df H H':=λb z n y=>sb b z n (u _ _ y);refine⟨t,_,rfl,CY.of et,rfl,_,_,rfl,_,_,rfl,rfl,_,rfl,rfl,_,rfl,fY ?_⟩;exact q1 (by unfold Ps;rw[hf];rfl) H' sb'
  ·have sb':Sb df H H':=λb z n y=>sb b z n (u _ _ y);refine⟨t,_,rfl,CY.of et,rfl,_,_,rfl,_,_,rfl,rfl,_,rfl,rfl,_,rfl,bY ?_⟩;refine⟨_,rfl,b,_,rfl,CY.of eb,rfl,_,_,rfl,_,_,rfl,rfl,_,rfl,q2 tk _ H' sb' ek (fm.mpr ⟨q0,hq,rfl⟩) λk hk=> ?_⟩;obtain⟨q',hq',rfl⟩:=fm.mp hk;have:=hm q' hq';rw[yQ,yQ,HT.lexLt_cons,if_pos rfl]at this;exact this
theorem B4q (F:D1 K mg "first_parting" wO ["plea"])(aA:A1 P w K mg base 11 "fits_of_all" uR)(aC:A1 P w K mg base 6 "cells_of" (eT pos))(aW:A1 P w K mg base 4 "first_way" A0q):A1 P w K mg base 12 "first_parting" uA:=by
 refine F.k ["plea","fits"] ?_;ac_nf
 ·obtain⟨p,g,w',cs,cl,od,rfl,D,q1,q2⟩:=h;refine⟨_,aT (bJ (i:=1) nd rfl (ng rfl) (aA.c hr (aD (pv 0) aB)))<|
   aR (aY (aW.c hr (bM (aC.c hr (fE (bK cD (pv 0) aU (λ_ _=>rfl)) aB)) (aD (pv 1) aB)))),?_⟩
  refine⟨_,rfl,p,g,w',cs,cl,od,rfl,D,λdf H1 hdf s1 hF=> ?_⟩;have D1:=D.same s1;obtain⟨m,c,a,hp,hm,hc,ha⟩:=D1.ex;refine⟨_,rfl,p,_,0,_,rfl,rfl,CY.of hp,rfl,m,g,w',rfl,hm,D.G,λH2 lc pc hlc s2 elc hPc=> ?_⟩;have sb:∀{H':Hp},Sb df H2 H'->Same H H':=λsb b u e=>sb b u (bG e hdf) (s2 _ _ (s1 _ _ e));exact⟨_,rfl,lc,df,_,_,_,rfl,A1o (D1.same s2) elc hPc (hF.same s2),λe H' h=>q1 e H' (sb h),λt ks H' h=>q2 t ks H' (sb h)⟩
theorem B0m (F:D1 K mg "many_partings" A0r ["plea"])(aA:A1 P w K mg base 11 "fits_of_all" uR)(aC:A1 P w K mg base 6 "cells_of" (eT pos))(aP:A1 P w K mg base 3 "ways_to_part" (pJ P w)):A1 P w K mg base 12 "many_partings" uZ:=by
 refine F.k ["plea","fits","many","first"] ?_;ac_nf
 ·obtain⟨p,g,w',cs,cl,od,rfl,D,q⟩:=h;refine⟨_,aT (bJ (i:=1) nd rfl (ng rfl) (aA.c hr (aD (pv 0) aB)))<|
   aT (cQ (aP.c hr (bM (aC.c hr (fE (bK cD (pv 0) aU (λ_ _=>rfl)) aB)) (aD (pv 1) (pV zO aB)))) (bI rfl (aV (CZ 2 nd) (aV (CZ 3 nd) bH))))<|
   aR (aY (pv 2)),?_⟩
  refine⟨_,rfl,p,g,w',cs,cl,od,rfl,D,λdf H1 hdf s1 hF=> ?_⟩;have D1:=D.same s1;obtain⟨m,c,a,hp,hm,hc,ha⟩:=D1.ex;refine⟨_,rfl,p,_,0,_,rfl,rfl,CY.of hp,rfl,m,g,w',rfl,hm,D.G,λH2 lc pc hlc s2 elc hPc=> ?_⟩;refine⟨_,rfl,λdc hdc=> ?_⟩;have u:=aK (o:=nO P w dc []) hdc;have W1:=(A1o (D1.same s2) elc hPc (hF.same s2)).same u;have sb:∀{H':Hp},Sb df (upd H2 dc (nO P w dc [])) H'->Same H H':=λsb b u' e=>sb b u' (bG e hdf) (u _ _ (s2 _ _ (s1 _ _ e)));refine⟨lc,df,dc,_,_,_,_,rfl,⟨W1.c,W1.nd,W1.l,W1.f,W1.n,W1.h,W1.o,W1.z,xD⟩,λt H' ht h hf et=> ?_,λt b tk q0 H' ht h hq et eb ek hm=> ?_⟩
  ·refine⟨t,_,rfl,CY.of et,rfl,_,_,rfl,_,_,rfl,rfl,_,rfl,?_⟩;have:=q H' (sb h);unfold PsP Ps at this;rw[di,hf]at this;exact this
  ·refine⟨t,_,rfl,CY.of et,rfl,_,_,rfl,_,_,rfl,rfl,_,rfl,?_⟩;have:=q H' (sb h);unfold PsP Ps at this;rw[di]at this;exact this
noncomputable def Dc (C:List Pl)(q:List (List Pl)):List Pl:=C.filter λc=> !decide (c∈q.flatten)
noncomputable def fJ (Ls:List (List Pl))(cs:List (List (List Pl))):List (List (List Pl)):=cs.flatMap λq=>(Ls.filter λL=>C9 L q).map λL=>q++[L]
noncomputable def dU (Lfs:List (List (List Pl))):List (List (List Pl)):=Lfs.foldl (λcs Ls=>fJ Ls cs) [[]]
theorem A2b (Lfs:List (List (List Pl)))(Ls:List (List Pl)):dU (Lfs++[Ls])=fJ Ls (dU Lfs):=by unfold dU;rw[cj];rfl
theorem oM (p:α->Bool)(f:α->β):∀l:List α,(l.filter p).map f=l.flatMap λx=>if p x=true then [f x]else []
 | []=>rfl
 |x::l=>by
  rw[b8,←oM p f l];by_cases h:p x=true
  ·rw[bo h,if_pos h];rfl
  ·rw[bj h,if_neg h];rfl
theorem pE:∀{l:List α},(∀x∈l,F x=G x)->l.flatMap F=l.flatMap G
 | [],_=>rfl
 |x::l,h=>by rw[b8,b8,h x CQ,pE λy hy=>h y (CP _ hy)]
theorem yJ {F G:α->List β}:∀{l:List α},(∀x∈l,(F x).Perm (G x))->(l.flatMap F).Perm (l.flatMap G)
 | [],_=> .refl _
 |x::l,h=>m7.append (h x CQ) (yJ λy hy=>h y (CP _ hy))
theorem A11:∀{l:List α},l.Nodup->(∀y∈l,p y=true↔y=x)->(x∈l->l.filter p=[x])/\(x∉l->l.filter p=[])
 | [],_,_=> ⟨λh=>(by cases h),λ_=>rfl⟩
 |y::l,nd,h=>by
  rw[f9]at nd;have ih:=A11 nd.2 λz hz=>h z (CP _ hz);by_cases e:p y=true
  ·have e':=(h y CQ).mp e;subst e';exact⟨λ_=>by rw[bo e,ih.2 nd.1],λz=>absurd CQ z⟩
  ·have ne:¬y=x:=λz=>e ((h y CQ).mpr z);rw[bj e];exact⟨λz=>ih.1 ((fe.mp z).elim (λz=>absurd z.symm ne) id),λz=>ih.2 λw=>z (CP _ w)⟩
theorem sR (Ls:List (List Pl))(cs:List (List (List Pl))):(fJ Ls cs).Perm (eZ Ls cs):=by
 have e1:fJ Ls cs=cs.flatMap λq=>Ls.flatMap λL=>if C9 L q=true then [q++[L]]else []:=pE λq _=>oM _ _ Ls
 have e2:eZ Ls cs=Ls.flatMap λL=>cs.flatMap λq=>if C9 L q=true then [q++[L]]else []:=pE λL _=>oM _ _ cs
 rw[e1,e2];exact Wy.flat_swap _ cs Ls
theorem A18 {Ls:List (List Pl)}{cs ds:List (List (List Pl))}(h:cs.Perm ds):(eZ Ls cs).Perm (eZ Ls ds):=yJ λL _=>(h.filter _).map _
theorem lJ (Lfs:List (List (List Pl))):(dU Lfs).Perm (cE Lfs):=by refine Wy.snoc_ind (P:=λLfs=>(dU Lfs).Perm (cE Lfs)) (.refl _) (λLfs Ls ih=> ?_) Lfs;rw[A2b,kJ];exact(sR Ls _).trans (A18 ih)
theorem yE (hC:C.Nodup)(hn:q.flatten.Nodup)(hs:∀L∈q,L.Sublist C):(Dc C q).length+q.flatten.length=C.length:=by
 have hin:∀c∈q.flatten,c∈C:=λc hc=>by
  obtain⟨L,hL,h⟩:=fi.mp hc;exact(hs L hL).subset h
 have h1:(C.filter λc=>decide (c∈q.flatten)).length=q.flatten.length:=by
  refine Nat.le_antisymm (gE (hC.sublist bw) λc hc=>of_decide_eq_true (ff.mp hc).2) (gE hn λc hc=>ff.mpr ⟨hin c hc,CM hc⟩)
 have h2:=(A3 (λc=>decide (c∈q.flatten)) C).length_eq;rw[c8,h1]at h2;unfold Dc;omega
theorem A7x {C L:List Pl}{q:List (List Pl)}(hC:C.Nodup)(hn:q.flatten.Nodup)(hs:∀L∈q,L.Sublist C)(hL:L.Sublist C):(C9 L q&&decide ((q++[L]).flatten.length=C.length))=true↔L=Dc C q:=by
 have hl:=yE hC hn hs;have el:(q++[L]).flatten.length=q.flatten.length+L.length:=by rw[b9,cf,c8]
 rw[pe,decide_eq_true_eq,el];constructor
 ·rintro⟨h1,h2⟩;have hsub:∀c∈L,c∈Dc C q:=λc hc=>by
   have:=aa.mp h1 c hc;exact ff.mpr ⟨hL.subset hc,this⟩
  have hback:∀c∈Dc C q,c∈L:=λc hc=>by
   by_cases z:c∈L
   ·exact z
   ·have:=gE (f9.mpr ⟨z,hC.sublist hL⟩) (ys:=Dc C q) (λd hd=>(fe.mp hd).elim (λe=>e▸hc) (hsub d));rw[c9]at this;omega
  rw[←wP hC hL];unfold Dc;refine bh λc hc=> ?_;rw[k6,decide_eq_true_eq];exact⟨λz=>(ff.mp (hsub c z)).2,λz=>hback c (ff.mpr ⟨hc,z⟩)⟩
 ·rintro rfl;refine⟨aa.mpr λc hc=>(ff.mp hc).2,by omega⟩
theorem A0k (p:β->Bool)(f:α->List β):∀l:List α,(l.flatMap f).filter p=l.flatMap λx=>(f x).filter p
 | []=>rfl
 |x::l=>by rw[b8,bg,A0k p f l,b8]
theorem A4t (hC:C.Nodup)(o:Lfo C (Lfs++[Ls]))(hLs:Ls.Nodup):(eF C (Lfs++[Ls])).Perm (((dU Lfs).filter λq=>decide (Dc C q∈Ls)).map λq=>q++[Dc C q]):=by
 have o1:Lfo C Lfs:=⟨λLs h=>o.sub Ls (d9 _ h)⟩;have hsL:=o.sub Ls (fc _ CQ);unfold eF;rw[kJ];have hp:(eZ Ls (cE Lfs)).Perm (fJ Ls (dU Lfs)):=(A18 (lJ Lfs)).symm.trans (sR Ls _).symm;refine(hp.filter _).trans ?_
 ·have e:(fJ Ls (dU Lfs)).filter (λq=>decide (q.flatten.length=C.length))=((dU Lfs).filter λq=>decide (Dc C q∈Ls)).map λq=>q++[Dc C q]:=by
   rw[oM];unfold fJ;rw[A0k];refine pE λq hq=> ?_;obtain⟨_,h2,h3⟩:=jM hC o1 ((lJ Lfs).mem_iff.mp hq);rw[bu,br];have ef:=A11 (p:=λL=>((λq:List (List Pl)=>decide (q.flatten.length=C.length))∘λL=>q++[L]) L&&C9 L q) (x:=Dc C q) hLs λL hL=>by
    rw[B5];exact A7x hC h2 h3 (hsL L hL)
   by_cases z:Dc C q∈Ls
   ·rw[ef.1 z,if_pos (CM z)];rfl
   ·rw[ef.2 z,if_neg (by simpa using z)];rfl
  rw[e]
theorem B3w (hl:hs.length=q.length):eK C (hs++[h]) (q++[Dc C q])=C.map λc=>(own hs q c).getD h:=by
 unfold eK;refine d5 λc hc=> ?_;rw[A3j hl];cases e:own hs q c with
 |some y=>rfl
 |none=>
  have hi:=A24 (c:=c) hl;rw[e]at hi;have hn:c∉q.flatten:=of_decide_eq_false hi.symm;have:c∈Dc C q:=ff.mpr ⟨hc,by rw[CN hn];rfl⟩;rw[if_pos this];rfl
theorem A71 (hC:C.Nodup)(o:Lfo C ((hs++[h]).map Fh))(hLs:(Fh h).Nodup):(Ps C (hs++[h]) Fh).Perm (((dU (hs.map Fh)).filter λq=>decide (Dc C q∈Fh h)).map λq=>C.map λc=>(own hs q c).getD h):=by
 unfold Ps;rw[dz]at o⊢;have o1:Lfo C (hs.map Fh):=⟨λLs h=>o.sub Ls (d9 _ h)⟩;refine((A4t hC o hLs).map _).trans ?_;rw[d7];have e:((dU (hs.map Fh)).filter λq=>decide (Dc C q∈Fh h)).map (eK C (hs++[h])∘λq=>q++[Dc C q])=((dU (hs.map Fh)).filter λq=>decide (Dc C q∈Fh h)).map λq=>C.map λc=>(own hs q c).getD h:=by
  refine d5 λq hq=> ?_;have:=(jM hC o1 ((lJ _).mem_iff.mp (ff.mp hq).1)).1;rw[di]at this;exact B3w this.symm
 rw[e]
noncomputable def nP (C:List Pl)(ks:List Int)(h:Int):List Pl:=((C.zip ks).filter λz=>decide (z.2=h)).map (·.1)
theorem B5q {C:List Pl}{hs:List Int}{q:List (List Pl)}(hA:C.Nodup)(hn:hs.Nodup)(nd:q.flatten.Nodup)(hl:hs.length=q.length)(hsub:∀L∈q,L.Sublist C)(hall:q.flatten.length=C.length):q=hs.map (nP C (eK C hs q)):=by
 have hin:∀c∈C,c∈q.flatten:=by
  have B3:∀c∈q.flatten,c∈C:=λc hc=>by
   obtain⟨L,hL,h⟩:=fi.mp hc;exact(hsub L hL).subset h
  intro c hc;by_cases z:c∈q.flatten
  ·exact z
  ·have:=gE (f9.mpr ⟨z,nd⟩) (λd hd=>(fe.mp hd).elim (λe=>e▸hc) (B3 d));rw[c9]at this;omega
 have key:∀(j:Nat)(h:Int)(L:List Pl),hs[j]?=some h->q[j]?=some L->nP C (eK C hs q) h=L:=λj h L e1 e2=>by
  unfold nP eK;rw[A0p,bu,d7];have ef:(filter ((λz:Pl×Int=>decide (z.2=h))∘λc=>(c,(own hs q c).getD 0)) C)=C.filter λc=>decide (c∈L):=by
   refine bh λc hc=> ?_;have hi:=A24 (c:=c) hl;rw[CM (hin c hc)]at hi;obtain⟨h',eh⟩:=qh.mp hi;show decide ((own hs q c).getD 0=h)=_;rw[eh];rw[k6,decide_eq_true_eq,decide_eq_true_eq,←A2u hn nd hl e1 e2,eh];exact⟨λz=>by rw[←z];rfl,λz=>j7 z⟩
  rw[ef,wP hA (hsub _ (fq e2))];show vd id _=_;rw[map_id]
 refine ba (by rw[di,hl]) λj h1 h2=> ?_;rw[List.getElem_map];exact(key j _ _ (cx (by omega)) (cx h1)).symm
theorem B1o {C:List Pl}{hs:List Int}{Fh:Int->List (List Pl)}(hC:C.Nodup)(hn:hs.Nodup)(o:Lfo C (hs.map Fh))(hF:∀h∈hs,(Fh h).Nodup):(Ps C hs Fh).Pairwise (· ≠ ·):=by
 have rn:(cE (hs.map Fh)).Nodup:=A08 _ rfl λLs h=>by
  obtain⟨i,hi,rfl⟩:=fm.mp h;exact hF i hi
 unfold Ps eF;rw[gv];refine(yb.mp ((gc.mp rn).sublist bw)).imp fun{a b} z e=>z.2.2 ?_;have key:∀q∈(cE (hs.map Fh)).filter (λq=>decide (q.flatten.length=C.length)),q=hs.map (nP C (eK C hs q)):=λq hq=>by
  obtain⟨h1,h2⟩:=ff.mp hq;obtain⟨k1,k2,k3⟩:=jM hC o h1;rw[di]at k1;exact B5q hC hn k2 k1.symm k3 (of_decide_eq_true h2)
 rw[key a z.1,key b z.2.1,e]
noncomputable abbrev nPs:List Str:=["_law_plea_here","_law_cells_here","_law_holders_here","_law_rows","_law_holder","_law_lands_here","_law_more","_law_left","_law_own","_law_land","_law_rest","_law_every"]
theorem scPs:gD nPs ["_law_plea_here"] (bB gB):=by ac_rfl
noncomputable abbrev XP (P:j9)(w:kl)(K:W.Frag)(mg:Str->Option jt)(base:kj)(f:ju)(cdv:jt)(A:mh)(outer:List Env)(s:jw)(H0:Hp)(E:XK):Cx:=(fK CX0 P w K mg base nPs "_law_partings" (bB gB) f cdv A outer s H0 E).nox
noncomputable abbrev pNo:mw:=.Pass ⟨0,0,0,0⟩
noncomputable abbrev bHold:List mw:=fR ((dA gB).getD 2 pNo)
noncomputable abbrev bRow:List mw:=fR (bHold.getD 1 pNo)
noncomputable abbrev A67:List mw:=fR (bRow.getD 0 pNo)
theorem B23:qu "dict" =some (.type "dict"):=by decide +kernel
noncomputable def RwI (H:Hp)(C:List Pl)(hs:List Int)(r:ju)(q:List (List Pl)):Prop:=∃t d,H r=some (.tup [.ref t,.ref d])/\C1 H t (Dc C q)/\H d=some (.dT (ents hs q))
structure LnI (C:List Pl)(hs:List Int)(q:List (List Pl)):Prop where
 l:hs.length=q.length
 n:q.flatten.Nodup
 s:∀L∈q,L.Sublist C
section
theorem A5q:(["_law_place","_law_left"]:List Str).Nodup:=by decide +kernel
theorem A9q:(["_law_place","_law_land"]:List Str).Nodup:=by decide +kernel
theorem A9d:(["_law_place","_law_holder"]:List Str).Nodup:=by decide +kernel
variable {f:ju}{cdv:jt}{A:mh}{outer:List Env}{s:jw}{H0:Hp}{E:XK}
theorem B3f (C:List Pl)(q:List (List Pl))(L:List Pl):(Dc C q).filter (λc=> !decide (c∈L))=Dc C (q++[L]):=by unfold Dc;rw[br];refine bh λc _=> ?_;rw[b9,cf];by_cases h1:c∈L<;>by_cases h2:c∈q.flatten<;>simp[h1,h2]
theorem wE {α β:Type}{R:α->β->Prop}:∀{a b:List α}{c d:List β},Paired R a c->Paired R b d->Paired R (a++b) (c++d)
 |_,_,_,_,.nil,h=>h
 |_,_,_,_,.cons r t,h=> .cons r (wE t h)
theorem A56 (T:Txt mg)(T2:dZ mg)(hr:Room 4 (XP P w K mg base f cdv A outer s H0 E).A):∃tt,CV (XP P w K mg base f cdv A outer s H0 E) A67 tt/\
    ∀(D:dC)(o0 o1 o2 o3 o5 o10 o11:Option V)(lm tl d t:ju)(h:Int)(C:List Pl)(hs:List Int)(q:List (List Pl))(L:List Pl)(es:List ju)(H:Hp),C.Nodup->C.length<=10->LnI C hs q->C1 H tl (Dc C q)->H d=some (.dT (ents hs q))->C1 H t L->L.Sublist C->H lm=some (.lst (es.map V.ref))->es.length<16777216->
      (∀o10' H',Same H H'->C9 L q=false->D.nx [o0,o1,o2,o3,some (.int h),o5,some (.ref lm),some (.ref tl),some (.ref d),some (.ref t),o10',o11] H')->
      (∀o10' r H',Sb lm H H'->H' lm=some (.lst (es.map V.ref++[.ref r]))->RwI H' C (hs++[h]) r (q++[L])->C9 L q=true->D.nx [o0,o1,o2,o3,some (.int h),o5,some (.ref lm),some (.ref tl),some (.ref d),some (.ref t),o10',o11] H')->
      tt D [o0,o1,o2,o3,some (.int h),o5,some (.ref lm),some (.ref tl),some (.ref d),some (.ref t),o10,o11] H:=by
  have nd:=scPs.nd;have hu:=dI hr;refine⟨_,aR (bV (cB (zH 1 hu) (bQ (bB gB).names nPs ["_law_place"] [("_law_left",7)] rfl (cW (pv 9)) rfl rfl rfl (by decide +kernel)
      (λZ=>CZ 0 A5q) (λZ=>dX (cB (nY 1 hu) (pv 0) (pv 1) rfl)) (λZ=>pv 0)) (cZ aB) (nomark _))
    (aT (bJ (i:=10) nd rfl (ng rfl) (eP gW rfl T.tuple r6 (cY (bQ (bB gB).names nPs ["_law_place"] [("_law_land",9)] rfl (cW (pv 7)) rfl rfl rfl (by decide +kernel)
      (λZ=>CZ 0 A9q) (λZ=>dX (cB (nY 1 hu) (pv 0) (pv 1) rfl)) (λZ=>pv 0)) aB)))<|
     aR (dP (iV ow qk ql jX (pv 6) (gI (bT (aD (pv 10) (bM (eP (A76 rfl hu) rfl T2.dict B23 (dQ (bC jI (A7f rfl rfl T2.list (pv 8)) (bQ (bB gB).names nPs ["_law_place"] [("_law_holder",4)] rfl (cW (pv 9)) rfl rfl rfl (by decide +kernel)
      (λZ=>CZ 0 A9d) (λZ=>cF) (λZ=>bT (aD (pv 0) (aD (pv 1) aB))))) aB)) aB))) aB)))) bU),?_⟩
  intro D o0 o1 o2 o3 o5 o10 o11 lm tl d t h C hs q L es H hC hC10 O hTl hd hT hLC elm hes k0 k1;obtain⟨ps,ht,hP⟩:=id hT;obtain⟨ls,htl,hPl⟩:=id hTl;have hLn:=hC.sublist hLC;have hpl:ps.length=L.length:=Paired.length hP;have hL10:L.length<=10:=jd hLC.length_le hC10;have hll:ls.length=(Dc C q).length:=Paired.length hPl;have hl10:(Dc C q).length<=10:=jd bw.length_le hC10;refine⟨_,rfl,t,rfl,⟨_,CY.of ht⟩,λZ lr hlr=> ?_⟩;refine iB (R:=λH b c=>C4 H b c) (λe h=>e.tup _ _ h) (rest:=[some (.ref tl)]) (λc=> !decide (c∈Dc C q)) gM (λH' hs=>CY.of (hs _ _ ht)) hP hlr (by omega) (λb c H' Q' hc hb B3 k=> ?_) λσ H1 qs s1 el1 hP1=> ?_
  · refine⟨_,rfl,_,rfl,tl,_,_,rfl,.inl (B3 _ _ htl),iM hb (hPl.same B3),_,rfl,?_⟩
    rw[kM];exact k H' (Same.refl _)
  refine⟨by show 0<=jv;decide,λl0 hl0=> ?_⟩;have u0:=aK (o:=.lst []) hl0;have s2:=s1.trans u0;refine⟨lr,l0,_,[],rfl,rfl,u0 _ _ el1,aG,?_⟩;generalize upd H1 l0 (.lst [])=H2 at u0 s2⊢;have hq:qs.length=_:=Paired.length hP1;have hdj:C9 L q=true↔L.filter (λc=> !decide (c∈Dc C q))=[]:=by
    rw[bp];unfold C9;rw[aa];constructor
    · intro z c hc
      have:c∈Dc C q:=ff.mpr ⟨hLC.subset hc,z c hc⟩;simp[this]
    · intro z c hc
      have:=z c hc;have hm:c∈Dc C q:=by simpa using this
      exact(ff.mp hm).2
  cases hb:C9 L q with
  |false=>
    left
    refine⟨λz=> ?_,_,rfl,bY (k0 _ H2 s2 hb)⟩;rw[di]at z;have:C9 L q=true:=hdj.mpr (ay (by rw[←hq,z];rfl));rw[this]at hb;cases hb
  |true=>
    right
    rw[hdj.mp hb]at hq;have:qs=[]:=ay hq;subst this;refine⟨[],trivial,_,rfl,fY ?_⟩;have hTl2:=C1.same hTl s2;obtain⟨ls2,htl2,hPl2⟩:=id hTl2;have hll2:ls2.length=(Dc C q).length:=Paired.length hPl2;refine⟨_,rfl,tl,rfl,⟨_,CY.of htl2⟩,λZ2 lr2 hlr2=> ?_⟩;refine iB (R:=λH b c=>C4 H b c) (λe h=>e.tup _ _ h) (rest:=[some (.ref t)]) (λc=> !decide (c∈L)) gM (λH' hs=>CY.of (hs _ _ htl2)) hPl2 hlr2 (by omega) (λb c H' Q' hc hb' B3 k=> ?_) λσ3 H3 qs3 s3 el3 hP3=> ?_
    · refine⟨_,rfl,_,rfl,t,_,_,rfl,.inl (B3 _ _ (s2 _ _ ht)),iM hb' ((hP.same s2).same B3),_,rfl,?_⟩
      rw[kM];exact k H' (Same.refl _)
    refine⟨lr2,_,rfl,.inl ⟨CW.of el3,λtr htr=> ?_⟩⟩;have u4:=aK (o:=.tup (qs3.map V.ref)) htr;have s4:=(s2.trans s3).trans u4;have hSr:C1 (upd H3 tr (.tup (qs3.map V.ref))) tr (Dc C (q++[L])):=⟨qs3,aG,by rw[←B3f];exact Paired.mapP hP3 λ_ _ z=>u4 _ _ z⟩;generalize upd H3 tr (.tup (qs3.map V.ref))=H4 at u4 s4 hSr⊢;refine⟨_,rfl,.inl ⟨rfl,_,CW.of (s4 _ _ elm)⟩,_,rfl,_,rfl,d,_,rfl,s4 _ _ hd,λli pi H5 hli s5 eli hPi=> ?_⟩;have s45:=s4.trans s5;refine⟨_,rfl,t,rfl,⟨_,CY.of (s45 _ _ ht)⟩,λZ3 lp hlp=> ?_⟩;refine gC (K:=K) (a:=t) (xs:=ps.map V.ref) (λj σ H'=>(∃o,σ=[o,some (.int h)])/\Same H5 H'/\∃pp:List ju,H' lp=some (.lst (pp.map V.ref))/\PrA H' pp ((L.take j).map λc=>(kp c,V.int h)))
      ⟨⟨_,rfl⟩,aK hlp,[],aG,.nil⟩ (λj σ H' _ h=>CY.of (h.2.1 _ _ (s45 _ _ ht))) ?_ ?_
    · rintro j x σ H' hx ⟨⟨o,rfl⟩,B3,pp,elp,hPp⟩
      obtain⟨b,hbj,rfl⟩:=eY hx;obtain⟨c,hc,he⟩:=hP.at hbj;have hj:j<L.length:=(CL.mp hc).1;refine iZ ?_;refine⟨_,rfl,_,rfl,by show 2<=jv;decide,λpt hpt=> ?_⟩;have u:=aK (o:=.tup [.ref b,.int h]) hpt;have hppl:pp.length=_:=Paired.length hPp;rw[di,du]at hppl;have npl:pt≠lp:=λz=>by rw[z,elp]at hpt;cases hpt
      refine⟨_,u _ _ elp,by rw[di,ko];omega,⟨_,rfl⟩,λb' z e=> ?_,pp++[pt],by rw[aG,dz];rfl,?_⟩
      · rw[aN (bG e hlp)];exact u _ _ (B3 _ _ e)
      · have tp:∀b' ys,H' b'=some (.tup ys)->(upd (upd H' pt (.tup [.ref b,.int h])) lp (.lst (pp.map V.ref++[.ref pt]))) b'=some (.tup ys):=λb' ys z=>by
          rw[aN (λy=>by rw[y,elp]at z;cases z)];exact u _ _ z
        rw[iu,hc,dz];exact Paired.snoc (Paired.mapP hPp λ_ _ ⟨b',z1,z2⟩=> ⟨b',tp _ _ z1,tp _ _ z2⟩) ⟨b,by rw[aN npl];exact aG,tp _ _ (B3 _ _ (s45 _ _ he))⟩
    · rintro σ H' ⟨_,B3,pp,elp,hPp⟩
      rw[di,hpl,iq (CT _)]at hPp;have hpil:pi.length=_:=Paired.length hPi;rw[A25 O.l]at hpil;have hppl:pp.length=_:=Paired.length hPp;rw[di]at hppl;have hq10:q.flatten.length<=10:=by have:=yE hC O.n O.s;omega
      refine⟨li,lp,_,_,rfl,rfl,B3 _ _ eli,elp,by rw[di,di,ko];omega,λlc hlc=> ?_⟩;have u6:=aK (o:=.lst (pi.map V.ref++pp.map V.ref)) hlc;have s6:=B3.trans u6;have e6:(upd H' lc (.lst (pi.map V.ref++pp.map V.ref))) lc=some (.lst ((pi++pp).map V.ref)):=by rw[aG,dz]
      generalize upd H' lc (.lst (pi.map V.ref++pp.map V.ref))=H6 at u6 s6 e6⊢;have hPr:PrA H6 (pi++pp) (ents (hs++[h]) (q++[L])):=by
        rw[A59 O.l];have a1:PrA H6 pi (ents hs q):=Paired.mapP hPi λ_ _ ⟨b',z1,z2⟩=> ⟨b',s6 _ _ z1,s6 _ _ z2⟩;have a2:PrA H6 pp (L.map λc=>(kp c,V.int h)):=Paired.mapP hPp λ_ _ ⟨b',z1,z2⟩=> ⟨b',u6 _ _ z1,u6 _ _ z2⟩;exact wE a1 a2
      have hkn:((ents (hs++[h]) (q++[L])).map (·.1)).Nodup:=by
        rw[oV _ _ (by rw[c8,c8,O.l];rfl),gc,gv];have:(q++[L]).flatten.Nodup:=by
          rw[b9,cf,f7];refine⟨O.n,hLn,λa ha b hb' e=> ?_⟩;have:=aa.mp hb b hb';rw[←e]at this;simp[ha]at this
        exact(gc.mp this).imp fun{a b} z e=>z (sD e)
      have hel:(ents (hs++[h]) (q++[L])).length<=1000:=by
        rw[A25 (by rw[c8,c8,O.l];rfl),b9,c8,cf];omega
      refine⟨lc,_,_,rfl,e6,hPr,hkn,hel,λdn hdn=> ?_⟩;have u7:=aK (o:=.dT (ents (hs++[h]) (q++[L]))) hdn;refine⟨by show 2<=jv;decide,λr hr'=> ?_⟩;have u8:=aK (o:=.tup [.ref tr,.ref dn]) hr';have s8:=(s5.trans s6).trans (u7.trans u8);have sA:=s4.trans s8;have er:(upd (upd H6 dn (.dT (ents (hs++[h]) (q++[L])))) r (.tup [.ref tr,.ref dn])) r=some (.tup [.ref tr,.ref dn]):=aG;have edn:=u8 _ _ (aG (H:=H6) (a:=dn) (o:=.dT (ents (hs++[h]) (q++[L]))));have hSr8:=C1.same hSr s8;generalize upd (upd H6 dn (.dT (ents (hs++[h]) (q++[L])))) r (.tup [.ref tr,.ref dn])=H8 at sA er edn hSr8⊢;have elm8:=sA _ _ elm;refine⟨lm,_,_,rfl,rfl,elm8,by rw[di,ko];exact hes,?_⟩;have nl:∀{b:ju}{u:HO},H8 b=some u->(∀zs,u≠ .lst zs)->(upd H8 lm (.lst (es.map V.ref++[.ref r]))) b=some u:=fun{b u} z n=>by rw[aN (λy=>by rw[y,elm8]at z;exact n _ (j7 z).symm)];exact z
      refine k1 _ r _ (λb u n e=>by rw[aN n];exact sA _ _ e) aG ⟨tr,dn,nl er (λ_ z=>by cases z),?_,nl edn (λ_ z=>by cases z)⟩ hb;obtain⟨p8,g1,g2⟩:=hSr8;exact⟨p8,nl g1 (λ_ z=>by cases z),Paired.mapP g2 λ_ _ z=>nl z (λ_ z=>by cases z)⟩
end
noncomputable def RwA (H:Hp)(C:List Pl)(hs:List Int)(rs:List ju)(CS:List (List (List Pl))):Prop:=Paired (RwI H C hs) rs CS
theorem RwI.up (h:RwI H C hs r q)(up:∀b u,(∀zs,u≠ .lst zs)->H b=some u->H' b=some u):RwI H' C hs r q:=by
 obtain⟨t,d,h1,⟨ps,h2,h3⟩,h4⟩:=h;have nt:∀{ys:List V}(zs:List V),HO.tup ys≠ .lst zs:=λ_ z=>by cases z
 exact⟨t,d,up _ _ nt h1,⟨ps,up _ _ nt h2,Paired.mapP h3 λ_ _ z=>up _ _ nt z⟩,up _ _ (λ_ z=>by cases z) h4⟩
theorem RwA.same (h:RwA H C hs rs CS)(s:Same H H'):RwA H' C hs rs CS:=Paired.mapP h λ_ _ z=>z.up λb u _ e=>s _ _ e
theorem RwA.sb (h:RwA H C hs rs CS)(s:Sb l H H')(e:H l=some (.lst xs)):RwA H' C hs rs CS:=Paired.mapP h λ_ _ z=>z.up λb u n e'=>s _ _ (λy=>by rw[y,e]at e';exact n _ (j7 e').symm) e'
theorem Sb.trans (a:Sb l H H1)(b:Sb l H1 H2):Sb l H H2:=λc u n e=>b c u n (a c u n e)
theorem A89 {H:Hp}{p:ju}{g:bE}{w:Nat}{cs:List Int}{cl:List C3}{od i:Int}{R:List (List Pl)}(D:PleA H p g w cs cl od)(hp:R.Perm ((C8 (aQ pos g)).filter (lfit g cs cl od i)))(hs:R.Pairwise λa b=>HT.lexLt (fl b) (fl a)=false):R=bO g cs cl od i:=
 let hb:=nK D.cu D.ck D.un i;B5j (sG D.G D.c6).1 hb.1.1 hb.2.1 hp hs
section
variable {f:ju}{cdv:jt}{A:mh}{outer:List Env}{s:jw}{H0:Hp}{E:XK}
theorem A6z (T:Txt mg)(T2:dZ mg)(hr:Room 4 (XP P w K mg base f cdv A outer s H0 E).A):∃tt,CV (XP P w K mg base f cdv A outer s H0 E) bRow tt/\
  ∀(D:dC)(o0 o1 o2 o3 o9 o10 o11:Option V)(lm ll tl d:ju)(h:Int)(C:List Pl)(hs:List Int)(q:List (List Pl))(qs:List ju)(Ls:List (List Pl))(es:List ju)(Ac:List (List (List Pl)))(H:Hp),C.Nodup->C.length<=10->LnI C hs q->C1 H tl (Dc C q)->H d=some (.dT (ents hs q))->H ll=some (.lst (qs.map V.ref))->ll≠lm->LansAt H qs Ls->(∀L∈Ls,L.Sublist C)->H lm=some (.lst (es.map V.ref))->RwA H C (hs++[h]) es Ac->Ac.length+Ls.length<16777216->
   (∀o9' o10' es' H',Sb lm H H'->H' lm=some (.lst ((es':List ju).map V.ref))->RwA H' C (hs++[h]) es' (Ac++(Ls.filter λL=>C9 L q).map λL=>q++[L])->D.nx [o0,o1,o2,o3,some (.int h),some (.ref ll),some (.ref lm),some (.ref tl),some (.ref d),o9',o10',o11] H')->
   tt D [o0,o1,o2,o3,some (.int h),some (.ref ll),some (.ref lm),some (.ref tl),some (.ref d),o9,o10,o11] H:=by
 have nd:=scPs.nd;obtain⟨tb,hb,rb⟩:=A56 (P:=P) (w:=w) (K:=K) (mg:=mg) (base:=base) (f:=f) (cdv:=cdv) (A:=A) (outer:=outer) (s:=s) (H0:=H0) (E:=E) T T2 hr;refine⟨_,aR (dF k9 rfl (cR (pv 5)) (aJ (i:=9) nd rfl (qr rfl)) hb),?_⟩;intro D o0 o1 o2 o3 o9 o10 o11 lm ll tl d h C hs q qs Ls es Ac H hC hC10 O hTl hd ell nll hL hsub elm hA hz k;have hql:qs.length=Ls.length:=Paired.length hL;have nt:∀{b:ju}{u:HO},H b=some u->(∀zs,u≠ .lst zs)->b≠lm:=λz n y=>by rw[y,elm]at z;exact n _ (j7 z).symm
 have sq:∀{H':Hp}{b:ju}{L:List Pl},Sb lm H H'->C1 H b L->C1 H' b L:=λsb ⟨ps,h1,h2⟩=> ⟨ps,sb _ _ (nt h1 λ_ z=>by cases z) h1,Paired.mapP h2 λ_ _ z=>sb _ _ (nt z λ_ y=>by cases y) z⟩;refine⟨_,rfl,ll,rfl,⟨_,CW.of ell⟩,?_⟩;refine eU (K:=K) (a:=ll) (xs:=qs.map V.ref) (λj σ H'=>(∃o9 o10,σ=[o0,o1,o2,o3,some (.int h),some (.ref ll),some (.ref lm),some (.ref tl),some (.ref d),o9,o10,o11])/\Sb lm H H'/\∃es':List ju,H' lm=some (.lst (es'.map V.ref))/\RwA H' C (hs++[h]) es' (Ac++((Ls.take j).filter λL=>C9 L q).map λL=>q++[L]))
  ⟨⟨_,_,rfl⟩,λ_ _ _ z=>z,es,elm,by rw[take_zero];simpa using hA⟩ (λj σ H' _ h=>CW.of (h.2.1 _ _ nll ell)) ?_ ?_
 ·rintro j x σ H' hx ⟨⟨o9',o10',rfl⟩,sb,es',elm',hA'⟩;obtain⟨t,htj,rfl⟩:=eY hx;obtain⟨L,hLj,hT⟩:=fU hL htj;have hj:j<Ls.length:=(CL.mp hLj).1;have hel:es'.length=_:=Paired.length hA';have hfl:=dh (λL=>C9 L q) (Ls.take j);rw[du]at hfl;rw[c8,di]at hel;have et:(Ls.take (j+1)).filter (λL=>C9 L q)=(Ls.take j).filter (λL=>C9 L q)++(if C9 L q=true then [L]else []):=by
   rw[iu,hLj,bg]
   congr 1
   by_cases z:C9 L q=true<;>simp[z]
  refine rb _ o0 o1 o2 o3 (some (.ref ll)) o10' o11 lm tl d t h C hs q L es' H' hC hC10 O (sq sb hTl) (sb _ _ (nt hd λ_ z=>by cases z) hd) (sq sb hT) (hsub L (fq hLj)) elm' (by omega) (λo10'' H2 s2 hz'=> ?_) λo10'' r H2 s2 e2 hR hz'=> ?_
  ·refine⟨⟨_,_,rfl⟩,λb u n e=>s2 _ _ (sb b u n e),es',s2 _ _ elm',?_⟩;rw[et,if_neg (by rw[hz'];decide),ak];exact hA'.same s2
  ·refine⟨⟨_,_,rfl⟩,sb.trans s2,es'++[r],by rw[e2,dz];rfl,?_⟩;rw[et,if_pos hz',dz,←aj];exact Paired.snoc (hA'.sb s2 elm') hR
 ·rintro σ H' ⟨⟨o9',o10',rfl⟩,sb,es',elm',hA'⟩;rw[di,hql,iq (CT _)]at hA';exact k _ _ es' H' sb elm' hA'
theorem B4k (T:Txt mg)(T2:dZ mg)(hr:Room 4 (XP P w K mg base f cdv A outer s H0 E).A)(aF:A1 P w K mg base 4 "_law_fit_lands" qK):∃tt,CV (XP P w K mg base f cdv A outer s H0 E) bHold tt/\
  ∀(D:dC)(o1 o2 o5 o6 o7 o8 o9 o10 o11:Option V)(p lr:ju)(g:bE)(w:Nat)(cs:List Int)(cl:List C3)(od h:Int)(hs:List Int)(rs:List ju)(CS:List (List (List Pl)))(H:Hp),PleA H p g w cs cl od->eE cl h=true->H lr=some (.lst (rs.map V.ref))->RwA H (aQ pos g) hs rs CS->(∀q∈CS,LnI (aQ pos g) hs q)->65*CS.length<16777216->
   (∀o5' o6' o7' o8' o9' o10' lr' rs' H',Same H H'->H' lr'=some (.lst ((rs':List ju).map V.ref))->RwA H' (aQ pos g) (hs++[h]) rs' (fJ (bO g cs cl od h) CS)->D.nx [some (.ref p),o1,o2,some (.ref lr'),some (.int h),o5',o6',o7',o8',o9',o10',o11] H')->
   tt D [some (.ref p),o1,o2,some (.ref lr),some (.int h),o5,o6,o7,o8,o9,o10,o11] H:=by
 have nd:=scPs.nd;obtain⟨tb,hb,rb⟩:=A6z (P:=P) (w:=w) (K:=K) (mg:=mg) (base:=base) (f:=f) (cdv:=cdv) (A:=A) (outer:=outer) (s:=s) (H0:=H0) (E:=E) T T2 hr;refine⟨_,aT (jL (i:=5) (j:=6) rfl nd rfl rfl (by decide) rfl rfl (bM (aF.c hr (aD (pv 0) (aD (pv 4) aB))) (lU (cZ aB) aB)) rfl)<|
  aT (dF k9 rfl (cR (pv 3)) (bI rfl (aV (aJ (i:=7) nd rfl (qr rfl)) (aV (aJ (i:=8) nd rfl (qr rfl)) bH))) hb)<|
  aR (bJ (i:=3) nd rfl (ng rfl) (pv 6)),?_⟩
 intro D o1 o2 o5 o6 o7 o8 o9 o10 o11 p lr g w' cs cl od h hs rs CS H hP hh elr hD hO hz k;refine⟨_,rfl,_,rfl,p,g,w',cs,cl,od,h,rfl,hP,λlf zs Cv H1 hlf s1 elf hz1 hz2 hS=> ?_⟩;have hR:Cv.map (·.2)=bO g cs cl od h:=A89 hP (by rw[←hz2];exact hS.1.map (·.2)) (gv.mpr hS.2);have hL:LansAt H1 (Cv.map (·.1)) (bO g cs cl od h):=by
  rw[←hR];have:∀z∈Cv,C1 H1 z.1 z.2:=λz hz=>hz1 z (hS.1.mem_iff.mp hz);clear hS hR elf
  induction Cv with
  |nil=>exact .nil
  |cons z Cv ih=>exact .cons (this z CQ) (ih λy hy=>this y (CP _ hy))
 have elf':H1 lf=some (.lst ((Cv.map (·.1)).map V.ref)):=by rw[elf,d7];rfl
 refine⟨by show 0<=jv;decide,λlm hlm=> ?_⟩;have u1:=aK (o:=.lst []) hlm;have s2:=s1.trans u1;have elm:(upd H1 lm (.lst [])) lm=some (.lst []):=aG;have nlf:lf≠lm:=λz=>by rw[z,hlm]at elf;cases elf
 have nlr:lr≠lm:=λz=>by have:=s1 _ _ elr;rw[z,hlm]at this;cases this
 have elf2:=u1 _ _ elf';have hL2:=hL.ext u1.ext;have elr2:=s2 _ _ elr;have hD2:=hD.same s2;generalize upd H1 lm (.lst [])=H2 at u1 s2 elm elf2 hL2 elr2 hD2⊢;generalize hLs:bO g cs cl od h=Ls at hL2 k;have h64:Ls.length<=64:=by
  rw[←hLs];exact jd (jd (dh _ _) (dh _ _)) (lX hP.c6)
 have hsub:∀L∈Ls,L.Sublist (aQ pos g):=λL hL=>by rw[←hLs]at hL;exact gG (ff.mp (ff.mp hL).1).1
 have hC10:(aQ pos g).length<=10:=by rw[eD];have:=hP.c6;omega
 have hrl:rs.length=CS.length:=Paired.length hD;refine⟨_,_,rfl,_,rfl,lr,rfl,⟨_,CW.of elr2⟩,?_⟩;refine eU (K:=K) (a:=lr) (xs:=rs.map V.ref) (λj σ H'=>(∃o7 o8 o9 o10,σ=[some (.ref p),o1,o2,some (.ref lr),some (.int h),some (.ref lf),some (.ref lm),o7,o8,o9,o10,o11])/\Sb lm H2 H'/\∃es:List ju,H' lm=some (.lst (es.map V.ref))/\RwA H' (aQ pos g) (hs++[h]) es (fJ Ls (CS.take j)))
  ⟨⟨_,_,_,_,rfl⟩,λ_ _ _ z=>z,[],elm,.nil⟩ (λj σ H' _ h=>CW.of (h.2.1 _ _ nlr elr2)) ?_ ?_
 ·rintro j x σ H' hx ⟨⟨o7',o8',o9',o10',rfl⟩,sb,es,elm',hA⟩;obtain⟨r,hrj,rfl⟩:=eY hx;obtain⟨q,hqj,t,d,g1,g2,g3⟩:=fU hD2 hrj;have hj:j<CS.length:=(CL.mp hqj).1;have nt:∀{b:ju}{u:HO},H2 b=some u->(∀zs,u≠ .lst zs)->b≠lm:=λz n y=>by rw[y,elm]at z;exact n _ (j7 z).symm
  have sq:∀{b:ju}{L:List Pl},C1 H2 b L->C1 H' b L:=λ⟨ps,h1,h2⟩=> ⟨ps,sb _ _ (nt h1 λ_ z=>by cases z) h1,Paired.mapP h2 λ_ _ z=>sb _ _ (nt z λ_ y=>by cases y) z⟩;have hsl:(fJ Ls (CS.take j)).length<=64*CS.length:=by
   rw[(sR _ _).length_eq];refine jd (tK _ _) (jm h64 ?_);rw[du];omega
  have et:CS.take (j+1)=CS.take j++[q]:=by rw[iu,hqj];rfl
  refine⟨r,_,rfl,CY.of (sb _ _ (nt g1 λ_ z=>by cases z) g1),rfl,_,_,rfl,_,_,rfl,rfl,?_⟩;refine rb _ (some (.ref p)) o1 o2 (some (.ref lr)) o9' o10' o11 lm lf t d h (aQ pos g) hs q _ Ls es (fJ Ls (CS.take j)) H' (iL g) hC10 (hO q (fq hqj)) (sq g2) (sb _ _ (nt g3 λ_ z=>by cases z) g3) (sb _ _ nlf elf2) nlf (Paired.mapP hL2 λ_ _ z=>sq z) hsub elm' hA (by omega) λo9'' o10'' es' H3 s3 e3 hA3=> ?_;refine⟨⟨_,_,_,_,rfl⟩,sb.trans s3,es',e3,?_⟩;have e:fJ Ls (CS.take j++[q])=fJ Ls (CS.take j)++(Ls.filter λL=>C9 L q).map λL=>q++[L]:=by
   unfold fJ;rw[List.flatMap_append];simp
  rw[et,e];exact hA3
 ·rintro σ H' ⟨⟨o7',o8',o9',o10',rfl⟩,sb,es,elm',hA⟩;rw[di,hrl,iq (CT _)]at hA;exact⟨_,rfl,k _ _ _ _ _ _ lm es H' (λb u e=>sb b u (λz=>by have:=s1 _ _ e;rw[z,hlm]at this;cases this) (s2 _ _ e)) elm' hA⟩
end
noncomputable def qY:Sp:=λvs H Q _=> ∃p g w cs cl od,vs=[.ref p]/\PleA H p g w cs cl od/\∀l zs H',H l=none->Same H H'->H' l=some (.lst ((zs:List (ju×List Int)).map λz=>V.ref z.1))->zs.length<=262144->(∀z∈zs,H' z.1=some (.tup (z.2.map V.int)))->(zs.map (·.2)).Perm (PsP g cs cl od)->(zs.map (·.2)).Pairwise (λa b=>HT.lexLt b a=false)->Q (.ref l) H'
noncomputable abbrev A7k:List mw:=fR ((dA gB).getD 4 pNo)
theorem A0o (hC:C.Nodup)(o:Lfo C (hs.map Fh))(hq:q∈dU (hs.map Fh)):LnI C hs q:=by obtain⟨h1,h2,h3⟩:=jM hC o ((lJ _).mem_iff.mp hq);rw[di]at h1;exact⟨h1.symm,h2,h3⟩
theorem A70 (xs:List V):cI xs none (some (-1))=xs.take (xs.length - 1):=by
 have e:HT.sIx xs.length xs.length (some (-1))=xs.length - 1:=by
  show(if (-1:Int)<0 then((-1:Int)+(xs.length:Int)).toNat else min (-1:Int).toNat xs.length)=_;rw[if_pos (by decide)];omega
 unfold cI;rw[e];show(xs.drop 0).take (xs.length - 1 - 0)=_;rw[ax,sub_zero]
theorem A8b (xs:List α)(x:α):atI (xs++[x]) (-1)=some x:=by
 unfold atI;have e:ixN (xs++[x]).length (-1)=some xs.length:=by
  rw[c8,dq];unfold ixN;rw[if_neg (by decide),if_pos (by omega)]
  congr 1
  omega
 rw[e];show(xs++[x])[xs.length]?=some x;simp
theorem A4a:(["_law_place","_law_own","_law_holders_here"]:List Str).Nodup:=by decide +kernel
section
variable {f:ju}{cdv:jt}{A:mh}{outer:List Env}{s:jw}{H0:Hp}{E:XK}
theorem A58 (T:Txt mg)(hr:Room 4 (XP P w K mg base f cdv A outer s H0 E).A)(aF:A1 P w K mg base 3 "_law_fits" oZ):∃tt,CV (XP P w K mg base f cdv A outer s H0 E) A7k tt/\
  ∀(D:dC)(o3 o4 o5 o6 o9 o10:Option V)(p tc lh tl d le:ju)(g:bE)(w:Nat)(cs:List Int)(cl:List C3)(od hl:Int)(B3:List Int)(q:List (List Pl))(pc:List ju)(xs:List V)(H:Hp),PleA H p g w cs cl od->H tc=some (.tup (pc.map V.ref))->PlAt H pc (aQ pos g)->H lh=some (.lst ((B3++[hl]).map V.int))->LnI (aQ pos g) B3 q->C1 H tl (Dc (aQ pos g) q)->H d=some (.dT (ents B3 q))->H le=some (.lst xs)->xs.length<16777216->
   (∀H',Same H H'->Dc (aQ pos g) q∉bO g cs cl od hl->D.nx [some (.ref p),some (.ref tc),some (.ref lh),o3,o4,o5,o6,some (.ref tl),some (.ref d),o9,o10,some (.ref le)] H')->
   (∀t H',Dc (aQ pos g) q∈bO g cs cl od hl->Sb le H H'->H' le=some (.lst (xs++[.ref t]))->H' t=some (.tup (((aQ pos g).map λc=>(own B3 q c).getD hl).map V.int))->D.nx [some (.ref p),some (.ref tc),some (.ref lh),o3,o4,o5,o6,some (.ref tl),some (.ref d),o9,o10,some (.ref le)] H')->
   tt D [some (.ref p),some (.ref tc),some (.ref lh),o3,o4,o5,o6,some (.ref tl),some (.ref d),o9,o10,some (.ref le)] H:=by
 have nd:=scPs.nd;have hu:=dI hr;refine⟨_,aR (bV (cA (aF.c hr (aD (pv 0) (fE (bK fG (pv 2) (gN iA aU) (λ_ _=>rfl)) (aD (pv 7) aB)))))
  (aR (dP (iV ow qk ql jX (pv 11) (bM (eP gW rfl T.tuple r6 (cY (bQ (bB gB).names nPs ["_law_place"] [("_law_own",8),("_law_holders_here",2)] rfl (cW (pv 1)) rfl rfl rfl (by decide +kernel)
   (λZ=>CZ 0 A4a) (λZ=>cF) (λZ=>A0m (jg hu) (pv 1) (pv 0) (bK fG (pv 2) (gN iA aU) (λ_ _=>rfl)) ⟨rfl,rfl,rfl,rfl⟩)) aB)) aB)))) bU),?_⟩
 intro D o3 o4 o5 o6 o9 o10 p tc lh tl d le g w' cs cl od hl B3 q pc xs H hP etc hPc elh O hTl hd ele hz k0 k1;have hC10:(aQ pos g).length<=10:=by rw[eD];have:=hP.c6;omega
 have hpl:pc.length=(aQ pos g).length:=Paired.length hPc;have hb:=nK hP.cu hP.ck hP.un hl;have hsl:(Dc (aQ pos g) q).Sublist (aQ pos g):=bw;have hlf:lfit g cs cl od hl (Dc (aQ pos g) q)=decide (Dc (aQ pos g) q∈bO g cs cl od hl):=by
  have hm:Dc (aQ pos g) q∈C8 (aQ pos g):=(oB _ rfl).mpr hsl;rw[pO (sG hP.G hP.c6).1 hb.1.1 hb.2.1 hm,k6,decide_eq_true_eq,wA];exact⟨λz=> ⟨hm,z⟩,λz=>z.2⟩
 have elast:atI ((B3++[hl]).map V.int) (-1)=some (V.int hl):=by rw[dz];exact A8b _ _
 refine⟨_,rfl,_,rfl,_,rfl,lh,_,-1,_,rfl,rfl,CW.of elh,elast,_,rfl,p,tl,g,w',cs,cl,od,hl,_,rfl,hP,hTl,λc hc=>hsl.subset hc,jd hsl.length_le hC10,λH1 s1=> ⟨_,rfl,?_⟩⟩;rw[hlf];refine dY (λhm=> ?_) λhm=>k0 H1 s1 hm;refine⟨_,rfl,.inl ⟨rfl,_,CW.of (s1 _ _ ele)⟩,_,rfl,tc,rfl,⟨_,CY.of (s1 _ _ etc)⟩,λZ l hl0=> ?_⟩;refine gC (K:=K) (a:=tc) (xs:=pc.map V.ref) (λj σ H'=>(∃o,σ=[o,some (.ref d),some (.ref lh)])/\Same H1 H'/\H' l=some (.lst ((((aQ pos g).take j).map λc=>(own B3 q c).getD hl).map V.int)))
  ⟨⟨_,rfl⟩,aK hl0,aG⟩ (λj σ H' _ h=>CY.of (h.2.1 _ _ (s1 _ _ etc))) ?_ ?_
 ·rintro j x σ H' hx ⟨⟨o,rfl⟩,hs2,Cz⟩;obtain⟨b,hbj,rfl⟩:=eY hx;obtain⟨c,hc,he⟩:=hPc.at hbj;have hj:j<(aQ pos g).length:=(CL.mp hc).1;have hd':=hs2 _ _ (s1 _ _ hd);have hb':H' b=some (.tup ((kp c).map kV)):=hs2 _ _ (s1 _ _ he);refine iZ ?_;refine⟨_,rfl,d,rfl,.inr ⟨_,.inl hd'⟩,_,rfl,_,rfl,_,rfl,lh,_,-1,_,rfl,rfl,CW.of (hs2 _ _ (s1 _ _ elh)),elast,_,DGet.t (k:=kp c) hd' hb',?_⟩;have ev:(bW (ents B3 q) (kp c)).getD (V.int hl)=V.int ((own B3 q c).getD hl):=by rw[uN];cases own B3 q c<;>rfl
  rw[ev];refine⟨_,Cz,cO (by rw[di,di,du];omega),⟨_,rfl⟩,λb' u e'=> ?_,?_⟩
  ·rw[aN (bG e' hl0)];exact hs2 _ _ e'
  ·rw[aG,iu,hc,dz,dz];rfl
 ·rintro σ H' ⟨_,hs2,Cz⟩;rw[di,hpl,iq (CT _)]at Cz;refine⟨l,_,rfl,.inl ⟨CW.of Cz,λt ht=> ?_⟩⟩;have u:=aK (o:=.tup (((aQ pos g).map λc=>(own B3 q c).getD hl).map V.int)) ht;have sA:=(s1.trans hs2).trans u;have nt:t≠le:=λz=>by have:=hs2 _ _ (s1 _ _ ele);rw[z,this]at ht;cases ht
  refine⟨le,_,_,rfl,rfl,sA _ _ ele,by rw[ko];exact hz,?_⟩;refine k1 t _ hm (λb u' n e'=>by rw[aN n];exact sA _ _ e') aG ?_;rw[aN nt];exact aG
end
theorem A3w (G:fQ cl):C7 cl≠[]:=by
 obtain⟨c,t,e⟩:=a9 (show cl≠[]from λz=>by have:=G.l1;rw[z]at this;cases this);have hc:c∈cl:=by rw[e];exact CQ
 have hn:=(G.num c hc).1;obtain⟨n,en⟩:=md hn.1;have hh:eE cl (n:Int)=true:=ah.mpr ⟨c,hc,CM en⟩;have hm:(n:Int)∈C7 cl:=fm.mpr ⟨n,mem_mem4.mpr ⟨by omega,hh⟩,rfl⟩;exact λz=>by rw[z]at hm;cases hm
theorem A8l (F:D1 K mg "_law_partings" gB ["_law_plea_here"])(T:Txt mg)(T2:dZ mg)(a1:A1 P w K mg base 1 "_law_cells" (eT pos))(aH:A1 P w K mg base 1 "_law_holders" mY)(aF:A1 P w K mg base 3 "_law_fits" oZ)(aL:A1 P w K mg base 4 "_law_fit_lands" qK):A1 P w K mg base 5 "_law_partings" qY:=by
 refine F.k nPs ?_;ac_nf
 ·obtain⟨p,g,w',cs,cl,od,rfl,D,q⟩:=h;obtain⟨m,c,a,hp,hm,hc,ha⟩:=D.ex;obtain⟨tb,hb,rb⟩:=B4k (P:=P) (w:=w) (K:=K) (mg:=mg) (base:=base) (f:=f) (cdv:=cdv) (A:=A) (outer:=outer) (s:=s) (H0:=H) (E:=E) T T2 hr aL;obtain⟨tf,hf,rf⟩:=A58 (P:=P) (w:=w) (K:=K) (mg:=mg) (base:=base) (f:=f) (cdv:=cdv) (A:=A) (outer:=outer) (s:=s) (H0:=H) (E:=E) T hr aF;refine⟨_,aT (cQ (bT (bM (eP gW rfl T.tuple r6 (bM (a1.c hr (fE (bK cD (pv 0) aU (λ_ _=>rfl)) aB)) aB)) (bM (aH.c hr (fE (bK cD (pv 0) aU (λ_ _=>rfl)) aB)) aB))) (bI rfl (aV (CZ 1 nd) (aV (aJ (i:=2) nd rfl (qr rfl)) bH))))<|
   aT (bJ (i:=3) nd rfl (ng rfl) (cZ (gI (bT (aD (pv 1) (pV A1s aB))) aB)))<|
   aT (dF k9 rfl (cR (jY pI (pv 2) lW (iQ (gN iA aU)))) (aJ (i:=4) nd rfl (qr rfl)) hb)<|
   aT (bJ (i:=11) nd rfl (ng rfl) (cZ aB))<|
   aT (dF k9 rfl (cR (pv 3)) (bI rfl (aV (aJ (i:=7) nd rfl (qr rfl)) (aV (aJ (i:=8) nd rfl (qr rfl)) bH))) hf)<|
   aR (aY (bD wC rfl T2.sorted Aq (aD (pv 11) aB))),?_⟩
  obtain⟨B3,hl,ehs⟩:∃B3 hl,C7 cl=B3++[hl]:=by
   rcases a8 (C7 cl)with e| ⟨a,b,e⟩
   ·exact absurd e (A3w D.ck)
   ·exact⟨a,b,by rw[e,ao]⟩
  have hn4:=yM cl;have hnd:=rC cl;have hhas:∀i∈C7 cl,eE cl i=true:=λi h=>wZ h;have oF:Lfo (aQ pos g) ((C7 cl).map (bO g cs cl od)):=⟨λLs h L hL=>by
   obtain⟨i,_,rfl⟩:=fm.mp h;exact gG (ff.mp (ff.mp hL).1).1⟩
  have hF64:∀i,(bO g cs cl od i).length<=64:=λi=>jd (jd (dh _ _) (dh _ _)) (lX D.c6);have hFnd:∀i,(bO g cs cl od i).Nodup:=λi=>by
   have h1:(bO g cs cl od i).Pairwise λa b=>HT.lexLt (fl a) (fl b)=true:=((A1k (oQ pos g)).sublist bw).sublist bw;exact h1.imp fun{a b} z e=>by rw[e,gL]at z;cases z
  have hPp:=A71 (C:=aQ pos g) (hs:=B3) (h:=hl) (Fh:=bO g cs cl od) (iL g) (by rw[←ehs];exact oF) (hFnd hl);have hPn:=B1o (C:=aQ pos g) (hs:=C7 cl) (Fh:=bO g cs cl od) (iL g) hnd oF λi _=>hFnd i;rw[←ehs]at hPp;have hPp:(PsP g cs cl od).Perm _:=hPp;have oR:∀j,Lfo (aQ pos g) ((B3.take j).map (bO g cs cl od)):=λj=> ⟨λLs h=>oF.sub Ls (by
   obtain⟨i,hi,rfl⟩:=fm.mp h;exact fm.mpr ⟨i,by rw[ehs];exact d9 _ (fu hi),rfl⟩)⟩
  have hs3:B3.length<=3:=by rw[ehs,c8,dq]at hn4;omega
  have rlen:∀j,(dU ((B3.take j).map (bO g cs cl od))).length<=64^(B3.take j).length:=λj=>by
   rw[(lJ _).length_eq];exact zK _ (by rw[di]) λLs h=>by obtain⟨i,_,rfl⟩:=fm.mp h;exact hF64 i
  refine⟨_,rfl,p,_,0,_,rfl,rfl,CY.of hp,rfl,m,g,w',rfl,hm,D.G,λH1 lc pc hlc s1 elc hPc=> ?_⟩;refine⟨lc,_,rfl,.inl ⟨CW.of elc,λtc htc=> ?_⟩⟩;have u1:=aK (o:=.tup (pc.map V.ref)) htc;have s2:=s1.trans u1;have etc:(upd H1 tc (.tup (pc.map V.ref))) tc=some (.tup (pc.map V.ref)):=aG;have hPc2:=hPc.same u1;generalize upd H1 tc (.tup (pc.map V.ref))=H2 at u1 s2 etc hPc2⊢;refine⟨_,rfl,p,_,2,_,rfl,rfl,CY.of (s2 _ _ hp),rfl,a,cl,rfl,ha.ext s2.ext,D.ck,λlh H3 hlh s3 elh=> ?_⟩;have eho:((aX (dJ cl)).map λk:Nat=>V.int (k:Int))=(B3++[hl]).map V.int:=by rw[←ehs];unfold C7;rw[d7];rfl
  rw[eho]at elh;refine⟨by show 2<=jv;decide,λpt hpt=> ?_⟩;have u3:=aK (o:=.tup [.ref tc,.ref lh]) hpt;have ept:(upd H3 pt (.tup [.ref tc,.ref lh])) pt=some (.tup [.ref tc,.ref lh]):=aG;have s4:=(s2.trans s3).trans u3;have etc4:=u3 _ _ (s3 _ _ etc);have elh4:=u3 _ _ elh;have hPc4:=(hPc2.same s3).same u3;generalize upd H3 pt (.tup [.ref tc,.ref lh])=H4 at ept s4 etc4 elh4 hPc4⊢;refine⟨pt,_,rfl,CY.of ept,rfl,_,_,rfl,_,_,rfl,rfl,?_⟩;refine⟨_,rfl,λd0 hd0=> ⟨by show 2<=jv;decide,λr0 hr0=> ⟨by show 1<=jv;decide,λlr hlr=> ?_⟩⟩⟩;have v1:=aK (o:=.dT []) hd0;have v2:=aK (o:=.tup [.ref tc,.ref d0]) hr0;have v3:=aK (o:=.lst [.ref r0]) hlr;have s7:=v1.trans (v2.trans v3);have elr:(upd (upd (upd H4 d0 (.dT [])) r0 (.tup [.ref tc,.ref d0])) lr (.lst [.ref r0])) lr=some (.lst ([r0].map V.ref)):=aG;have er0:=v3 _ _ (aG (H:=upd H4 d0 (.dT [])) (a:=r0) (o:=.tup [.ref tc,.ref d0]));have ed0:=v3 _ _ (v2 _ _ (aG (H:=H4) (a:=d0) (o:=.dT [])));have s8:=s4.trans s7;have etc7:=s7 _ _ etc4;have elh7:=s7 _ _ elh4;have hPc7:=hPc4.same s7;generalize upd (upd (upd H4 d0 (.dT [])) r0 (.tup [.ref tc,.ref d0])) lr (.lst [.ref r0])=H7 at elr er0 ed0 s8 etc7 elh7 hPc7⊢;have hl0:Dc (aQ pos g) []=aQ pos g:=by
   unfold Dc;exact bq.mpr λc _=>by simp
  have hR0:RwA H7 (aQ pos g) [] [r0] [[]]:=.cons ⟨tc,d0,er0,by rw[hl0];exact⟨pc,etc7,hPc7⟩,ed0⟩ .nil;refine⟨_,rfl,_,rfl,_,rfl,lh,_,rfl,CW.of elh7,λl1 hl1=> ?_⟩;rw[A70];have ecut:((B3++[hl]).map V.int).take (((B3++[hl]).map V.int).length - 1)=B3.map V.int:=by
   rw[dz,c8];show(B3.map V.int++[V.int hl]).take ((B3.map V.int).length+1 - 1)=_;rw[i8,List.take_left]
  rw[ecut];have w1:=aK (o:=.lst (B3.map V.int)) hl1;have el1:(upd H7 l1 (.lst (B3.map V.int))) l1=some (.lst (B3.map V.int)):=aG;have s9:=s8.trans w1;have etc9:=w1 _ _ etc7;have elh9:=w1 _ _ elh7;have hPc9:=hPc7.same w1;have elr9:=w1 _ _ elr;have hR9:=hR0.same w1;generalize upd H7 l1 (.lst (B3.map V.int))=H9 at el1 s9 etc9 elh9 hPc9 elr9 hR9⊢;refine⟨l1,rfl,⟨_,CW.of el1⟩,?_⟩;refine eU (K:=K) (a:=l1) (xs:=B3.map V.int) (λj σ H'=>Same H9 H'/\∃lr rs,(∃o4 o5 o6 o7 o8 o9 o10 o11,σ=[some (.ref p),some (.ref tc),some (.ref lh),some (.ref lr),o4,o5,o6,o7,o8,o9,o10,o11])/\H' lr=some (.lst ((rs:List ju).map V.ref))/\RwA H' (aQ pos g) (B3.take j) rs (dU ((B3.take j).map (bO g cs cl od))))
   ⟨Same.refl _,lr,[r0],⟨_,_,_,_,_,_,_,_,rfl⟩,elr9,hR9⟩ (λj σ H' _ h=>CW.of (h.1 _ _ el1)) ?_ ?_
  ·rintro j x σ H' hx ⟨sj,lr',rs,⟨o4,o5,o6,o7,o8,o9,o10,o11,rfl⟩,elr',hRj⟩;rw[cy]at hx;cases hb':B3[j]? with
   |none=>rw[hb']at hx;cases hx
   |some h=>
    rw[hb']at hx;cases hx;have hj:j<B3.length:=(CL.mp hb').1;have ue:=rlen j;have Cz:(B3.take j).length<=2:=by rw[du];omega
    have h2:(64:Nat)^(B3.take j).length<=64^2:=jq (by decide) Cz;have et:B3.take (j+1)=B3.take j++[h]:=by rw[iu,hb'];rfl
    have hh:eE cl h=true:=hhas h (by rw[ehs];exact d9 _ (fq hb'));refine rb _ _ _ o5 o6 o7 o8 o9 o10 o11 p lr' g w' cs cl od h (B3.take j) rs _ H' ((D.same s9).same sj) hh elr' hRj (λq hq=>A0o (iL g) (oR j) hq) (by omega) λo5' o6' o7' o8' o9' o10' lr2 rs2 H2' s2' e2' hR2=> ?_;refine⟨sj.trans s2',lr2,rs2,⟨_,_,_,_,_,_,_,_,rfl⟩,e2',?_⟩;rw[et,dz];show RwA H2' (aQ pos g) (B3.take j++[h]) rs2 (dU ((B3.take j).map (bO g cs cl od)++[bO g cs cl od h]));rw[A2b];exact hR2
  ·rintro σ H' ⟨sj,lr',rs,⟨o4,o5,o6,o7,o8,o9,o10,o11,rfl⟩,elr',hRj⟩;have hln:=rlen B3.length;rw[di,iq (CT _)]at hRj;rw[iq (CT _)]at hln;have oR':=oR B3.length;rw[iq (CT _)]at oR';have h3:(64:Nat)^B3.length<=64^3:=jq (by decide) hs3;have hrl:rs.length=_:=Paired.length hRj;refine⟨by show 0<=jv;decide,λle hle=> ?_⟩;have x1:=aK (o:=.lst []) hle;have ele:(upd H' le (.lst [])) le=some (.lst []):=aG;have nlr:lr'≠le:=λz=>by rw[z,hle]at elr';cases elr'
   have sE:=(s9.trans sj).trans x1;have etcE:=x1 _ _ (sj _ _ etc9);have elhE:=x1 _ _ (sj _ _ elh9);have hPcE:=(hPc9.same sj).same x1;have elrE:=x1 _ _ elr';have hRE:=hRj.same x1;have nle:∀{b u},H b=some u->b≠le:=λe=>bG ((s9.trans sj) _ _ e) hle;generalize upd H' le (.lst [])=H10 at ele sE etcE elhE hPcE elrE hRE x1⊢;generalize hRR:dU (B3.map (bO g cs cl od))=RR at hRE hrl hln hPp;have hln1:RR.length<=262144:=jd hln (jd h3 (by decide));refine⟨_,rfl,lr',rfl,⟨_,CW.of elrE⟩,?_⟩;refine eU (K:=K) (a:=lr') (xs:=rs.map V.ref) (λj σ H2=>(∃o7 o8,σ=[some (.ref p),some (.ref tc),some (.ref lh),some (.ref lr'),o4,o5,o6,o7,o8,o9,o10,some (.ref le)])/\Sb le H10 H2/\∃zs:List (ju×List Int),H2 le=some (.lst (zs.map λz=>V.ref z.1))/\(∀z∈zs,H2 z.1=some (.tup (z.2.map V.int)))/\zs.map (·.2)=((RR.take j).filter λq=>decide (Dc (aQ pos g) q∈bO g cs cl od hl)).map λq=>(aQ pos g).map λc=>(own B3 q c).getD hl)
    ⟨⟨_,_,rfl⟩,λ_ _ _ z=>z,[],ele,(λz hz=>by cases hz),rfl⟩ (λj σ H2 _ h=>CW.of (h.2.1 _ _ nlr elrE)) ?_ ?_
   ·rintro j x σ H2 hx ⟨⟨o7',o8',rfl⟩,sb,zs,e2,hz2,hm2⟩;obtain⟨r,hrj,rfl⟩:=eY hx;obtain⟨q0,hqj,t,d,g1,g2,g3⟩:=fU hRE hrj;have nt:∀{b:ju}{u:HO},H10 b=some u->(∀zs,u≠ .lst zs)->b≠le:=λz n y=>by rw[y,ele]at z;exact n _ (j7 z).symm
    have nl:∀{b:ju}{u:HO},(∀zs,u≠ .lst zs)->H10 b=some u->H2 b=some u:=λn z=>sb _ _ (nt z n) z;have nT:∀{ys:List V}(zs:List V),HO.tup ys≠ .lst zs:=λ_ z=>by cases z
    have hzl:zs.length<=262144:=by
     have h1:=congrArg pk hm2;rw[di,di]at h1;have h2:=dh (λq=>decide (Dc (aQ pos g) q∈bO g cs cl od hl)) (RR.take j);rw[du]at h2;omega
    have et:(RR.take (j+1)).filter (λq=>decide (Dc (aQ pos g) q∈bO g cs cl od hl))=(RR.take j).filter (λq=>decide (Dc (aQ pos g) q∈bO g cs cl od hl))++(if Dc (aQ pos g) q0∈bO g cs cl od hl then [q0]else []):=by
     rw[iu,hqj,bg]
     congr 1
     by_cases z:Dc (aQ pos g) q0∈bO g cs cl od hl<;>simp[z]
    have D2:PleA H2 p g w' cs cl od:=by
     have sub:Ext H H2:=by
      refine⟨λb zs h=>sb _ _ (nle h) (sE _ _ h),λb zs h=> ⟨zs,sb _ _ (nle h) (sE _ _ h)⟩,λb kvs h=>sb _ _ (nle h) (sE _ _ h)⟩
     exact D.ext sub
    refine⟨r,_,rfl,CY.of (nl nT g1),rfl,_,_,rfl,_,_,rfl,rfl,?_⟩;refine rf _ (some (.ref lr')) o4 o5 o6 o9 o10 p tc lh t d le g w' cs cl od hl B3 q0 pc _ H2 D2 (nl nT etcE) (Paired.mapP hPcE λ_ _ z=>nl nT z) (sb _ _ (λz=>by rw[z]at elhE;rw[ele]at elhE;have:=j7 elhE;injection this with this;simp at this) elhE) (A0o (iL g) oR' (by rw[hRR];exact fq hqj)) ⟨_,nl nT g2.choose_spec.1,Paired.mapP g2.choose_spec.2 λ_ _ z=>nl nT z⟩ (nl (λ_ z=>by cases z) g3) e2 (by rw[di];omega) (λH3 s3 hm=> ?_) λtt H3 hm s3 e3 ett=> ?_
    ·refine⟨⟨_,_,rfl⟩,λb u n e=>s3 _ _ (sb b u n e),zs,s3 _ _ e2,λz hz=>s3 _ _ (hz2 z hz),?_⟩;rw[et,if_neg hm,ak];exact hm2
    ·refine⟨⟨_,_,rfl⟩,sb.trans s3,zs++[(tt,(aQ pos g).map λc=>(own B3 q0 c).getD hl)],by rw[e3,dz];rfl,λz hz=> ?_,?_⟩
     ·rcases d8.mp hz with hz|hz
      ·exact s3 _ _ (λy=>by have:=hz2 z hz;rw[y,e2]at this;cases this) (hz2 z hz)
      ·rw[fy.mp hz];exact ett
     ·rw[et,if_pos hm,dz,dz,hm2];rfl
   ·rintro σ H2 ⟨⟨o7',o8',rfl⟩,sb,zs,e2,hz2,hm2⟩;rw[di,hrl,iq (CT _)]at hm2;have hperm:(zs.map (·.2)).Perm (PsP g cs cl od):=by rw[hm2];exact hPp.symm
    have hzl:zs.length<=262144:=by
     have h1:=congrArg pk hm2;rw[di,di]at h1;have h2:=dh (λq=>decide (Dc (aQ pos g) q∈bO g cs cl od hl)) RR;omega
    have hpw:(zs.map (·.2)).Pairwise (· ≠ ·):=gc.mp (hperm.nodup_iff.mpr (gc.mpr hPn));refine⟨_,rfl,le,zs,rfl,CW.of e2,λz hz=> ⟨hz2 z hz,λe=> ?_⟩,by omega,λ_=>hpw,λlz Cv hlz hS=> ?_⟩
    ·have:z.2∈zs.map (·.2):=fm.mpr ⟨z,hz,rfl⟩;rw[hm2]at this;obtain⟨q0,_,e0⟩:=fm.mp this;rw[e]at e0;have h1:=congrArg pk e0;rw[di,eD]at h1;have:=D.G.c1;simp at h1;omega
    ·have uz:=aK (o:=.lst (Cv.map λz=>V.ref z.1)) hlz;have sF:Same H H2:=λb u e=>sb _ _ (nle e) (sE _ _ e);refine q lz Cv _ (sF.free hlz) (sF.trans uz) aG (by rw[hS.1.length_eq];exact hzl) (λz hz=>uz _ _ (hz2 z (hS.1.mem_iff.mp hz))) ((hS.1.map _).trans hperm) (gv.mpr hS.2)
end
theorem B4a (h:PleA H p g w cs cl od):Dp H 1204 3 (.ref p):=by
 obtain⟨m,c,a,hp,⟨bs,hm,hB⟩,hc,⟨es,ha,hC⟩⟩:=h.ex;have hbl:bs.length=g.length:=Paired.length hB;have hel:es.length=cl.length:=Paired.length hC;have d1:Dp H 300 2 (.ref m):=by
  refine(Dp.tup (n:=32) (D:=1) (m:=3) hm (λx hx=> ?_) (by rw[di,hbl];exact h.g3)).mono (by decide) (by decide);obtain⟨b,hb,rfl⟩:=fm.mp hx;obtain⟨i,hi⟩:=fk.mp hb;obtain⟨xs,hxs,e⟩:=fU hB hi;have hm:=fq hxs;refine Dp.tup (n:=7) (D:=0) (m:=4) e (λy hy=> ?_) (by rw[di,h.G.len xs hm];exact h.w4);obtain⟨n,hn,rfl⟩:=fm.mp hy;have:=h.G.num xs hm n hn;exact Dp.num n (by omega)
 have d2:Dp H 300 2 (.ref c):=by
  refine(Dp.tup (n:=7) (D:=0) (m:=6) hc (λy hy=> ?_) (by rw[di];exact h.cu.l6)).mono (by decide) (by decide);obtain⟨n,hn,rfl⟩:=fm.mp hy;have:=h.cu.num n hn;exact Dp.num n (by omega)
 have d3:Dp H 300 2 (.ref a):=by
  refine Dp.tup (n:=24) (D:=1) (m:=12) ha (λx hx=> ?_) (by rw[di,hel];exact h.ck.l12);obtain⟨b,hb,rfl⟩:=fm.mp hx;obtain⟨i,hi⟩:=fk.mp hb;obtain⟨e,he,ee⟩:=fU hC hi;have:=h.ck.num e (fq he);refine Dp.tup (n:=7) (D:=0) (m:=3) ee (λy hy=> ?_) (CT _);simp only[fe,gh,or_false]at hy;rcases hy with rfl|rfl|rfl<;>exact Dp.num _ (by omega)
 refine Dp.tup (n:=300) (D:=2) (m:=4) hp (λx hx=> ?_) (CT _);simp only[fe,gh,or_false]at hx;rcases hx with rfl|rfl|rfl|rfl
 ·exact d1
 ·exact d2
 ·exact d3
 ·exact(Dp.mid (D:=2) od (by have:=h.o9;omega)).mono (by decide) (by decide)
theorem B1n {xs:List V}{lo hi:Option Int}{x:V}(h:x∈cI xs lo hi):x∈xs:=ft (fu h)
theorem A3p (x:α)(l:List α):atI (x::l) 0=some x:=by unfold atI ixN;rw[if_pos (by decide),if_pos (by rw[c9];omega)];rfl
noncomputable def Fst (R:List (List Int))(H:Hp)(x:V):Prop:=(R=[]/\x= .non)\/ ∃t ks,x= .ref t/\H t=some (.tup ((ks:List Int).map V.int))/\ks∈R/\∀k∈R,HT.lexLt k ks=false
theorem B08 {R:List (List Int)}{Q:VK}{Sm:Hp->Prop}(h:∀x H',Sm H'->Fst R H' x->Q x H'):sS R Q Sm:=⟨λe H' s=>h _ H' s (.inl ⟨e,rfl⟩),λt ks H' s e m z=>h _ H' s (.inr ⟨t,ks,rfl,e,m,z⟩)⟩
theorem B1p (h:ks∈PsP g cs cl od):ks.length=(aQ pos g).length:=by obtain⟨q,_,rfl⟩:=fm.mp h;unfold eK;rw[di]
noncomputable def nE (K:W.Frag):Sp:=λvs H Q _=> ∃(a:ju)(ns:List Int),vs=[.ref a]/\CW K H a (ns.map V.int)/\ns.length<=63/\∀H',Q (.bl true) H'
noncomputable abbrev A12:List Str:=["_law_script","_law_cell_here","_law_pen_here","_law_plea_here","_law_every","_law_kept","_law_told"]
noncomputable abbrev A5a:List mw:=fR ((dA mV).getD 0 (.Pass ⟨0,0,0,0⟩))
section
variable {P:j9}{w:kl}{K:W.Frag}{mg:Str->Option jt}{base:kj}
theorem scLaw:gD A12 ["_law_script"] (bB mV):=by ac_rfl
section
variable {f:ju}{cdv:jt}{A:mh}{outer:List Env}{s:jw}{H0:Hp}{E:XK}
noncomputable abbrev XL (P:j9)(w:kl)(K:W.Frag)(mg:Str->Option jt)(base:kj)(f:ju)(cdv:jt)(A:mh)(outer:List Env)(s:jw)(H0:Hp)(E:XK):Cx:=(fK CX0 P w K mg base A12 "law" (bB mV) f cdv A outer s H0 E).nox
theorem A8y (T:Txt mg)(TD:TxD mg)(hr:Room 13 (XL P w K mg base f cdv A outer s H0 E).A)(aP:A1 P w K mg base 5 "_law_partings" qY)(aF:A1 P w K mg base 12 "first_parting" uA)(aM:A1 P w K mg base 12 "many_partings" uZ)(aS:A1 P w K mg base 3 "_law_same" (nQ 2))(aE:A1 P w K mg base 1 "_law_pen" uP)(aL:A1 P w K mg base 4 "_law_plea" rJ):∃tt,CV (XL P w K mg base f cdv A outer s H0 E) A5a tt/\
  ∀(D:dC)(o0 o2 o3 o4 o5 o6:Option V)(i:Int)(H:Hp),(∀o2' o3' o4' o5' o6' H',Same H H'->D.nx [o0,some (.int i),o2',o3',o4',o5',o6'] H')->tt D [o0,some (.int i),o2,o3,o4,o5,o6] H:=by
 have nd:=scLaw.nd;have hg:=hr.gd;have hu:=hr.units;refine⟨_,aT (bJ (i:=2) nd rfl (ng rfl) (aE.c hr (aD (pv 1) aB)))<|
  aT (bJ (i:=3) nd rfl (ng rfl) (aL.c hr (aD (pv 2) (dH aU aB))))<|
  aT (jL (i:=4) (j:=5) rfl nd rfl rfl (by decide) rfl rfl (bM (aP.c hr (aD (pv 3) aB)) (bM (bD (A1c hg hu) rfl TD.repr boot_repr (aD (pv 3) aB)) aB)) rfl)<|
  aT (bJ (i:=6) nd rfl (ng rfl) (cZ (bM (aF.c hr (aD (pv 3) aB)) (bM (aM.c hr (aD (pv 3) aB)) aB))))<|
  aR (bV (PW.pt (jP (cX (cA (aS.c hr (aD (pv 6) (lU (cZ (fE (bK fG (bC jI (pv 4) (cZ (dH pD aB))) aU (λ_ _=>rfl)) (bM (bD eJ rfl T.len m9 (aD (pv 4) aB)) aB))) aB))))) (lK (cB uM (bD (A1c hg hu) rfl TD.repr boot_repr (aD (pv 3) aB)) (pv 5) (nomark _))))) (aR (aY fH)) bU),λD o0 o2 o3 o4 o5 o6 i H hD=> ?_⟩
 refine⟨_,rfl,i,rfl,λpn H1 hp0 s1 pen=> ?_⟩;refine⟨_,rfl,pn,rfl,pen,λpl g w' cs cl od H2 st2 hP=> ?_⟩;obtain⟨dp,hp1,gp,dp1,dp2⟩:=B4a hP;have shw:Shw dp:=⟨gp.mono (by decide) (by decide),λz=>by rw[dp1]at z;cases z⟩;refine⟨_,rfl,pl,g,w',cs,cl,od,rfl,hP,λle zs H3 hle s3 ele hzl hz hperm hsort=> ?_⟩;refine⟨_,rfl,.ref pl,_,rfl,hp1.tp s3.ext.tup dp1 dp2,shw,_,_,rfl,?_⟩;have ue:zs.length=(PsP g cs cl od).length:=by rw[←hperm.length_eq,di]
 refine⟨_,rfl,pl,g,w',cs,cl,od,rfl,hP.same s3,B08 λx H4 s4 hx=> ?_⟩;refine⟨_,rfl,pl,g,w',cs,cl,od,rfl,(hP.same s3).same s4,λH5 s5=> ⟨by show 2<=jv;decide,λlt CA=> ?_⟩⟩;have u6:=aK (o:=.lst [x,.int ((PsP g cs cl od).length:Nat)]) CA;have CC:(upd H5 lt (.lst [x,.int ((PsP g cs cl od).length:Nat)])) lt=some (.lst [x,.int ((PsP g cs cl od).length:Nat)]):=aG;have s36:=(s4.trans s5).trans u6;have s46:=s5.trans u6;generalize upd H5 lt (.lst [x,.int ((PsP g cs cl od).length:Nat)])=H6 at CC s36 s46⊢;refine⟨_,rfl,_,rfl,by show 1<=jv;decide,λl1 hl1=> ?_⟩;have v1:=aK (o:=.lst [.non]) hl1;refine⟨le,l1,_,_,rfl,rfl,v1 _ _ (s36 _ _ ele),aG,by rw[di,ko];show zs.length+1<=_;omega,λl2 Cz=> ?_⟩;have v2:=aK (o:=.lst (zs.map (λz=>V.ref z.1)++[.non])) Cz;have s8:=s36.trans (v1.trans v2);have s68:=v1.trans v2;have el2:(upd (upd H6 l1 (.lst [.non])) l2 (.lst (zs.map (λz=>V.ref z.1)++[.non]))) l2=some (.lst (zs.map (λz=>V.ref z.1)++[.non])):=aG;generalize upd (upd H6 l1 (.lst [.non])) l2 (.lst (zs.map (λz=>V.ref z.1)++[.non]))=H8 at el2 s8 s68⊢;obtain⟨y,hy,hxy⟩:∃y,atI (zs.map (λz=>V.ref z.1)++[.non]) 0=some y/\∀H',Same H8 H'->SameV H' 1 x y:=by
  cases zs with
  |nil=>
   refine⟨.non,rfl,λH' s'=> ?_⟩;have e0:PsP g cs cl od=[]:=ay ue.symm;rcases hx with⟨_,rfl⟩| ⟨t,ks,_,_,hm,_⟩
   ·exact SameV.non 1
   ·rw[e0]at hm;cases hm
  |cons z0 zs=>
   refine⟨.ref z0.1,A3p _ _,λH' s'=> ?_⟩;rcases hx with⟨e,_⟩| ⟨t,ks,rfl,et,hm,hmin⟩
   ·rw[e]at ue;cases ue
   ·have hz0:z0.2∈PsP g cs cl od:=hperm.mem_iff.mp (by rw[d6];exact CQ);have e1:=hmin _ hz0;have e2:HT.lexLt ks z0.2=false:=by
     have hk:=hperm.mem_iff.mpr hm;rw[d6]at hk hsort;rcases fe.mp hk with e|e
     ·rw[e];exact gL _
     ·exact(gr.mp hsort).1 ks e
    have ek:z0.2=ks:=kI e1 e2;have h1:=s' _ _ (s8 _ _ (hz z0 CQ));have h2:=s' _ _ ((s46.trans s68) _ _ et);rw[ek]at h1;refine .inr ⟨_,_,_,_,rfl,rfl,.inr ⟨h2,h1⟩,?_,?_⟩
    ·rw[di];have:=B1p hm;rw[eD]at this;have:=hP.c6;omega
    ·clear h1 h2 ek e2 e1 et hm hmin
     induction ks with
     |nil=>exact .nil
     |cons k ks ih=>exact .cons (SameV.int 0 k) ih
 refine⟨l2,_,0,y,rfl,rfl,CW.of el2,hy,_,rfl,le,_,rfl,.inl (CW.of (s8 _ _ ele)),by show 2<=jv;decide,λld hld=> ?_⟩;rw[di,ue];have v9:=aK (o:=.lst [y,.int ((PsP g cs cl od).length:Nat)]) hld;refine⟨_,_,rfl,.inr ⟨lt,ld,_,_,rfl,rfl,.inl ⟨v9 _ _ (s68 _ _ CC),aG⟩,by show 2<=1000;decide,.cons (hxy _ v9) (.cons (SameV.int 1 _) .nil)⟩,λH10 s10=> ⟨_,rfl,bY ?_⟩⟩;have sA:=(s8.trans v9).trans s10;refine⟨_,rfl,.ref pl,_,rfl,hp1.tp (s3.trans sA).ext.tup dp1 dp2,shw,_,rfl,rfl,_,rfl,?_⟩;refine rF rfl ?_;exact hD _ _ _ _ _ H10 λb u e=>sA _ _ (s3 _ _ (st2.keep b u (bG e hp0) (s1 _ _ e)))
end
theorem B0a {f:ju}{fd:tm}(F:Fun K "law" "law" mV f fd)(T:Txt mg)(TD:TxD mg)(aP:A1 P w K mg base 5 "_law_partings" qY)(aF:A1 P w K mg base 12 "first_parting" uA)(aM:A1 P w K mg base 12 "many_partings" uZ)(aS:A1 P w K mg base 3 "_law_same" (nQ 2))(aE:A1 P w K mg base 1 "_law_pen" uP)(aL:A1 P w K mg base 4 "_law_plea" rJ)
  (aZ:A1 P w K mg base 1 "_law_cell" (zI K)):FnOk P w K mg base CX0 14 f fd ["_law_script"] (nE K):=by
 refine F.ok scLaw (λvs H Q E h=> ?_) (λcdv A outer s H vs Q E hr h=> ?_)
 ·obtain⟨a,ns,rfl,_⟩:=h;rfl
 ·obtain⟨a,ns,rfl,hS,ue,q⟩:=h;have nd:=scLaw.nd;obtain⟨tb,hb,rb⟩:=A8y (P:=P) (w:=w) (K:=K) (mg:=mg) (base:=base) (f:=f) (cdv:=cdv) (A:=A) (outer:=outer) (s:=s) (H0:=H) (E:=E) T TD hr aP aF aM aS aE aL;refine⟨_,aT (dF k9 rfl (cR (bC jI (cZ (bM (aZ.c hr (aD (pv 0) (dH aU aB))) aB)) (jY pI (pv 0) (iQ aU) (iQ aU)))) (CZ 1 nd) hb)<|
   aR (aY fH),?_⟩
  refine⟨_,rfl,a,ns,0,rfl,hS,by decide,λc0=> ?_⟩;refine⟨by show 1<=jv;decide,λl0 hl0=> ?_⟩;have s0:=aK (o:=.lst [.int c0]) hl0;refine⟨_,rfl,_,rfl,_,rfl,a,_,rfl,s0.seq hS,λl1 hl1=> ?_⟩;have s1:=aK (o:=.lst (cI (ns.map V.int) (some 1) (some 2))) hl1;have hcl:=uO (ns.map V.int) (some 1) (some 2);rw[di]at hcl;refine⟨l0,l1,_,_,rfl,rfl,s1 _ _ aG,aG,by rw[ko];show 1+_<=_;omega,λlc hlc=> ?_⟩;have e2:(upd (upd (upd H l0 (.lst [.int c0])) l1 (.lst (cI (ns.map V.int) (some 1) (some 2)))) lc (.lst ([.int c0]++cI (ns.map V.int) (some 1) (some 2)))) lc=some (.lst ([.int c0]++cI (ns.map V.int) (some 1) (some 2))):=aG;generalize upd (upd (upd H l0 (.lst [.int c0])) l1 (.lst (cI (ns.map V.int) (some 1) (some 2)))) lc (.lst ([.int c0]++cI (ns.map V.int) (some 1) (some 2)))=H1 at e2⊢;refine⟨lc,rfl,⟨_,CW.of e2⟩,?_⟩;refine eU (K:=K) (a:=lc) (xs:=[.int c0]++cI (ns.map V.int) (some 1) (some 2)) (λi σ H'=>(∃o1 o2 o3 o4 o5 o6,σ=[some (.ref a),o1,o2,o3,o4,o5,o6])/\Same H1 H')
   ⟨⟨_,_,_,_,_,_,rfl⟩,Same.refl _⟩ (λi σ H' _ h=>CW.of (h.2 _ _ e2)) ?_ ?_
  ·rintro i y σ H' hi ⟨⟨o1,o2,o3,o4,o5,o6,rfl⟩,hs⟩;obtain⟨c,rfl⟩:∃c,y=V.int c:=by
    rcases d8.mp (fq hi)with z|z
    ·exact⟨c0,fy.mp z⟩
    ·obtain⟨c,_,e⟩:=fm.mp (B1n z);exact⟨c,e.symm⟩
   exact rb _ (some (.ref a)) o2 o3 o4 o5 o6 c H' λo2' o3' o4' o5' o6' H2 s2=> ⟨⟨_,_,_,_,_,_,rfl⟩,hs.trans s2⟩
  ·rintro σ H' _;exact q H'
theorem all_mk {l:W.OpenLaw}{w:kl}{K:W.Frag}{h:kj}{mg:Str->Option jt}{fa:ju}{t0 t1 t2 t3 t4 t5 t6 t7 t8 t9 t10 t11 t12:Tok}(X:K.In h)(G:h.Ns kf mg)(hfa:mg "law" =some (.ref fa))
  (q0:Fk K "is_number" A2p)
  (q1:Fk K "is_number_within" A2l)
  (q2:Fk K "is_tuple_within" A1z)
  (q3:Fk K "places_of_cells" rQ)
  (q4:Fk K "is_row" pK)
  (q5:Fk K "is_mead" oN)
  (q6:Fk K "check_mead" wB)
  (q7:Fk K "cells_of" yI)
  (q8:Fk K "roads_of" tP)
  (q9:Fk K "worth_together" mQ)
  (q10:Fk K "places_beside" yA)
  (q11:Fk K "piece_round" nH)
  (q12:Fk K "is_rising" tG)
  (q13:Fk K "is_one_piece" yG)
  (q14:Fk K "has_some_of" qV)
  (q15:Fk K "cells_at_road" qZ)
  (q16:Fk K "is_custom" uG)
  (q17:Fk K "is_claim" A2y)
  (q18:Fk K "are_claims" nI)
  (q19:Fk K "check_custom" A10)
  (q20:Fk K "check_claims" xE)
  (q21:Fk K "stand_under" sX)
  (q22:Fk K "check_claims_under" wM)
  (q23:Fk K "is_holder" qU)
  (q24:Fk K "check_holder" zX)
  (q25:Fk K "holders_of" pP)
  (q26:Fk K "count_together" tX)
  (q27:Fk K "count_of" qB)
  (q28:Fk K "fraction" xU)
  (q29:Fk K "share_of" A1w)
  (q30:Fk K "_law_cell" xH)
  (q31:Fk K "_law_pen" yS)
  (q32:Fk K "_law_draw" sK)
  (q33:Fk K "_law_pick" vX)
  (q34:Fk K "_law_same" jQ)
  (q35:Fk K "_law_custom" sW)
  (q36:Fk K "_law_claims" pC)
  (q37:Fk K "_law_holders" rY)
  (q38:Fk K "_law_count" yX)
  (q39:Fk K "_law_total" qG)
  (q40:Fk K "_law_mead" jR)
  (q41:Fk K "_law_plea" zU)
  (q42:Fk K "is_odd" A3e)
  (q43:Fk K "is_plea" A16)
  (q44:Fk K "check_plea" yY)
  (q45:Fk K "check_plea_and_holder" A2n)
  (q46:Fk K "whole_worth" xA)
  (q47:Fk K "due_of" A0w)
  (q48:Fk K "rising_tuples" tO)
  (q49:Fk K "is_sound" A2d)
  (q50:Fk K "sound_lands" rX)
  (q51:Fk K "worth_the_due" tL)
  (q52:Fk K "fits_of_all" nG)
  (q53:Fk K "_law_next_to" yO)
  (q54:Fk K "_law_hangs" pB)
  (q55:Fk K "_law_worth" A3a)
  (q56:Fk K "_law_cells" rD)
  (q57:Fk K "_law_lands" tF)
  (q58:Fk K "_law_by_road" tY)
  (q59:Fk K "_law_fits" zW)
  (q60:Fk K "_law_fit_lands" sY)
  (q61:Fk K "marks_of" zZ)
  (q62:Fk K "parting_written" A0n)
  (q63:Fk K "with_one_more" lE)
  (q64:Fk K "ways_to_part" fZ)
  (q65:Fk K "first_way" zC)
  (q66:Fk K "first_parting" wO)
  (q67:Fk K "many_partings" A0r)
  (q68:Fk K "_law_partings" gB)
  (q69:Fk K "law" mV)
  (v0:W.nsIn K kf "MOST_ROWS" =some (some (.int 4 t0)))
  (v1:W.nsIn K kf "MOST_COLUMNS" =some (some (.int 6 t1)))
  (v2:W.nsIn K kf "MOST_CELLS" =some (some (.int 10 t2)))
  (v3:W.nsIn K kf "MOST_WORTH" =some (some (.int 99 t3)))
  (v4:W.nsIn K kf "WATER" =some (some (.int (-2) t4)))
  (v5:W.nsIn K kf "ROAD" =some (some (.int (-1) t5)))
  (v6:W.nsIn K kf "MOST_SORTS" =some (some (.int 6 t6)))
  (v7:W.nsIn K kf "MOST_COUNTED" =some (some (.int 100 t7)))
  (v8:W.nsIn K kf "MOST_HOLDERS" =some (some (.int 4 t8)))
  (v9:W.nsIn K kf "MOST_RIGHTS" =some (some (.int 20 t9)))
  (v10:W.nsIn K kf "MOST_CLAIMS" =some (some (.int 12 t10)))
  (v11:W.nsIn K kf "MOST_ODD" =some (some (.int 999 t11)))
  (v12:W.nsIn K kf "FIGURES" =some (some (.int 4 t12)))
  (z0:W.nsIn K kf "isinstance" =some none)
  (z1:W.nsIn K kf "int" =some none)
  (z2:W.nsIn K kf "bool" =some none)
  (z3:W.nsIn K kf "tuple" =some none)
  (z4:W.nsIn K kf "len" =some none)
  (z5:W.nsIn K kf "all" =some none)
  (z6:W.nsIn K kf "enumerate" =some none)
  (z7:W.nsIn K kf "range" =some none)
  (z8:W.nsIn K kf "list" =some none)
  (z9:W.nsIn K kf "zip" =some none)
  (z10:W.nsIn K kf "sum" =some none)
  (z11:W.nsIn K kf "dict" =some none)
  (z12:W.nsIn K kf "set" =some none)
  (z13:W.nsIn K kf "sorted" =some none)
  (z14:W.nsIn K kf "any" =some none)
  (z15:W.nsIn K kf "abs" =some none)
  (z16:W.nsIn K kf "reversed" =some none)
  (z17:W.nsIn K kf "repr" =some none)
  (z18:W.nsIn K kf "divmod" =some none)
  (z19:W.nsIn K kf "min" =some none):
  ∃fd:tm,(∀(s:jw)(v:jt),BS s fd ⟨[v],[]⟩ [("_law_script",v)])/\∀base:kj,K.In base->base.Ns kf mg->FnOk l.prog w K mg base CX0 14 fa fd ["_law_script"] (nE K):=by
 have n:∀x,W.nsIn K kf x=some none->mg x=none:=λ_=>W.mg_none_of X G;have T0:Txt mg:=⟨n _ z0,n _ z1,n _ z2,n _ z3,n _ z4,n _ z5,n _ z6,⟨_,W.mg_of X G v0⟩,⟨_,W.mg_of X G v1⟩,⟨_,W.mg_of X G v2⟩,⟨_,W.mg_of X G v3⟩,⟨_,W.mg_of X G v4⟩⟩;have T1:dZ mg:=⟨n _ z7,n _ z8,n _ z9,n _ z10,n _ z11,n _ z12,n _ z13,n _ z14,n _ z15,⟨_,W.mg_of X G v5⟩⟩;have T2:C5 mg:=⟨n _ z0,n _ z1,n _ z2,n _ z3,n _ z4,n _ z5,n _ z14,n _ z9,n _ z7,n _ z10,n _ z8,n _ z12,n _ z13,⟨_,W.mg_of X G v6⟩,⟨_,W.mg_of X G v7⟩,⟨_,W.mg_of X G v8⟩,⟨_,W.mg_of X G v9⟩,⟨_,W.mg_of X G v10⟩⟩;have T3:TxD mg:=⟨n _ z16,n _ z17,⟨_,W.mg_of X G v11⟩⟩;have T4:TxW mg:=⟨n _ z18,n _ z19,⟨_,W.mg_of X G v12⟩⟩;obtain⟨_,F,hb⟩:=q69.law (y:="_law_script") X G hfa λ_ _ _ _ _ _ _=>rfl;refine⟨_,hb,λbase _ _=> ?_⟩;let D:=A1 l.prog w K mg base;have g0:D _ _ _:=A4p (q0.d X G) T0;have g1:=A7v (q1.d X G) g0;have g2:D _ _ _:=A7h (q2.d X G) T0;have g3:D _ _ _:=B52 (q3.d X G) T0;have g4:=A9p (q4.d X G) T0 g2 g1;have g5:=A7m (q5.d X G) T0 g2 g4 g3;have g6:=A6u (q6.d X G) g5;have g7:=A35 (q7.d X G) g6 g3;have g8:=B4r (q8.d X G) T0 T1 g6;have g9:D _ _ _:=A77 (q9.d X G) T1;have g10:D _ _ _:=A87 (q10.d X G);have g11:=B4v (q11.d X G) T0 T1 g10;have g12:=A7i (q13.d X G) g11;have g13:D _ _ _:=B1x (q14.d X G) T1;have g14:=A4n (q15.d X G) T1 g8 g7 g10;have g15:D _ _ _:=A8f (q9.d X G) T1;have g16:D _ _ _:=B1y (q12.d X G) T2;have g17:=B2p (q16.d X G) T2 g2 g1;have g18:=B0n (q17.d X G) T2 g2 g1;have g19:=B4n (q18.d X G) T2 g2 g18 g16;have g20:=A5p (q19.d X G) g17;have g21:=B10 (q20.d X G) g19;have g22:D _ _ _:=A9x (q21.d X G) T2;have g23:=B18 (q22.d X G) g20 g21 g22;have g24:=B2m (q23.d X G) T2 g0;have g25:=A90 (q24.d X G) g24;have g26:=B5z (q25.d X G) T2 g21 g24;have g27:D _ _ _:=A5i (q26.d X G) T2;have g28:=A93 (q27.d X G) g23 g25 g27;have g29:D _ _ _:=B0y (q28.d X G);have g30:=B4i (q29.d X G) g29 g28 g27;have g31:D _ _ _:=A4j (q30.d X G) T2;have g32:D _ _ _:=A7d (q31.d X G) T2;have g33:D _ _ _:=B4d (q32.d X G) T2;have g34:=A7p (q33.d X G) T2 g33;have g35:D _ _ _:=A9h (q34.d X G) T2 2;have g36:=A3z (q35.d X G) T2 g33 g34;have g37:=A9z (q36.d X G) T2 g33 g34;have g38:D _ _ _:=A5l (q37.d X G) T2;have g39:D _ _ _:=B1w (q38.d X G) T2;have g40:D _ _ _:=B5t (q39.d X G) T2;have g41:=B5r (q40.d X G) T2 g33 g34;have g42:=B1l (q41.d X G) T2 g33 g34 g41 g36 g37;have g43:=B2c (q42.d X G) T3 g1;have g44:=B1v (q43.d X G) g2 g5 g17 g19 g22 g43;have g45:=A3v (q44.d X G) g44;have g46:=A5r (q45.d X G) g45 g25;have g47:=A8z (q46.d X G) g9 g7;have g48:=A9u (q47.d X G) g46 g30 g29 g47;have g49:D _ _ _:=A9r (q48.d X G) T3;have g50:=B0b (q49.d X G) g13 g12;have g51:=A9v (q50.d X G) g14 g49 g7 g50;have g52:=A5f (q51.d X G) T1 g48 g15;have g53:=B2e (q52.d X G) g45 g51 g52 g26;have g54:D _ _ _:=B22 (q53.d X G) T1;have g55:=B5k (q54.d X G) T2 g54;have g56:D _ _ _:=A8e (q55.d X G);have g57:D _ _ _:=A4m (q56.d X G) T0 T1;have g58:=B2q (q57.d X G) g57;have g59:=B07 (q58.d X G) T0 g54;have g60:=B2z (q59.d X G) T1 g40 g56 g57 g39 g55 g59;have g61:=A8o (q60.d X G) T1 g58 g60;have g62:D _ _ _:=A95 (q61.d X G) T4;have g63:D _ _ _:=B3r (q62.d X G) T4 T0;have g64:D _ _ _:=A4g (q63.d X G) T4;have g65:=A7n (q64.d X G) g62 g63 g64;have g66:=A6q (q65.d X G) g65;have g67:=B4q (q66.d X G) g53 g7 g66;have g68:=B0m (q67.d X G) g53 g7 g65;have g69:=A8l (q68.d X G) T0 T1 g57 g38 g60 g61;exact B0a F T0 T3 g69 g67 g68 g35 g32 g42 g31
theorem walk {l:W.OpenLaw}{q:j9}{loose:List Str}{XP:(Str->Option jt)->kj->Prop}{YP:kl->kj->Prop}{d:DefRec}{K:Params->W.Frag}(hn:l.most=some 63)(hdf:d.params.defaults=[])
  (hY:∀(w:kl)(h:kj),YP w h->(K w.params).In h)
  (F:∀(w:kl)(mg:Str->Option jt)(fa:ju)(h:kj),(K w.params).In h->h.Ns kf mg->mg d.name=some (.ref fa)->
   ∃fd:tm,(∀(s:jw)(u:jt),BS s fd ⟨[u],[]⟩ [("_law_script",u)])/\∀base:kj,(K w.params).In base->base.Ns kf mg->FnOk l.prog w (K w.params) mg base CX0 14 fa fd ["_law_script"] (nE (K w.params))):
  W.WalkO q loose XP YP l.row.toRowW d [] (λf vs=>PySem.call f vs):=
 L2.walk_of (n:=63) (k:=14) (x:="_law_script") (CX:=λ_=>CX0) (sp:=λw=>nE (K w.params)) hn (by decide) hdf ⟨rfl,by decide,by decide,rfl⟩ hY F (λ_ _ a ns hl _ hS=> ⟨a,ns,rfl,hS,hl,λ_=>rfl⟩) λ_ _ _ _ _ z=>z
end
end M09
open PySem PySem.W PyProof.Rows L2
structure PySem.W.Fast:Prop where(tw3757922326336463807 tw8042476143162488254 tw12421209492971977498 tw15777121977475071193 tw9684399993826227070 tw2982678585930378612 tw1433293509232492980 tw15833200100555925348 tw17369740346003264097 tw7537567959699452129 tw2259813312776783898 tw9455869042961156512 tw14656833422832598732 tw7488045555647646790 tw2881128262134871347 tw11727935922661884330 tw17262691514532489436 tw1926055993721740726 tw13224533998537176736 tw3998313478468773765 tw1209210374805167173 tw10636613829157517205 tw740615340310056933 tw16535217177504606342 tw13754603112360274902 tw14857312014886817219 tw10096742904104624207 tw4307244428710499880 tw12527887328172652193 tw4659476751205514459 tw6283435754735160109 tw1913047730894554107 tw15611898227851596706 tw5474313017957289726 tw8101924925313526765 tw8740480439345850519 tw16763282044201912135 tw2064528979347725945 tw10881502336727670063 tw14990770210492015906 tw5132016466641867161 tw18038057419325153862 tw18152952172061757680 tw16199854080123647100 tw4013324328156955864 tw2078625487354486053 tw18260736536629660684 tw1190779323363791478 tw8685614276786867370 tw16623497553809440814 tw7851676571920829388 tw10586144616245808750 tw11827274425125197403 tw8171699352137301399 tw4390301764893907545 tw7363510698144071736 tw5743019985932905307 tw3922999398089587665 tw5842902168979491669 tw9292920563958289571 tw13684243517838329721 tw4821514272149613015 tw6361810776054013218 tw7838528444737836443 tw7914157919579175017 tw3910675310067646338 tw1435266929129677021 tw18125212154684923807 tw16807438602112409034 tw3023321174692882746 tw2097719861490640171 tw8041389697814540737 tw8825478686502898273 tw16794169561727596948 tw15463601725165306254 tw1957332111689308726 tw14387168643841169422 tw3429535994098684819 tw17749686346285343096 tw10731011970604079626 tw9791681348464468521 tw16039039937167839789 tw6809820491638981151 tw11000115015879034640 tw1221966635922147513 tw12169554457926331268 tw10173924993812075848 tw10293013323755847740 tw6569652101454002240 tw2243992296244616234 tw16568111563700582658 tw13873803252278591786 tw8330391658014709797 tw17041891162666986817 tw6584976825540409465 tw1109349276028749258 tw7641207531285188820 tw16886099501338082402 tw1930985637316502667 tw9404287893383012105 tw12649471165384914194 tw5430897273846925830 tw11168625332330682825 tw10061388312626741080 tw7567840440104509236 tw8537250304707509990 tw14943306536950263551 tw14740670449578057755 tw14141189763589093372 tw5794140288263537897 tw4928012755151718202 tw15126979136721945214 tw12170370277717038025 tw8927775687452640335 tw6621029957549570924 tw931592112262058854 tw10904402227228769526 tw9821715505212661900 tw12776586219903320568 tw14419944111178353779 tw4248812327795314801 tw14297284963688115444 tw18418346855286585778 tw8887185535026246868 tw12200303752392439334 tw6821040288059294750 tw17783905084071302154 tw12338406027437607298 tw16148111640345186685 tw14563375048991287378 tw9554907355157352803 tw15129071375714568291 tw8110156442139802084 tw8987334305544555241 tw1397412566739264202 tw2231399582489523392 tw16504269764170879678 tw7932051535155544102 tw15108499744429886246 tw10599801071570947447 tw121685393960152393 tw14026701068735008375 tw5797158719606417764 tw13670633698578982692 tw9328021716211826223 tw11235098463409338024 tw4970358039786721310 tw1942957348412238451 tw4370099251417200171 tw15674368321016866509 tw2185099914997644515 tw4767699075368437872 tw11084027165723519442 tw13730144362276072458 tw1614954069596695012 tw8204344408103541176 tw11405523400805456560 tw11483852045758509873 tw12720553071268240606 tw3941672415468418987 tw15107289066832582803 tw2321909971340371390 tw15034605756063742632 tw5593767742047952793 tw9061433802235181623 tw2149687286976891196 tw11972793126472463838 tw2020916802742613360 tw3330620808065689813 tw13843057447035519551 tw13583512031388886064 tw15862797193650515875 tw1921662006599989490 tw12276965616510218180 tw11510885122606269330 tw1173332575736871781 tw4039796539489972627 tw11446298580218308611 tw2967388671152194343 tw15742878391244634095 tw5187148335531806377 tw6328186764270351282 tw17683193830779793697 tw10979105920678420558 tw4877662077993968456 tw16785910700942523486 tw2839807665026709941 tw16866157803499420283 tw3607473967655038500 tw11528311720516279012 tw1325555855647869615 tw2821321045497473851 tw14226129495058463389 tw3186607647819214687 tw2512140790630416990 tw5744282498907425962 tw14033498652512824943 tw17504232450481410179 tw15534552293163064354 tw15408992889738776362 tw2348531915400214298 tw6149219421585384152 tw5994949711766034715 tw737061844964560669 tw14462549510724966689 tw13341503366067499971 tw9438038371922257381 tw18193301054653408388 tw3843054355347708857 tw8389118069252442797 tw13293017271139756712 tw14261972713278108188 tw7467510590859000390 tw16351259716329956480 tw8541601446785934597 tw4805164539447705837 tw7818572635265031940 tw6748300246841162825 tw10784991506008589232 tw9930156554475420461 tw4164410321537705244 tw5391827396126362372 tw1545941903876488131 tw15966259795153844732 tw1999879507509903919 tw5013932310449961082 tw4698834600846967102 tw1620407975563884414 tw11566759593847577762 tw6324675135920164034 tw12957106296197957069 tw2449879332775522690 tw9748461411260975584 tw1836967330473913942 tw17261937461582644660 tw8010827662661183569 tw12766411335616724186 tw18001144450536309107 tw886289784098321203 tw12279476152049745930 tw12021855061451383733 tw2057853138416231030 tw3270410031305395201 tw11988112547151097494 tw12926019204994775066 tw4460107983494313355 tw4362806434256067161 tw10748394375831308900 tw379341979927443036 tw11259964894064275168 tw13538004770253070014 tw11959571944807143673 tw13027768151884310391 tw7376777219852469340 tw14044018145078718282 tw17960948403447963937 tw10755465426983441311 tw4051450270941064145 tw12856800058809139716 tw11839504647008360382 tw6881330157448422687 tw10332048090537638957 tw2780553444037129133 tw8677125386711812632 tw15186984178622753009 tw11162155332616943128 tw16551021170169278472 tw3482630027633759195 tw11277537817739449922 tw9844010859139819023 tw4202476572647658561 tw13288360219228932068 tw10286203809359811081 tw10688921020206695334 tw5132214003248917686 tw14546419787619790370 tw14013642834780375370 tw6356122810556196495 tw8866217127827923834 tw13570552091962717307 tw6916380551279723210 tw10130175561936525986 tw12350002568218876348 tw9160258801697684234 tw3128323907136437966 tw6678009110082275220 tw4886013213184772918 tw8399252656399261026 tw3389390722805700288 tw1826095504965167524 tw10235323020759406191 tw7632013545098834167 tw12885850464066029725 tw10598232607523609118 tw4052650935290485656 tw16103126700073877299 tw3961702807265862698 tw570625522375542812 tw5133441510475726993 tw9139729395436053885 tw15058716438016497996 tw6086553366952429223 tw11430463745376137322 tw5589910112958183394 tw1858415805153099945 tw2441317915017700681 tw5263982049339982903 tw2968415088739267689 tw1780484002047370763 tw14165754409473307009 tw12500119182352155251 tw5618387348747381298 tw18388382102359246271 tw10794959367465495083 tw3569145963433323186 tw13580544799461728895 tw17122847061308122856 tw14182988790343907054 tw9758959538077180986 tw2112437686140598005 tw17466535323519373132 tw8714139583251342121 tw5804107058826798416 tw12940630976354743318 tw6577691044241456179 tw6053235558007864638 tw439498020537194115 tw13107260652761634099 tw10026006883719127140 tw6413681426860103473 tw16447674167611262835 tw14116081353372185362 tw16087041724608039778 tw3252035767823127615 tw3873573737616669869 tw13718466221221883210 tw5877802035280038132 tw1419094099101619109 tw8186828712958038003 tw5638166079639462452 tw1063390088984429244 tw15730421350798963997 tw3373567563707930777 tw5736297108251038507 tw2975337041003378729 tw13041527607526574466 tw7010458234062518857 tw18167740560737044743 tw8317007723298034717 tw17494521540638671769 tw8477345135357052659 tw11319903340174264849 tw14051710213733694970 tw11104197981318843411 tw2583429125081144740 tw1131888791987571525 tw4566590197998385321 tw9933673606182967293 tw6577316709702614315 tw16003824700631887407 tw2956961739261637917 tw11082103810352469875 tw4191554673178859428 tw18166783565145587582 tw4547579305080192348 tw115293842344230035 tw1657472101021643666 tw446489808154487047 tw10748991391395621732 tw14844217930295047602 tw9311217686729397575 tw13891190929696425530 tw239387064365411928 tw8452604489392282930 tw798186527093403762 tw6892674764083146063 tw2135326309154599412 tw11287499119155771323 tw6280293266122076445 tw13427775027411729497 tw2873097963539845297 tw11853608693177509249 tw11024730625244262759 tw17262708906450896647 tw9992549746895690377 tw435477787101579723 tw11166611114353676524 tw7719444326955148768 tw15430498991662337106 tw6853467883021497463 tw17031185537453008500 tw10113790642545261665 tw4028832179620363214 tw5383507768360194229 tw15366190076204675405 tw2535639753220019492 tw15509528815915587807 tw12461003624178511308 tw13648503312934696306 tw1396414062027283106 tw13555101894025334121 tw828338779403695256 tw12891285831889443586 tw5253925838653556993 tw3887638026251863148 tw6141064405927597607 tw14965351460909855008 tw16584013810514488045 tw14998030915248189780 tw426512927747079725 tw10409237571828776523 tw10388777496064399276 tw16715143226607521837 tw15836495777400961816 tw17957416102580003327 tw639551958796761745 tw7747384587039640753 tw5950471066299515735 tw553703318464771643 tw11921508011018191845 tw12058654370088214335 tw6652641514197002494 tw16008851107497455928 tw16625814104449993317 tw1787615580773948716 tw13726507524835577885 tw7285919932947846094 tw4216454917567819527 tw9467771782797731231 tw12685547591942800618 tw8908458142054656047 tw17398001072314101167 tw12900830363397987647 tw17910918696942183266 tw15659968443221698698 tw2701428716271821456 tw11207250362493109204 tw16971588614656131672 tw18421211347084976318 tw6953897681856547570 tw2591760495770953453 tw5547728492581358030 tw5062844913103617536 tw11511914480012633827 tw6447901800178346283 tw14563557630125888289 tw16995548692550318004 tw17065341480330798461 tw3379571602196132571 tw17648608062365270671 tw7230183290269984810 tw15069737202995965043 tw14361344509951158238 tw17361229159437191874 tw16936824070364805392 tw125646636031064189 tw8268434907603902136 tw518690138599922189 tw16668502273520207243 tw9446711295064369031 tw2574803928381752131 tw16616060628953668387 tw5743282897903136311 tw12562084519385427589 tw18328828308199077658 tw18174678192131361123 tw8533918444649690428 tw8315034424014040346 tw7344408634679532790 tw18260110096607469752 tw662356493802867499 tw8139331594093853279 tw1022508303833820300 tw8372183383962727574 tw17272477256055292094:True)
set_option maxRecDepth 100000 in
set_option maxHeartbeats 0 in
theorem PySem.Challenge.cw_meadshares_k09_first_and_how_many_holds : PySem.Challenge.rw_meadshares_k09_first_and_how_many.Holds := by
 w_on;o_law;k_head;(case hw=>w_witness2)
 k_fill
 refine' M09.walk (l:=PySem.Challenge.rw_meadshares_k09_first_and_how_many) rfl rfl (fun w h Y=>PySem.W.kIn_of Y) ?F
 case F=>
  intro w mg fa h KX G hmg
  refine' M09.all_mk KX G hmg ..
  all_goals try first| (refine' A5c ?a ?l ?c ?k;(case a|l|c|k=>k_is))|k_is
