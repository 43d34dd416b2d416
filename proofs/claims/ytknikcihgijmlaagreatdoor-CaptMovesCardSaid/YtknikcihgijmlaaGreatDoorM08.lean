import Derived.Test.YtknikcihgijmlaaGreatDoorM05
import Derived.Test.YtknikcihgijmlaaGreatDoorM07
import Derived.Laws.MakeOwn
import Derived.Lib.BufferWrite
import Derived.BigRegion
import Derived.StillTailTactics
namespace Go.Proofs.YtknikcihgijmlaaGreatDoor
open Go.RowKit
set_option maxRecDepth 20000
set_option maxHeartbeats 12800000
set_option linter.unusedVariables false
set_option linter.unusedSimpArgs false
def vb (b:UInt8):Value:=.int .u8 (b.toNat:Int)
def By (l:List UInt8):Array Value:=(l.map vb).toArray
theorem kF (l:List UInt8):(By l).size=l.length:=by simp[By]
def Byt (T:TypeId)(w:World)(g:Nat)(l:List UInt8):Prop:=w.heap[g]?=some (.cells (By l) T (0,0))
theorem Byt.lt {T:TypeId}{w:World}{g:Nat}{l:List UInt8}(h:Byt T w g l):g<w.heap.size:=(zl h)
theorem Byt.cell {T:TypeId}{w:World}{g:Nat}{l:List UInt8}(h:Byt T w g l)(j:Nat)(hj:j<l.length):w.cell? ⟨g,j,none⟩=some (vb l[j]):=by
 rw[cell_of_row w g j _ T _ h];simp[By,List.getElem?_eq_getElem hj]
theorem Byt.free {T:TypeId}{w:World}{g:Nat}{l:List UInt8}(h:Byt T w g l)(j:Nat):w.frozen? ⟨g,j,none⟩=false:=frozen_of_row w g j _ T h
theorem Byt.set {T:TypeId}{w:World}{g:Nat}{l:List UInt8}(h:Byt T w g l)(j:Nat)(v:UInt8):Byt T (w.setCell ⟨g,j,none⟩ (vb v)) g (l.set j v):=by
 unfold Byt;rw[hss w g j _ T _ h]
 congr 2
 apply Array.ext';simp[By,List.map_set]
theorem Byt.below {T:TypeId}{w w':World}{g:Nat}{l:List UInt8}(h:Byt T w g l)(hb:Below w.heap.size w w'):Byt T w' g l:=(hb.block g h.lt).trans h
theorem Byt.conv {T:TypeId}{w:World}{g:Nat}{l:List UInt8}(h:Byt T w g l)(n cap:Nat)(hn:n<=l.length):(convert 93 9 (.slice (some ⟨g,0,none⟩) n cap)).run Tryz.prog w=.ok (.string (Str (l.take n))) w:=by
 have:=run_convert_bytes_back (P:=Tryz.prog) w 93 9 5 ⟨g,0,none⟩ cap (l.take n) Tryz.underlying93 Tryz.underlying5 Tryz.underlying9 (fun j hj=>by
  rw[gC,List.getElem_take]
  simpa[vb] using h.cell j (by rw[List.length_take] at hj;omega))
 rw[List.length_take,Nat.min_eq_left hn] at this;exact this
theorem Byt.row {T:TypeId}{w:World}{g:Nat}{l:List UInt8}(h:Byt T w g l)(m:List UInt8):Byt T (w.setRow g (By m)) g m:=setRow_heap w g _ _ T _ h
theorem GZ (w:World)(n c:Nat)(hn:n<=c)(hc:c<=140737488351232):∃ w2,(Instr.makeSlice 93 (.int .i64 (n:Int)) (.int .i64 (c:Int))).run Tryz.prog w=.ok (.slice (some ⟨w.heap.size,0,none⟩) n c) w2/\Byt 5 w2 w.heap.size (List.replicate c 0)/\Below w.heap.size w w2:=by
 have hr:=run_make (P:=Tryz.prog) w 93 5 Tryz.t5 (.int .u8 0) Tryz.underlying93 (by kernel_rfl) (by kernel_rfl) .i64 .i64 (n:Int) (c:Int) (by omega) (by omega) (by show((1:Nat):Int)*_<=_;omega) (by omega);have hsz:(Tryz.t5).size=1:=by kernel_rfl
 rw[Int.toNat_natCast,Int.toNat_natCast,hsz,Nat.mul_one] at hr;refine⟨_,hr,?_,Br.alloc (Nat.le_refl _) _⟩;unfold Byt;rw[han]
 congr 2
 apply Array.ext
 ·simp[madeCells,By]
 ·intro i h1 h2
  simp[madeCells,By,Value.cells,vb,Nat.mod_one]
theorem tW {S:List (List UInt8)}(h:∀ s∈S,s.length=256):S.flatten.length=256*S.length:=by
 induction S with
 | nil=>rfl
 | cons a S ih=>
  rw[List.flatten_cons,List.length_append,h a (List.mem_cons_self ..),ih fun s hs=>h s (List.mem_cons_of_mem _ hs),List.length_cons];omega
theorem wS {S:List (List UInt8)}(h:∀ s∈S,s.length=256)(i:Nat):S.flatten.drop (256*i)=(S.drop i).flatten:=by
 induction S generalizing i with
 | nil=>simp
 | cons a S ih=>
  cases i with
  | zero=>rfl
  | succ i=>
   have ha:=h a (List.mem_cons_self ..);rw[List.flatten_cons,List.drop_append,List.drop_of_length_le (by omega),List.nil_append,ha,List.drop_succ_cons,<-ih (fun s hs=>h s (List.mem_cons_of_mem _ hs)) i,show 256*(i+1)-256=256*i by omega]
theorem SM {S:List (List UInt8)}(h:∀ s∈S,s.length=256)(i:Nat):S.flatten.take (256*i)=(S.take i).flatten:=by
 induction S generalizing i with
 | nil=>simp
 | cons a S ih=>
  cases i with
  | zero=>rfl
  | succ i=>
   have ha:=h a (List.mem_cons_self ..);rw[List.flatten_cons,List.take_append,List.take_of_length_le (by omega),ha,List.take_succ_cons,List.flatten_cons,<-ih (fun s hs=>h s (List.mem_cons_of_mem _ hs)) i,show 256*(i+1)-256=256*i by omega]
theorem CM {S:List (List UInt8)}(h:∀ s∈S,s.length=256)(i:Nat)(hi:i<S.length):(S.flatten.drop (256*i)).take 256=S[i]:=by
 rw[wS h,List.drop_eq_getElem_cons hi,List.flatten_cons];have ha:=h S[i] (List.getElem_mem hi);rw[List.take_append_of_le_length (by omega),List.take_of_length_le (by omega)]
theorem YR {S:List (List UInt8)}(h:∀ s∈S,s.length=256)(i:Nat)(hi:i<S.length)(m:List UInt8):S.flatten.take (256*i)++m++S.flatten.drop (256*i+256)=(S.set i m).flatten:=by
 rw[show 256*i+256=256*(i+1) by omega,SM h,wS h,List.set_eq_take_append_cons_drop,if_pos hi];simp
theorem aDB (l:List UInt8)(j:Nat):(By l)[j]?=l[j]?.map vb:=by simp[By]
theorem aEW (l:List UInt8):∀ v∈(By l).toList,v.oneCell'=true:=by
 intro v hv;simp only[By,List.toList_toArray,List.mem_map] at hv;obtain⟨b,_,rfl⟩:=hv
 rfl
theorem Byt.at {T:TypeId}{w:World}{g:Nat}{l:List UInt8}(h:Byt T w g l)(j:Nat):w.cell? ⟨g,j,none⟩=l[j]?.map vb:=by
 rw[cell_of_row w g j _ T _ h,aDB]
theorem Byt.conv_at {T:TypeId}{w:World}{g:Nat}{l:List UInt8}(h:Byt T w g l)(off n cap:Nat)(hn:off+n<=l.length)(m:List UInt8)(hm:(l.drop off).take n=m) :
  (convert 93 9 (.slice (some ⟨g,off,none⟩) n cap)).run Tryz.prog w=.ok (.string (Str m)) w:=by
 have hl:m.length=n:=by rw[<-hm,List.length_take,List.length_drop];omega
 have:=run_convert_bytes_back (P:=Tryz.prog) w 93 9 5 ⟨g,off,none⟩ cap m Tryz.underlying93 Tryz.underlying5 Tryz.underlying9 (fun j hj=>by
  rw[gC,h.at]
  have e:l[off+j]?=some m[j]:=by
   rw[<-List.getElem?_drop,<-List.getElem?_eq_getElem hj,<-hm,List.getElem?_take,if_pos (by omega)]
  rw[e];rfl)
 rwa [hl] at this
theorem Byt.load_at {T:TypeId}{w:World}{g:Nat}{l:List UInt8}(h:Byt T w g l)(off:Nat)(m:List UInt8)(hm:(l.drop off).take 256=m)(hl:m.length=256) :
  (loadVar 216 ⟨g,off,none⟩).run Tryz.prog w=.ok (.agg (By m)) w:=by
 have hc:(loadCells ⟨g,off,none⟩ (By m).toList.length).run Tryz.prog w=.ok (By m).toList.toArray w:=
  run_loadCells_list (P:=Tryz.prog) w ⟨g,off,none⟩ (By m).toList (fun j v hv=>by
   rw[gC,h.at];have hv2:(By m)[j]?=some v:=by simpa using hv
   rw[aDB] at hv2
   cases hj:m[j]? with
   | none=>rw[hj] at hv2;cases hv2
   | some b=>
    rw[hj] at hv2
    have:l[off+j]?=some b:=by
     rw[<-List.getElem?_drop,<-hj,<-hm,List.getElem?_take]
     split
     ·rfl
     ·rename_i hlt
      rw[<-hm,List.getElem?_take,if_neg hlt] at hj
      cases hj
    rw[this];exact hv2)
 have hagg:(isAgg 216).run Tryz.prog w=.ok true w:=by
  unfold isAgg;rw[Sem.run_bind,run_underlying Tryz.underlying216 w]
  rfl
 have hsz:(sizeOf 216).run Tryz.prog w=.ok 256 w:=by kernel_rfl
 have hlen:(By m).toList.length=256:=by simp[By,hl]
 rw[hlen] at hc;simp[loadVar,Sem.run_bind,hagg,hsz,hc]
structure DkS where
 S:List (List UInt8)
 L:List (Nat × List UInt8)
 fuse:Int
 up:Bool
structure DkS.Ok (st:DkS):Prop where
 lens:∀ s∈st.S,s.length=256
 had:∀ p∈st.L,p.1<st.S.length/\p.2.length=256
 keys:(st.L.map (·.1)).Nodup
 few:st.S.length<=640
 least:8<=st.S.length
 fuse0:-9223372036854775808<=st.fuse
 fuse1:st.fuse<=9223372036854775807
theorem tO:∀ (n:Nat) (l:List Nat),l.Nodup->(∀ x∈l,x<n)->l.length<=n
 | 0,l,_,h=>by
  cases l with
  | nil=>simp
  | cons a l=>exact absurd (h a (List.mem_cons_self ..)) (by omega)
 | n+1,l,hd,h=>by
  have h1:(l.erase n).length<=n:=tO n (l.erase n) (hd.erase n) (fun x hx=>by
   have h2:=h x (List.mem_of_mem_erase hx);have h3:x≠n:=fun e=>by rw[e] at hx;exact hd.not_mem_erase hx
   omega)
  have:=List.length_erase_le (a:=n) (l:=l)
  by_cases hm:n∈l
  ·rw[List.length_erase_of_mem hm] at h1;omega
  ·rw[List.erase_of_not_mem hm] at h1;omega
theorem DkS.Ok.loose_le {st:DkS}(h:st.Ok):st.L.length<=640:=by
 have:=tO st.S.length _ h.keys (fun x hx=>by
  obtain⟨p,hp,rfl⟩:=List.mem_map.1 hx;exact(h.had p hp).1)
 rw[List.length_map] at this;have:=h.few;omega
structure DkIn (w:World)(d g m:Nat)(lv:Value)(st:DkS):Prop where
 cell:w.heap[d]?=some (.cells #[.slice (some ⟨g,0,none⟩) st.S.length st.S.length,lv,.map (some m),.int .i64 st.fuse,.bool st.up] 110 (0,0))
 secs:Byt 216 w g st.S.flatten
 mp:MapI w m (st.L.map fun p=>(p.1,.agg (By p.2)))
 loose:w.ownsRow 0 3 1 lv st.L.length (st.L.map fun p=>.int .i64 (p.1:Int))
 dg:d≠g
 dm:d≠m
 gm:g≠m
 lvd:lv.ownBlock≠some d
 lvg:lv.ownBlock≠some g
 lvm:lv.ownBlock≠some m
 ok:st.Ok
def DkF (d g m:Nat)(lv:Value)(k:Nat):Prop:=k=d\/k=g\/k=m\/lv.ownBlock=some k
def Dk (w:World)(d:Nat)(st:DkS)(F:Nat->Prop):Prop:=∃ g m lv,DkIn w d g m lv st/\∀ k,F k ↔ DkF d g m lv k
theorem DkIn.lt {w:World}{d g m:Nat}{lv:Value}{st:DkS}(h:DkIn w d g m lv st)(k:Nat)(hk:DkF d g m lv k):k<w.heap.size:=by
 rcases hk with rfl|rfl|rfl|hk
 ·exact(zl h.cell)
 ·exact h.secs.lt
 ·exact h.mp.lt
 ·exact(h.loose.lt k hk).2
theorem DkIn.kept {w w':World}{d g m:Nat}{lv:Value}{st:DkS}(h:DkIn w d g m lv st)(hk:∀ k,DkF d g m lv k->w'.heap[k]?=w.heap[k]?):DkIn w' d g m lv st:=
 { h with
  cell:=(hk d (.inl rfl)).trans h.cell
  secs:=(hk g (.inr (.inl rfl))).trans h.secs
  mp:=h.mp.kept (hk m (.inr (.inr (.inl rfl))))
  loose:=by
   refine⟨h.loose.1,?_⟩
   rcases h.loose.2 with h1|⟨b,cap,cur,h1,h2,h3,h4⟩
   ·exact .inl h1
   ·exact .inr ⟨b,cap,cur,h1,h2,(hk b (.inr (.inr (.inr (by rw[h1];rfl))))).trans h3,h4⟩ }
theorem Dk.frm {w w':World}{d:Nat}{st:DkS}{F G:Nat->Prop}(h:Dk w d st F)(hf:Frm G w w')(hd:∀ k,F k->¬ G k):Dk w' d st F:=by
 obtain⟨g,m,lv,hi,he⟩:=h;exact⟨g,m,lv,hi.kept fun k hk=>hf.block k (hi.lt k hk) (hd k ((he k).2 hk)),he⟩
theorem Dk.below {w w':World}{d:Nat}{st:DkS}{F:Nat->Prop}(h:Dk w d st F)(hb:Below w.heap.size w w'):Dk w' d st F:=
 h.frm (G:=fun _=>False) (Frm.of_below hb) fun _ _ hx=>hx
theorem Dk.lt {w:World}{d:Nat}{st:DkS}{F:Nat->Prop}(h:Dk w d st F)(k:Nat)(hk:F k):k<w.heap.size:=by
 obtain⟨g,m,lv,hi,he⟩:=h;exact hi.lt k ((he k).1 hk)
theorem Dk.ok {w:World}{d:Nat}{st:DkS}{F:Nat->Prop}(h:Dk w d st F):st.Ok:=by
 obtain⟨g,m,lv,hi,he⟩:=h;exact hi.ok
def DkPost (w:World)(d:Nat)(st:DkS)(F:Nat->Prop)(w':World):Prop:=∃ F',Dk w' d st F'/\Frm F w w'/\∀ k,F' k->F k\/w.heap.size<=k
theorem DkIn.cells {w:World}{d g m:Nat}{lv:Value}{st:DkS}(h:DkIn w d g m lv st) :
  w.cell? ⟨d,0,none⟩=some (.slice (some ⟨g,0,none⟩) st.S.length st.S.length)/\w.cell? ⟨d,1,none⟩=some lv/\w.cell? ⟨d,2,none⟩=some (.map (some m))/\w.cell? ⟨d,3,none⟩=some (.int .i64 st.fuse)/\w.cell? ⟨d,4,none⟩=some (.bool st.up):=by
 refine⟨?_,?_,?_,?_,?_⟩ <;> (rw[cell_of_row w d _ _ _ _ h.cell];rfl)
theorem DkIn.free {w:World}{d g m:Nat}{lv:Value}{st:DkS}(h:DkIn w d g m lv st)(j:Nat):w.frozen? ⟨d,j,none⟩=false:=frozen_of_row w d j _ _ h.cell
theorem qV (w:World)(d:Nat)(st:DkS)(F:Nat->Prop)(h:Dk w d st F)(i:Int)(v:Bool)(hv:(decide (0<=i)&&decide (i<(st.S.length:Int)))=v) :
  () 144 #[d,i] w fun e w'=>e=.returned (.bool v)/\w=w':=by
 obtain⟨g,m,lv,hi,he⟩:=h;obtain⟨c0,_,_,_,_⟩:=hi.cells;have H:=Hd hv;clear hv he hi
 by_cases h0:0<=i
 all_goals
  go_enter Tryz.func144,Tryz.ntmps144;go_wp2_with fail;go_ret;refine⟨?_,rfl⟩;rw[<-H.o];exact aU (by rw[Bool.eq_iff_iff];simp;omega)
theorem QA (w:World)(d:Nat)(st:DkS)(F:Nat->Prop)(h:Dk w d st F)(i:Int)(hu:st.up=false) :
  () 183 #[d,i] w fun e w'=>e=.returned (.tuple #[.string ⟨#[]⟩,(5:Int)])/\w=w':=by
 obtain⟨g,m,lv,hi,he⟩:=h;obtain⟨_,_,_,_,c4⟩:=hi.cells;rw[hu] at c4;clear hi he hu;go_enter Tryz.func183,Tryz.ntmps183;go_wp2_with fail;go_ret2;exact⟨rfl,rfl⟩
theorem aA1 (w:World)(d:Nat)(st:DkS)(F:Nat->Prop)(h:Dk w d st F)(i:Int)(hu:st.up=true)(hn:(decide (0<=i)&&decide (i<(st.S.length:Int)))=false) :
  () 183 #[d,i] w fun e w'=>e=.returned (.tuple #[.string ⟨#[]⟩,(1:Int)])/\w=w':=by
 have HS:=Hd (qV w d st F h i false hn);obtain⟨g,m,lv,hi,he⟩:=h;obtain⟨_,_,_,_,c4⟩:=hi.cells;rw[hu] at c4;clear hi he hu hn;go_enter Tryz.func183,Tryz.ntmps183;go_wp2_with fail;refine HS.mono ?_;rintro e w1 ⟨rfl,rfl⟩;go_wp2_with fail;go_ret2;exact⟨rfl,rfl⟩
theorem VU (w:World)(d:Nat)(st:DkS)(F:Nat->Prop)(h:Dk w d st F)(i:Nat)(hu:st.up=true)(hi:i<st.S.length)(s:ByteArray)(hs:Str (st.S[i])=s) :
  () 183 #[d,(i:Int)] w fun e w'=>e=.returned (.tuple #[s,(0:Int)])/\w=w':=by
 have HS:=Hd (qV w d st F h (i:Int) true (by simp;omega));have hz:=h.ok.few;obtain⟨g,m,lv,hk,he⟩:=h;obtain⟨c0,_,_,_,c4⟩:=hk.cells;rw[hu] at c4;have hl:=tW hk.ok.lens;have hcv:=hk.secs.conv_at (256*i) 256 256 (by omega) _ (CM hk.ok.lens i hi);rw[hs,Nat.mul_comm 256 i] at hcv;have hii:(i:Int)<(st.S.length:Int):=by omega
 clear hk he hu hs hl;go_enter Tryz.func183,Tryz.ntmps183;go_wp2_with fail;refine HS.mono ?_;rintro e w1 ⟨rfl,rfl⟩;go_wp2_with fail;go_ret2;exact⟨rfl,rfl⟩
def zs:List UInt8:=List.replicate 256 0
theorem oJ:zs.length=256:=by unfold zs;exact List.length_replicate
theorem rD (w:World):(zeroValue 216).run Tryz.prog w=.ok (.agg (By zs)) w:=by kernel_rfl
theorem xH {P:Program}{w w2:World}{ops:Array Oper}{rest:List Oper}{o:Oper}{a:Act}{Q:Exit->Act->World->Prop}(hgd:o.guard=none)(v:Value)(hr:(execOp a.eval o).run P w=.ok (.value v) w2)
  (h:wpList P ops Q rest (a.put o.dst v) w2):wpList P ops Q (o::rest) a w:=by
 refine wpList_plain hgd fun K hK=>?_
 unfold Oper.wp;simp[hr];exact hK _ _ h
theorem qJ {w:World}{ops:Array Oper}{rest:List Oper}{o:Oper}{a:Act}{Q:Exit->Act->World->Prop}(hgd:o.guard=none)(ho:o.op=.alloc 216)
  (h:wpList Tryz.prog ops Q rest (a.put o.dst (.pointer (some ⟨w.heap.size,0,none⟩))) (w.alloc (.cells (By zs) 216))):wpList Tryz.prog ops Q (o::rest) a w:=by
 refine xH hgd _ ?_ h;have hz:=rD w;simp[execOp,ho,Instr.alloc,hz,newVar,newRow,Value.cells]
theorem JW {P:Program}{w w':World}{ops:Array Oper}{rest:List Oper}{o:Oper}{a:Act}{Q:Exit->Act->World->Prop}(hgd:o.guard=none)(s x:Operand)(t:TypeId)
  (ho:o.op=.call { callee:=.builtin .append,args:=#[s,x],argTypes:=#[t,t] })(v y v':Value)(hs:a.eval s=v)(hx:a.eval x=y)
  (hr:(Builtin.append_ #[t,t] o.type #[v,y]).run P w=.ok v' w')(h:wpList P ops Q rest (a.put o.dst v') w'):wpList P ops Q (o::rest) a w:=by
 refine wpList_plain hgd fun K hK=>?_
 unfold Oper.wp;simp[execOp,ho,resolve,invoke,builtin,hs,hx,hr,Result.andThen];refine hK _ _ ?_
 simpa using h
theorem IH {w:World}{ops:Array Oper}{Q:Act->Prop}{rest:List Oper}{o:Oper}{a:Act}(hgd:o.guard=none)(x:Operand)(ho:o.op=.load 216 x)
  (g off:Nat)(hx:a.eval x=.pointer (some ⟨g,off,none⟩))(l m:List UInt8)(T:TypeId)(hg:Byt T w g l)(hm:(l.drop off).take 256=m)(hl:m.length=256)
  (h:wpStill Tryz.prog ops w Q rest (a.put o.dst (.agg (By m)))):wpStill Tryz.prog ops w Q (o::rest) a:=by
 have hld:=hg.load_at off m hm hl;unfold wpStill;rw[if_pos (by simp[Region.wanted,hgd])];unfold Oper.still execOp;simp only[ho,hx,Instr.loadAt,Instr.sureAddr,Sem.run_bind,Sem.run_pure,Result.andThen_ok,hld];exact⟨rfl,h⟩
def EF (R:World->Prop)(e:Ending)(w':World):Prop:=e=.returned (.tuple #[])/\R w'
theorem aDG {w:World}{g:Nat}{l:List UInt8}{T:TypeId}(h:Byt T w g l)(off:Nat)(m:List UInt8)(hm:m.length=256)(hf:off+256<=l.length) :
  (storeCells ⟨g,off,none⟩ (By m).toList).run Tryz.prog w=.ok () (w.setRow g (By (l.take off++m++l.drop (off+256)))):=by
 have hlen:(By m).toList.length=256:=by simp[By,hm]
 have hst:=run_storeCells_at Tryz.prog g off T (By m).toList 0 (By l) w h (by rw[hlen,kF];omega) (aEW m);rw[Nat.add_zero,hlen] at hst
 have e:((By l).toList.take off++(By m).toList++(By l).toList.drop (off+256)).toArray=By (l.take off++m++l.drop (off+256)):=by
  apply Array.ext';simp only[By,List.map_append,List.map_take,List.map_drop]
 rw[e] at hst;exact hst
theorem pW (w:World)(v:List UInt8)(hv:v.length=256):∃ w2,(storeCells ⟨w.heap.size,0,none⟩ (By v).toList).run Tryz.prog (w.alloc (.cells (By zs) 216))=.ok () w2/\Below w.heap.size w w2:=by
 have hrow:Byt 216 (w.alloc (.cells (By zs) 216)) w.heap.size zs:=han w _;exact⟨_,aDG hrow 0 v hv (by rw[oJ];decide),below_setRow (Br.alloc (Nat.le_refl _) _) (Nat.le_refl _) _⟩
theorem IC (w:World)(d:Nat)(st:DkS)(F:Nat->Prop)(h:Dk w d st F)(n:Nat)(v:List UInt8)(hm:(n,v)∈st.L) :
  () 145 #[d,(n:Int)] w (EF fun w'=>Below w.heap.size w w'):=by
 obtain⟨g,m,lv,hi,he⟩:=h;obtain⟨_,_,c2,_,_⟩:=hi.cells;have hv:v.length=256:=(hi.ok.had _ hm).2;have hs2:(By v).size=256:=by rw[kF,hv]
 have hlk:=IG (P:=Tryz.prog) Tryz.underlying108 Tryz.underlying3 hi.mp (by rw[List.map_map];exact hi.ok.keys) n (.agg (By v)) (List.mem_map.2 ⟨_,hm,rfl⟩) true;rw[if_pos rfl] at hlk;obtain⟨w2,hst,hb⟩:=pW w v hv;clear hi he hm hv;go_enter Tryz.func145,Tryz.ntmps145
 go_wp2_with (first|(with_reducible refine qJ rfl rfl ?_))
 go_end0
 exact⟨rfl,hb⟩
theorem DkIn.of_below {w w':World}{d g m:Nat}{lv:Value}{st:DkS}(h:DkIn w d g m lv st)(hb:Below w.heap.size w w'):DkIn w' d g m lv st:=h.kept fun k hk=>hb.block k (h.lt k hk)
theorem QP {w:World}{e:TypeId}{v:Value}{n:Nat}{xs:List Value}(h:w.ownsRow 0 e 1 v (n+1) xs):∃ k cap,v=.slice (some ⟨k,0,none⟩) (n+1) cap:=by
 rcases h.2 with⟨_,h0⟩|⟨g,cap,cur,h1,_⟩
 ·omega
 ·exact⟨g,cap,h1⟩
theorem jC {w w':World}{e:TypeId}{v:Value}{n:Nat}{xs:List Value}(h:w.ownsRow 0 e 1 v n xs)(hk:∀ k,v.ownBlock=some k->w'.heap[k]?=w.heap[k]?):w'.ownsRow 0 e 1 v n xs:=by
 refine⟨h.1,?_⟩
 rcases h.2 with h1|⟨b,cap,cur,h1,h2,h3,h4⟩
 ·exact .inl h1
 ·exact .inr ⟨b,cap,cur,h1,h2,(hk b (by rw[h1];rfl)).trans h3,h4⟩
theorem IE (w:World)(d:Nat)(st:DkS)(F:Nat->Prop)(h:Dk w d st F)(n:Nat)(hn:n<st.S.length)(hf:∀ p∈st.L,p.1≠n) :
  () 145 #[d,(n:Int)] w (EF (DkPost w d { st with L:=st.L++[(n,st.S[n])] } F)):=by
 obtain⟨g,m,lv,hi,he⟩:=h;have hle:=hi.ok.loose_le;have hfew:=hi.ok.few;have hdl:=hi.lt d (.inl rfl);obtain⟨_,_,c2,_,_⟩:=hi.cells
 have hlk:=QY (P:=Tryz.prog) Tryz.underlying108 Tryz.underlying3 hi.mp n (fun p hp=>by
  obtain⟨q,hq,rfl⟩:=List.mem_map.1 hp;exact hf q hq) _ (rD w) true
 rw[if_pos rfl] at hlk;have hs2:(By zs).size=256:=by rw[kF,oJ]
 obtain⟨w2,hst,hb⟩:=pW w zs oJ;have hb2:Below w.heap.size w w2.drew:=hb.drew;have hi2:=hi.of_below hb2;obtain⟨a0,_,a2,_,_⟩:=hi2.cells;have hv:(st.S[n]).length=256:=hi.ok.lens _ (List.getElem_mem hn)
 obtain⟨o,hup,hmi⟩:=EW (P:=Tryz.prog) Tryz.underlying108 Tryz.underlying3 hi2.mp n (fun p hp=>by
  obtain⟨q,hq,rfl⟩:=List.mem_map.1 hp;exact hf q hq) (.agg (By st.S[n]))
 have hfr3:Frm (DkF d g m lv) w { w2.drew with heap:=w2.drew.heap.setIfInBounds m o }:=(Frm.of_below hb2).setObj m o (.inl (.inr (.inr (.inl rfl))))
 have hoth:∀ k,k≠m->({ w2.drew with heap:=w2.drew.heap.setIfInBounds m o }:World).heap[k]?=w2.drew.heap[k]?:=fun k hk=>by
  show(w2.drew.heap.setIfInBounds m o)[k]?=_
  rw[Array.getElem?_setIfInBounds_ne (Ne.symm hk)]
 obtain⟨w3,hw3⟩:∃ w3:World,({ w2.drew with heap:=w2.drew.heap.setIfInBounds m o }:World)=w3:=⟨_,rfl⟩
 rw[hw3] at hup hmi hfr3 hoth;have hsz3:w2.drew.heap.size<=w3.heap.size:=by rw[<-hw3];simp
 have hi2s:=hb2.size;clear hw3;obtain⟨w4,hw4⟩:∃ w4,w3.alloc (.cells #[(n:Int)] 3)=w4:=⟨_,rfl⟩
 have h43:∀ k,k<w3.heap.size->w4.heap[k]?=w3.heap[k]?:=fun k hk=>by rw[<-hw4];exact Below.heap_alloc _ _ _ hk
 have hsz4:w4.heap.size=w3.heap.size+1:=by rw[<-hw4];simp
 have hu:w4.cell? ⟨w3.heap.size,0,none⟩=some (.int .i64 (n:Int)):=by rw[<-hw4,World.cell?_alloc_new];rfl
 have hlow:∀ k,DkF d g m lv k->k<w.heap.size:=fun k hk=>hi.lt k hk
 have cell3:w3.heap[d]?=_:=(hoth d hi.dm).trans hi2.cell;have cell4:w4.heap[d]?=_:=(h43 d (by omega)).trans cell3
 have loose4:w4.ownsRow 0 3 1 lv st.L.length (st.L.map fun p=>.int .i64 (p.1:Int)):=jC hi2.loose fun k hk=>by
  have hk2:k<w.heap.size:=hlow k (.inr (.inr (.inr hk)));rw[h43 k (by omega),hoth k (fun e=>hi.lvm (by rw[hk,e]))]
 obtain⟨i,hinfo,hz0,hz1,hz2⟩:∃ i,Tryz.prog.info? 3=some i/\i.zero=some (.int .i64 0)/\i.size=1/\i.bytes=8:=by
  have:(Tryz.prog.info? 3).map (fun i=>(i.zero,i.size,i.bytes))=some (some (.int .i64 0),1,8):=by kernel_rfl
  cases hq:Tryz.prog.info? 3 with
  | none=>rw[hq] at this;cases this
  | some i=>
   rw[hq] at this;simp only[Option.map_some,Option.some.injEq,Prod.mk.injEq] at this;exact⟨i,rfl,this.1,this.2.1,this.2.2⟩
 obtain⟨v',w5,k,hap,hown,hgrow,hkb,hkc⟩:=JY Tryz.prog w4 36 36 3 i _ Tryz.underlying36 hinfo hz0 hz1 hz2 rfl lv st.L.length _ loose4 w3.heap.size _ hu rfl (by omega);obtain⟨k2,cap,hv'⟩:=QP hown;have hk2:k2=k:=by rw[hv'] at hkb;exact Option.some.inj hkb
 subst hk2
 have hkd:k2≠d:=by
  rcases hkc with h1|h1
  ·intro e;exact hi.lvd (by rw[h1,e])
  ·omega
 have cell5:w5.heap[d]?=_:=(hgrow.block d (by omega) (fun e=>hi.lvd e.symm)).trans cell4;have c51:w5.cell? ⟨d,1,none⟩=some lv:=by rw[cell_of_row w5 d 1 _ _ _ cell5];rfl
 have f51:w5.frozen? ⟨d,1,none⟩=false:=frozen_of_row w5 d 1 _ _ cell5;have c41:w4.cell? ⟨d,1,none⟩=some lv:=by rw[cell_of_row w4 d 1 _ _ _ cell4];rfl
 have c31:w3.cell? ⟨d,1,none⟩=some lv:=by rw[cell_of_row w3 d 1 _ _ _ cell3];rfl
 have hkg:k2≠g:=by
  rcases hkc with h1|h1
  ·intro e;exact hi.lvg (by rw[h1,e])
  ·have:=hlow g (.inr (.inl rfl));omega
 have hkm:k2≠m:=by
  rcases hkc with h1|h1
  ·intro e;exact hi.lvm (by rw[h1,e])
  ·have:=hlow m (.inr (.inr (.inl rfl)));omega
 have hgl:=hlow g (.inr (.inl rfl));have hml:=hlow m (.inr (.inr (.inl rfl)))
 have FIN:Hid (DkPost w d { st with L:=st.L++[(n,st.S[n])] } F (w5.setCell ⟨d,1,none⟩ v')):=Hd (by
  refine⟨DkF d g m v',⟨g,m,v',?_,fun k=>Iff.rfl⟩,?_,?_⟩
  ·refine{ cell:=?_,secs:=?_,mp:=?_,loose:=?_,dg:=hi.dg,dm:=hi.dm,gm:=hi.gm,lvd:=?_,lvg:=?_,lvm:=?_,ok:=?_ }
   ·rw[hss w5 d 1 _ _ _ cell5]
    rfl
   ·unfold Byt
    rw[heap_setCell_other _ _ g _ (Ne.symm hi.dg),hgrow.block g (by omega) (fun e=>hi.lvg e.symm),h43 g (by omega),hoth g hi.gm];exact hi2.secs
   ·have:MapI (w5.setCell ⟨d,1,none⟩ v') m ((st.L.map fun p=>(p.1,Value.agg (By p.2)))++[(n,.agg (By st.S[n]))]):=hmi.kept (by
     rw[heap_setCell_other _ _ m _ (Ne.symm hi.dm),hgrow.block m (by omega) (fun e=>hi.lvm e.symm),h43 m (by omega)])
    simpa using this
   ·have:=jC (w':=w5.setCell ⟨d,1,none⟩ v') hown fun j hj=>by
     rw[hkb] at hj;injection hj with hj;exact heap_setCell_other _ _ j _ (by rw[<-hj];exact hkd)
    simpa using this
   ·rw[hkb];intro e;injection e with e;exact hkd e
   ·rw[hkb];intro e;injection e with e;exact hkg e
   ·rw[hkb];intro e;injection e with e;exact hkm e
   ·refine{ lens:=hi.ok.lens,had:=?_,keys:=?_,few:=hi.ok.few,least:=hi.ok.least,fuse0:=hi.ok.fuse0,fuse1:=hi.ok.fuse1 }
    ·intro p hp
     rcases List.mem_append.1 hp with h1|h1
     ·exact hi.ok.had p h1
     ·obtain rfl:=List.mem_singleton.1 h1
      exact⟨hn,hv⟩
    ·show((st.L++[(n,st.S[n])]).map (·.1)).Nodup
     rw[List.map_append,List.nodup_append];refine⟨hi.ok.keys,by simp,?_⟩;intro x hx y hy;obtain⟨p,hp,rfl⟩:=List.mem_map.1 hx;simp at hy;rw[hy];exact hf p hp
  ·have h1:Frm (DkF d g m lv) w w4:=by rw[<-hw4];exact hfr3.alloc _
   have h2:=(h1.grown hgrow (fun j hj=>.inl (.inr (.inr (.inr hj))))).setCell ⟨d,1,none⟩ v' (.inl (.inl rfl));exact h2.mono fun j hj=>(he j).2 hj
  ·intro j hj
   rcases hj with rfl|rfl|rfl|hj
   ·exact .inl ((he _).2 (.inl rfl))
   ·exact .inl ((he _).2 (.inr (.inl rfl)))
   ·exact .inl ((he _).2 (.inr (.inr (.inl rfl))))
   ·rw[hkb] at hj
    injection hj with hj;subst hj
    rcases hkc with h1|h1
    ·exact .inl ((he _).2 (.inr (.inr (.inr h1))))
    ·exact .inr (by omega))
 have hsec:=hi2.secs;have hfg:=CM hi.ok.lens n hn;rw[Nat.mul_comm 256 n] at hfg;have hii:(n:Int)<(st.S.length:Int):=by omega
 have e1:(By zs).toList.length=256:=by simp[kF,oJ]
 subst hv';clear hi hi2 he hb hb2 hi2s hoth hmi hfr3 h43 hsz4 hsz3 hu hlow cell3 cell4 cell5 loose4 hown hgrow hkb hkc hkd hkg hkm hgl hml hinfo hz0 hz1 hz2 hf hle hfew e1;go_enter Tryz.func145,Tryz.ntmps145
 go_wp2_with (first|(with_reducible refine qJ rfl rfl ?_))
 refine wp_region_still_tail 12 (by kernel_rfl) (by kernel_rfl) ?_;simp only[List.take_succ_cons,List.take_zero,List.drop_succ_cons,List.drop_zero];change wpStill _ _ w2.drew _ _ _
 iterate 11 still_step
 refine IH rfl (.tmp 26) rfl g (n*256) rfl _ _ _ hsec hfg hv ?_;refine wpStill_nil ?_;change wpList _ _ _ _ _ w2.drew
 go_wp2_with (at_builtin;refine JW rfl (.tmp 32) (.tmp 34) 36 rfl lv _ _ rfl rfl hap ?_)
 go_end0
 exact⟨rfl,FIN.o⟩
theorem DkIn.turned {w w':World}{d g m:Nat}{lv:Value}{st st':DkS}(h:DkIn w d g m lv st)(hS:st'.S=st.S)(hL:st'.L=st.L)(hok:st'.Ok)
  (hc:w'.heap[d]?=some (.cells #[.slice (some ⟨g,0,none⟩) st'.S.length st'.S.length,lv,.map (some m),st'.fuse,st'.up] 110 (0,0)))
  (ho:∀ k,k≠d->w'.heap[k]?=w.heap[k]?):DkIn w' d g m lv st':=by
 refine{ cell:=hc,secs:=?_,mp:=?_,loose:=?_,dg:=h.dg,dm:=h.dm,gm:=h.gm,lvd:=h.lvd,lvg:=h.lvg,lvm:=h.lvm,ok:=hok }
 ·rw[hS];exact(ho g (Ne.symm h.dg)).trans h.secs
 ·rw[hL];exact h.mp.kept (ho m (Ne.symm h.dm))
 ·rw[hL];exact jC h.loose fun k hk=>ho k fun e=>h.lvd (by rw[hk,e])
theorem DkIn.setFuse {w:World}{d g m:Nat}{lv:Value}{st:DkS}(h:DkIn w d g m lv st)(f:Int)(h0:-9223372036854775808<=f)(h1:f<=9223372036854775807):DkIn (w.setCell ⟨d,3,none⟩ (.int .i64 f)) d g m lv { st with fuse:=f }:=
 h.turned rfl rfl { h.ok with fuse0:=h0,fuse1:=h1 } (by rw[hss w d 3 _ _ _ h.cell];rfl) fun k hk=>heap_setCell_other _ _ k _ hk
theorem DkIn.setUp {w:World}{d g m:Nat}{lv:Value}{st:DkS}(h:DkIn w d g m lv st)(u:Bool):DkIn (w.setCell ⟨d,4,none⟩ (.bool u)) d g m lv { st with up:=u }:=
 h.turned rfl rfl { h.ok with } (by rw[hss w d 4 _ _ _ h.cell];rfl) fun k hk=>heap_setCell_other _ _ k _ hk
theorem DkIn.setSec {w:World}{d g m:Nat}{lv:Value}{st:DkS}(h:DkIn w d g m lv st)(n:Nat)(l:List UInt8)(hl:l.length=256)(hn:n<st.S.length) :
  DkIn (w.setRow g (By (st.S.set n l).flatten)) d g m lv { st with S:=st.S.set n l }:=by
 refine{ cell:=?_,secs:=h.secs.row _,mp:=?_,loose:=?_,dg:=h.dg,dm:=h.dm,gm:=h.gm,lvd:=h.lvd,lvg:=h.lvg,lvm:=h.lvm,ok:=?_ }
 ·rw[setRow_other w g d _ h.dg]
  show _=some (Obj.cells #[.slice (some ⟨g,0,none⟩) (st.S.set n l).length (st.S.set n l).length,lv,.map (some m),st.fuse,st.up] 110 (0,0))
  rw[List.length_set];exact h.cell
 ·exact h.mp.kept (setRow_other w g m _ (Ne.symm h.gm))
 ·exact jC h.loose fun k hk=>setRow_other w g k _ fun e=>h.lvg (by rw[hk,e])
 ·refine{ lens:=?_,had:=?_,keys:=h.ok.keys,few:=?_,least:=?_,fuse0:=h.ok.fuse0,fuse1:=h.ok.fuse1 }
  ·intro s hs
   rcases List.mem_or_eq_of_mem_set hs with h1|h1
   ·exact h.ok.lens s h1
   ·rw[h1];exact hl
  ·intro p hp
   have:=h.ok.had p hp
   show p.1<(st.S.set n l).length/\_
   rw[List.length_set];exact this
  ·show(st.S.set n l).length<=640
   rw[List.length_set];exact h.ok.few
  ·show 8<=(st.S.set n l).length
   rw[List.length_set];exact h.ok.least
theorem DkPost.same {w:World}{d:Nat}{st:DkS}{F:Nat->Prop}(h:Dk w d st F):DkPost w d st F w:=⟨F,h,Frm.refl _ _,fun k hk=>.inl hk⟩
theorem DkPost.trans {w w1 w2:World}{d:Nat}{st1 st2:DkS}{F F1:Nat->Prop}(h1:Frm F w w1)(hF:∀ k,F1 k->F k\/w.heap.size<=k)(h2:DkPost w1 d st2 F1 w2):DkPost w d st2 F w2:=by
 obtain⟨F2,k2,f2,s2⟩:=h2;refine⟨F2,k2,h1.trans f2 hF,fun k hk=>?_⟩
 rcases s2 k hk with hx|hx
 ·exact hF k hx
 ·exact .inr (Nat.le_trans h1.size hx)
theorem DkPost.below {w w2:World}{d:Nat}{st:DkS}{F:Nat->Prop}(h:Dk w d st F)(hb:Below w.heap.size w w2):DkPost w d st F w2:=⟨F,h.below hb,Frm.of_below hb,fun k hk=>.inl hk⟩
def DkS.loosened (st:DkS)(n:Nat):DkS:=if st.L.any (fun p=>p.1==n)=true then st else{ st with L:=st.L++[(n,st.S.getD n [])] }
theorem IF (w:World)(d:Nat)(st:DkS)(F:Nat->Prop)(h:Dk w d st F)(n:Nat)(hn:n<st.S.length) :
  () 145 #[d,(n:Int)] w (EF (DkPost w d (st.loosened n) F)):=by
 by_cases ha:st.L.any (fun p=>p.1==n)=true
 ·unfold DkS.loosened
  rw[if_pos ha];obtain⟨p,hp,hpn⟩:=List.any_eq_true.1 ha;have e:p=(n,p.2):=by rw[<-eq_of_beq hpn]
  rw[e] at hp;exact(IC w d st F h n p.2 hp).mono fun e w' hw=>⟨hw.1,DkPost.below h hw.2⟩
 ·unfold DkS.loosened
  rw[if_neg ha];have hf:∀ p∈st.L,p.1≠n:=fun p hp hc=>ha (List.any_eq_true.2 ⟨p,hp,by simp[hc]⟩)
  have:=IE w d st F h n hn hf;rw[List.getD_eq_getElem?_getD,List.getElem?_eq_getElem hn];exact this
def DkS.wrote (st:DkS)(n:Nat)(s:List UInt8):DkS:=
 let st1:={ st with fuse:=if 0<st.fuse then st.fuse-1 else st.fuse }
 let st2:=st1.loosened n
 { st2 with S:=st2.S.set n s }
def DkS.write (st:DkS)(i:Int)(s:List UInt8):DkS × Int:=
 if st.up=false then(st,5)
 else if(decide (0<=i)&&decide (i<(st.S.length:Int))&&decide (s.length=256))=false then(st,1)
 else if st.fuse=0 then({ st with up:=false },5)
 else(st.wrote i.toNat s,0)
theorem tQ (st:DkS)(n:Nat):(st.loosened n).S=st.S:=by unfold DkS.loosened;split <;> rfl
theorem EL (w:World)(d:Nat)(st:DkS)(F:Nat->Prop)(h:Dk w d st F)(i:Int)(s:ByteArray)(hu:st.up=false) :
  () 123 #[d,i,s] w fun e w'=>e=.returned (.int .i64 5)/\w=w':=by
 obtain⟨g,m,lv,hi,he⟩:=h;obtain⟨_,_,_,_,c4⟩:=hi.cells;rw[hu] at c4;clear hi he hu;go_enter Tryz.func123,Tryz.ntmps123;go_wp2_with fail;go_ret;exact⟨rfl,rfl⟩
theorem NI (w:World)(d:Nat)(st:DkS)(F:Nat->Prop)(h:Dk w d st F)(i:Int)(s:ByteArray)(hu:st.up=true)(hc:(decide (0<=i)&&decide (i<(st.S.length:Int))&&decide (s.size=256))=false) :
  () 123 #[d,i,s] w fun e w'=>e=.returned (.int .i64 1)/\w=w':=by
 cases hv:(decide (0<=i)&&decide (i<(st.S.length:Int)))
 ·have HS:=Hd (qV w d st F h i false hv)
  obtain⟨g,m,lv,hi,he⟩:=h;obtain⟨_,_,_,_,c4⟩:=hi.cells;rw[hu] at c4;clear hi he hu hv hc;go_enter Tryz.func123,Tryz.ntmps123;go_wp2_with fail;refine HS.mono ?_;rintro e w1 ⟨rfl,rfl⟩;go_wp2_with fail;go_ret;exact⟨rfl,rfl⟩
 ·have HS:=Hd (qV w d st F h i true hv)
  rw[hv] at hc;have hsz:s.size≠256:=by simpa using hc
  have h1:((s.size:Int)==256)=false:=by simpa using(fun hc:(s.size:Int)=256=>hsz (by omega))
  have h2:((s.size:Int) != 256)=true:=by simp[bne,h1]
  obtain⟨g,m,lv,hi,he⟩:=h;obtain⟨_,_,_,_,c4⟩:=hi.cells;rw[hu] at c4;clear hi he hu hv hc hsz;go_enter Tryz.func123,Tryz.ntmps123;go_wp2_with fail;refine HS.mono ?_;rintro e w1 ⟨rfl,rfl⟩;go_wp2_with fail;go_ret;exact⟨rfl,rfl⟩
theorem zG (w:World)(d:Nat)(st:DkS)(F:Nat->Prop)(h:Dk w d st F)(i:Nat)(s:ByteArray)(hu:st.up=true)(hi:i<st.S.length)(hs:s.size=256)(hf:st.fuse=0) :
  () 123 #[d,(i:Int),s] w fun e w'=>e=.returned (.int .i64 5)/\DkPost w d { st with up:=false } F w':=by
 have HS:=Hd (qV w d st F h (i:Int) true (by simp;omega));obtain⟨g,m,lv,hk,he⟩:=h;obtain⟨_,_,_,c3,c4⟩:=hk.cells;have f4:=hk.free 4;have FIN:Hid (DkPost w d { st with up:=false } F (w.setCell ⟨d,4,none⟩ (.bool false))):=Hd ⟨F,⟨g,m,lv,hk.setUp false,he⟩,(Frm.refl _ _).setCell _ _ (.inl ((he d).2 (.inl rfl))),fun k hk=>.inl hk⟩;rw[hu] at c4;rw[hf] at c3;have hsi:(s.size:Int)=256:=by omega
 clear hk he hu hf hs;go_enter Tryz.func123,Tryz.ntmps123;go_wp2_with fail;refine HS.mono ?_;rintro e w1 ⟨rfl,rfl⟩;go_wp2_with fail;go_ret;exact⟨rfl,FIN.o⟩
theorem JQ {w:World}{d g m:Nat}{lv:Value}{st:DkS}(h:DkIn w d g m lv st)(n:Nat)(hn:n<st.S.length)(s:ByteArray)(hs:s.size=256) :
  (Builtin.copy_ #[93,9] 3 #[.slice (some ⟨g,n*256,none⟩) 256 256,s]).run Tryz.prog w=.ok (goInt 256) (w.setRow g (By (st.S.set n s.data.toList).flatten)):=by
 have hl:=tW h.ok.lens;have:=Lib.run_copy_row_string (P:=Tryz.prog) w 93 9 3 5 g (n*256) 256 256 s (By st.S.flatten) 216 Tryz.underlying93 (by kernel_rfl) h.secs (by omega) (by rw[kF,hl,hs];omega);rw[hs] at this;rw[this]
 congr 2
 apply Array.ext';have hf:=YR h.ok.lens n hn s.data.toList;rw[Nat.mul_comm 256 n] at hf;rw[<-hf];simp only[By,Lib.byteCells,List.map_append,List.map_take,List.map_drop]
 rfl
theorem NF (w:World)(d:Nat)(st:DkS)(F:Nat->Prop)(h:Dk w d st F)(i:Nat)(s:ByteArray)(hu:st.up=true)(hi:i<st.S.length)(hs:s.size=256)(hf:st.fuse≠0) :
  () 123 #[d,(i:Int),s] w fun e w'=>e=.returned (.int .i64 0)/\DkPost w d (st.wrote i s.data.toList) F w':=by
 have HS:=Hd (qV w d st F h (i:Int) true (by simp;omega));have hsi:(s.size:Int)=256:=by omega
 have hls:s.data.toList.length=256:=by simp[hs]
 obtain⟨w1,hw1,HD1,HF1⟩:∃ w1,((0<st.fuse/\w.setCell ⟨d,3,none⟩ (.int .i64 (st.fuse-1))=w1)\/(st.fuse<0/\w=w1))/\Dk w1 d { st with fuse:=if 0<st.fuse then st.fuse-1 else st.fuse } F/\Frm F w w1:=by
  obtain⟨g,m,lv,hk,he⟩:=h
  by_cases h0:0<st.fuse
  ·refine⟨_,.inl ⟨h0,rfl⟩,⟨g,m,lv,?_,he⟩,(Frm.refl _ _).setCell _ _ (.inl ((he d).2 (.inl rfl)))⟩
   rw[if_pos h0];exact hk.setFuse _ (by omega) (by have:=hk.ok.fuse1;omega)
  ·refine⟨_,.inr ⟨by omega,rfl⟩,⟨g,m,lv,?_,he⟩,Frm.refl _ _⟩
   rw[if_neg h0];exact hk
 have HLO:=Hd (IF w1 d _ F HD1 i hi)
 have FIN:Hid (∀ w2,DkPost w1 d ({ st with fuse:=if 0<st.fuse then st.fuse-1 else st.fuse }.loosened i) F w2->∃ g w3,w2.cell? ⟨d,0,none⟩=some (.slice (some ⟨g,0,none⟩) st.S.length st.S.length) /\
   (Builtin.copy_ #[93,9] 3 #[.slice (some ⟨g,i*256,none⟩) 256 256,s]).run Tryz.prog w2=.ok (goInt 256) w3/\DkPost w d (st.wrote i s.data.toList) F w3):=Hd (by
  intro w2 hp;obtain⟨F2,⟨g,m,lv,hk,he⟩,hf2,hs2⟩:=hp;have hS:=tQ { st with fuse:=if 0<st.fuse then st.fuse-1 else st.fuse } i;have hn2:i<({ st with fuse:=if 0<st.fuse then st.fuse-1 else st.fuse }.loosened i).S.length:=by rw[hS];exact hi
  have c0:=hk.cells.1;rw[hS] at c0;refine⟨g,_,c0,JQ hk i hn2 s hs,?_⟩;refine DkPost.trans (st1:=st) HF1 (fun k hk=>.inl hk) ⟨F2,⟨g,m,lv,hk.setSec i _ hls hn2,he⟩,?_,hs2⟩;exact hf2.setRow g _ (hs2 g ((he g).2 (.inr (.inl rfl)))))
 obtain⟨g,m,lv,hk,he⟩:=h;obtain⟨_,_,_,c3,c4⟩:=hk.cells;have f3:=hk.free 3;rw[hu] at c4;have hfew:=hk.ok.few;have g0:=hk.ok.fuse0;have g1:=hk.ok.fuse1;have hii:(i:Int)<(st.S.length:Int):=by omega
 clear hk he hu hf HD1 HF1 hls
 rcases hw1 with⟨hc,rfl⟩|⟨hc,rfl⟩
 all_goals
  go_enter Tryz.func123,Tryz.ntmps123;go_wp2_with fail;refine HS.mono ?_;rintro e w2 ⟨rfl,rfl⟩;go_wp2_with fail;refine HLO.mono ?_;rintro e w2 ⟨rfl,hp⟩;obtain⟨g',w3,d0,hcp,hfin⟩:=FIN w2 hp;have HFIN:=Hd hfin;clear hp hfin;go_wp2_with fail;go_ret;exact⟨rfl,HFIN.o⟩
theorem NJ (w:World)(d:Nat)(st:DkS)(F:Nat->Prop)(h:Dk w d st F)(i:Int)(s:ByteArray) :
  () 123 #[d,i,s] w fun e w'=>e=.returned (.int .i64 (st.write i s.data.toList).2)/\DkPost w d (st.write i s.data.toList).1 F w':=by
 have hl:s.data.toList.length=s.size:=by simp
 unfold DkS.write;rw[hl]
 cases hu:st.up
 ·rw[if_pos rfl]
  exact(EL w d st F h i s hu).mono fun e w' hw=>⟨hw.1,hw.2 ▸ DkPost.same h⟩
 ·rw[if_neg (by simp)]
  cases hc:(decide (0<=i)&&decide (i<(st.S.length:Int))&&decide (s.size=256))
  ·rw[if_pos rfl]
   exact(NI w d st F h i s hu hc).mono fun e w' hw=>⟨hw.1,hw.2 ▸ DkPost.same h⟩
  ·rw[if_neg (by simp)]
   simp only[Bool.and_eq_true,decide_eq_true_eq] at hc;obtain⟨n,rfl⟩:=Int.eq_ofNat_of_zero_le hc.1.1
   by_cases hf:st.fuse=0
   ·rw[if_pos hf]
    exact zG w d st F h n s hu (by omega) hc.2 hf
   ·rw[if_neg hf]
    exact NF w d st F h n s hu (by omega) hc.2 hf
def DkS.read (st:DkS)(i:Int):List UInt8 × Int:=
 if st.up=false then([],5) else if(decide (0<=i)&&decide (i<(st.S.length:Int)))=false then([],1) else(st.S.getD i.toNat [],0)
theorem VV (w:World)(d:Nat)(st:DkS)(F:Nat->Prop)(h:Dk w d st F)(i:Int) :
  () 183 #[d,i] w fun e w'=>e=.returned (.tuple #[.string (Str (st.read i).1),.int .i64 (st.read i).2])/\w=w':=by
 unfold DkS.read
 cases hu:st.up
 ·rw[if_pos rfl]
  exact QA w d st F h i hu
 ·rw[if_neg (by simp)]
  cases hc:(decide (0<=i)&&decide (i<(st.S.length:Int)))
  ·rw[if_pos rfl]
   exact aA1 w d st F h i hu hc
  ·rw[if_neg (by simp)]
   simp only[Bool.and_eq_true,decide_eq_true_eq] at hc;obtain⟨n,rfl⟩:=Int.eq_ofNat_of_zero_le hc.1;have hn:n<st.S.length:=by omega
   refine VU w d st F h n hu hn _ ?_;rw[Int.toNat_natCast,List.getD_eq_getElem?_getD,List.getElem?_eq_getElem hn]
   rfl
theorem OT (w:World)(d:Nat)(st:DkS)(F:Nat->Prop)(h:Dk w d st F) :
  () 124 #[d] w (EF (DkPost w d { st with L:=[] } F)):=by
 obtain⟨g,m,lv,hi,he⟩:=h;obtain⟨_,c1,c2,_,_⟩:=hi.cells;have f1:=hi.free 1;obtain⟨w1,hw1⟩:∃ w1,w.setCell ⟨d,1,none⟩ (.slice none 0 0)=w1:=⟨_,rfl⟩
 have hc1:w1.heap[d]?=some (.cells #[.slice (some ⟨g,0,none⟩) st.S.length st.S.length,.slice none 0 0,.map (some m),st.fuse,st.up] 110 (0,0)):=by
  rw[<-hw1,hss w d 1 _ _ _ hi.cell];rfl
 have ho1:∀ k,k≠d->w1.heap[k]?=w.heap[k]?:=fun k hk=>by rw[<-hw1];exact heap_setCell_other _ _ k _ hk
 have c21:w1.cell? ⟨d,2,none⟩=some (.map (some m)):=by rw[cell_of_row w1 d 2 _ _ _ hc1];rfl
 have hf1:Frm F w w1:=by rw[<-hw1];exact(Frm.refl _ _).setCell _ _ (.inl ((he d).2 (.inl rfl)))
 obtain⟨o,hcl,hmp⟩:=TF (P:=Tryz.prog) Tryz.underlying108 (hi.mp.kept (ho1 m (Ne.symm hi.dm))) 0
 have FIN:Hid (DkPost w d { st with L:=[] } F { w1 with heap:=w1.heap.setIfInBounds m o }):=Hd (by
  have ho2:∀ k,k≠m->({ w1 with heap:=w1.heap.setIfInBounds m o }:World).heap[k]?=w1.heap[k]?:=fun k hk=>by
   show(w1.heap.setIfInBounds m o)[k]?=_
   rw[Array.getElem?_setIfInBounds_ne (Ne.symm hk)]
  refine⟨fun k=>k=d\/k=g\/k=m,⟨g,m,.slice none 0 0,?_,?_⟩,hf1.setObj m o (.inl ((he m).2 (.inr (.inr (.inl rfl))))),?_⟩
  ·refine{ cell:=?_,secs:=?_,mp:=hmp,loose:=World.ownsRow_nil _ _ _ _,dg:=hi.dg,dm:=hi.dm,gm:=hi.gm,lvd:=by simp[Value.ownBlock],lvg:=by simp[Value.ownBlock],lvm:=by simp[Value.ownBlock],ok:=?_ }
   ·exact(ho2 d hi.dm).trans hc1
   ·exact(ho2 g hi.gm).trans ((ho1 g (Ne.symm hi.dg)).trans hi.secs)
   ·exact{ hi.ok with had:=by simp,keys:=by simp }
  ·intro k
   constructor
   ·rintro(h|h|h)
    ·exact .inl h
    ·exact .inr (.inl h)
    ·exact .inr (.inr (.inl h))
   ·rintro(h|h|h|h)
    ·exact .inl h
    ·exact .inr (.inl h)
    ·exact .inr (.inr h)
    ·simp[Value.ownBlock] at h
  ·rintro k (h|h|h)
   ·exact .inl ((he k).2 (.inl h))
   ·exact .inl ((he k).2 (.inr (.inl h)))
   ·exact .inl ((he k).2 (.inr (.inr (.inl h)))))
 clear hi he hc1 ho1 hf1 hmp;go_enter Tryz.func124,Tryz.ntmps124;go_wp2_with fail
 go_end0
 exact⟨rfl,FIN.o⟩
def DkS.fresh (n:Nat):DkS:={ S:=List.replicate n zs,L:=[],fuse:=-1,up:=true }
theorem YJ (n:Nat)(h8:8<=n)(h:n<=640):(DkS.fresh n).Ok:=by
 refine{ lens:=?_,had:=by simp[DkS.fresh],keys:=by simp[DkS.fresh],few:=by simpa[DkS.fresh] using h,least:=by simpa[DkS.fresh] using h8,fuse0:=by show(-9223372036854775808:Int)<=-1;decide,fuse1:=by show(-1:Int)<=9223372036854775807;decide };intro s hs;rw[(List.mem_replicate.1 hs).2];exact oJ
def aER (w:World)(st:DkS)(e:Ending)(w':World):Prop:=∃ (d:Nat) (F:Nat->Prop),e=.returned (.tuple #[d,(0:Int)])/\Dk w' d st F/\Below w.heap.size w w'/\∀ k,F k->w.heap.size<=k
theorem KJ (b:UInt8)(hb:b∈zs):b=0:=by
 unfold zs at hb;exact(List.mem_replicate.1 hb).2
theorem xU (w:World)(n:Nat)(hn:n<=640):∃ w2,(Instr.makeSlice 107 (.int .i64 (n:Int)) (.int .i64 (n:Int))).run Tryz.prog w=.ok (.slice (some ⟨w.heap.size,0,none⟩) n n) w2/\Byt 216 w2 w.heap.size (List.replicate n zs).flatten/\w2=w.alloc (.cells (By (List.replicate n zs).flatten) 216):=by
 have hz:(Tryz.prog.info? 216).map (fun i=>(i.zero,i.size,i.bytes))=some (some (.agg (By zs)),256,256):=by kernel_rfl
 cases hq:Tryz.prog.info? 216 with
 | none=>rw[hq] at hz;cases hz
 | some i=>
  rw[hq] at hz;simp only[Option.map_some,Option.some.injEq,Prod.mk.injEq] at hz;obtain⟨h1,h2,h3⟩:=hz;have hr:=run_make (P:=Tryz.prog) w 107 216 i (.agg (By zs)) Tryz.underlying107 hq h1 .i64 .i64 (n:Int) (n:Int) (by omega) (by omega) (by rw[h3];omega) (by omega);rw[Int.toNat_natCast,h2] at hr
  have e:madeCells (Value.agg (By zs)).cells (n*256)=By (List.replicate n zs).flatten:=by
   have hc:(Value.agg (By zs)).cells=By zs:=rfl;rw[hc];apply Array.ext
   ·rw[size_madeCells,kF,tW (S:=List.replicate n zs) (fun s hs=>by rw[(List.mem_replicate.1 hs).2];exact oJ),List.length_replicate]
    omega
   ·intro j h1 h2
    have hb:∀ b∈(List.replicate n zs).flatten,b=(0:UInt8):=by
     intro b hb;obtain⟨s,hs,hbs⟩:=List.mem_flatten.1 hb;rw[(List.mem_replicate.1 hs).2] at hbs;exact KJ b hbs
    have hr:(By (List.replicate n zs).flatten)[j]=vb 0:=by
     simp only[By,List.getElem_toArray,List.getElem_map];rw[hb _ (List.getElem_mem _)]
    rw[hr];have hs:(By zs).size=256:=by rw[kF,oJ]
    simp only[madeCells,Array.getElem_map,Array.getElem_range];have hlt:j % (By zs).size<(By zs).size:=Nat.mod_lt _ (by omega);rw[getElem!_pos (By zs) _ hlt];simp only[By,List.getElem_toArray,List.getElem_map];rw[KJ _ (List.getElem_mem _)]
  rw[e] at hr;exact⟨_,hr,han w _,rfl⟩
theorem aBK (w:World)(n:Nat)(h8:8<=n)(hn:n<=640) :
  () 24 #[(n:Int)] w (aER w (DkS.fresh n)):=by
 obtain⟨w2,hmk,hrow,hw2⟩:=xU w n hn;have hsz:w2.heap.size=w.heap.size+1:=by rw[hw2];simp
 have hb:Below w.heap.size w w2:=by rw[hw2];exact Br.alloc (Nat.le_refl _) _
 have FIN:Hid (aER w (DkS.fresh n) (.returned (.tuple #[.pointer (some ⟨w.heap.size+2,0,none⟩),(0:Int)])) ((w2.alloc (.map #[] 0)).alloc (.cells #[.slice (some ⟨w.heap.size,0,none⟩) n n,.slice none 0 0,.map (some (w.heap.size+1)),.int .i64 (-1),true] 110))):=Hd (by
  refine⟨w.heap.size+2,DkF (w.heap.size+2) w.heap.size (w.heap.size+1) (.slice none 0 0),rfl,⟨w.heap.size,w.heap.size+1,.slice none 0 0,?_,fun k=>Iff.rfl⟩,?_,?_⟩
  ·have s3:(w2.alloc (.map #[] 0)).heap.size=w.heap.size+2:=by simp[hsz]
   refine{ cell:=?_,secs:=?_,mp:=?_,loose:=World.ownsRow_nil _ _ _ _,dg:=by omega,dm:=by omega,gm:=by omega,lvd:=by simp[Value.ownBlock],lvg:=by simp[Value.ownBlock],lvm:=by simp[Value.ownBlock],ok:=YJ n h8 hn }
   ·have:=han (w2.alloc (.map #[] 0)) (.cells #[.slice (some ⟨w.heap.size,0,none⟩) n n,.slice none 0 0,.map (some (w.heap.size+1)),.int .i64 (-1),true] 110)
    rw[s3] at this;rw[this];simp[DkS.fresh]
   ·unfold Byt
    rw[Below.heap_alloc _ _ _ (by omega),Below.heap_alloc _ _ _ (by omega)];exact hrow
   ·refine⟨#[],0,?_,rfl⟩
    rw[Below.heap_alloc _ _ _ (by omega)];have:=han w2 (.map #[] 0);rwa [hsz] at this
  ·exact(hb.alloc hb.size _).alloc (by simp[hsz];omega) _
  ·rintro k (h|h|h|h)
   ·omega
   ·omega
   ·omega
   ·simp[Value.ownBlock] at h)
 have hmm:(Instr.makeMap 108 none).run Tryz.prog w2=.ok (.map (some (w.heap.size+1))) (w2.alloc (.map #[] 0)):=by
  have:(Instr.makeMap 108 none).run Tryz.prog w2=.ok (.map (some w2.heap.size)) (w2.alloc (.map #[] 0)):=by simp[Instr.makeMap]
  rw[this,hsz]
 have s3:(w2.alloc (.map #[] 0)).heap.size=w.heap.size+2:=by simp[hsz]
 have hni:(n:Int)<=640:=by omega
 have hn8:8<=(n:Int):=by omega
 clear hw2 hb hrow;go_enter Tryz.func24,Tryz.ntmps24;go_wp2_with fail;go_ret2;exact FIN.o
theorem OO (w:World)(d:Nat)(st:DkS)(F:Nat->Prop)(h:Dk w d st F)(hu:st.up=false) :
  () 103 #[d] w fun e w'=>e=.returned (.int .i64 5)/\w=w':=by
 obtain⟨g,m,lv,hi,he⟩:=h;obtain⟨_,_,_,_,c4⟩:=hi.cells;rw[hu] at c4;clear hi he hu;go_enter Tryz.func103,Tryz.ntmps103;go_wp2_with fail;go_ret;exact⟨rfl,rfl⟩
theorem UO (w:World)(d:Nat)(st:DkS)(F:Nat->Prop)(h:Dk w d st F)(hu:st.up=true) :
  () 103 #[d] w fun e w'=>e=.returned (.int .i64 0)/\DkPost w d { st with L:=[] } F w':=by
 have HS:=Hd (OT w d st F h);obtain⟨g,m,lv,hi,he⟩:=h;obtain⟨_,_,_,_,c4⟩:=hi.cells;rw[hu] at c4;clear hi he hu;go_enter Tryz.func103,Tryz.ntmps103;go_wp2_with fail;refine HS.mono ?_;rintro e w1 ⟨rfl,hp⟩;have HP:=Hd hp;clear hp;go_wp2_with fail;go_ret;exact⟨rfl,HP.o⟩
def DkS.sync (st:DkS):DkS × Int:=if st.up=false then(st,5) else({ st with L:=[] },0)
theorem UP (w:World)(d:Nat)(st:DkS)(F:Nat->Prop)(h:Dk w d st F) :
  () 103 #[d] w fun e w'=>e=.returned (.int .i64 st.sync.2)/\DkPost w d st.sync.1 F w':=by
 unfold DkS.sync
 by_cases hu:st.up=false
 ·rw[if_pos hu]
  exact(OO w d st F h hu).mono fun e w' hw=>⟨hw.1,hw.2 ▸ DkPost.same h⟩
 ·rw[if_neg hu]
  exact UO w d st F h (by simpa using hu)
def adT (p:Nat × Nat)(c:UInt8):Nat × Nat:=((p.1+c.toNat) % 65521,(p.2+(p.1+c.toNat) % 65521) % 65521)
def adF:List UInt8->Nat × Nat->Nat × Nat
 | [],p=>p
 | c::l,p=>adF l (adT p c)
def adA (l:List UInt8):Nat:=(adF l (1,0)).1
def adB (l:List UInt8):Nat:=(adF l (1,0)).2
def adS (l:List UInt8):Nat:=adB l*65536+adA l
theorem KF (l m:List UInt8)(p:Nat × Nat):adF (l++m) p=adF m (adF l p):=by
 induction l generalizing p with
 | nil=>rfl
 | cons c l ih=>simp only[List.cons_append,adF];exact ih _
theorem ZN (l:List UInt8)(c:UInt8)(p:Nat × Nat):adF (l++[c]) p=adT (adF l p) c:=by rw[KF];rfl
theorem ZO (l:List UInt8)(p:Nat × Nat)(h1:p.1<65521)(h2:p.2<65521):(adF l p).1<65521/\(adF l p).2<65521:=by
 induction l generalizing p with
 | nil=>exact⟨h1,h2⟩
 | cons c l ih=>
  simp only[adF];refine ih _ ?_ ?_
  ·exact Nat.mod_lt _ (by decide)
  ·exact Nat.mod_lt _ (by decide)
theorem aEM (l:List UInt8):adA l<65521:=(ZO l (1,0) (by decide) (by decide)).1
theorem aEL (l:List UInt8):adB l<65521:=(ZO l (1,0) (by decide) (by decide)).2
theorem aEK (l:List UInt8):adS l<4294967296:=by have:=aEM l;have:=aEL l;unfold adS;omega
def lP (n:Nat):List UInt8:=[UInt8.ofNat (n / 16777216),UInt8.ofNat (n / 65536),UInt8.ofNat (n / 256),UInt8.ofNat n]
theorem mR (n:Nat):(lP n).length=4:=rfl
def dU (l:List UInt8):Bool:=l.all (·==0)
theorem sI (l:List UInt8):dU l=true ↔ l=List.replicate l.length 0:=by
 induction l with
 | nil=>simp[dU]
 | cons a l ih=>
  unfold dU at *;rw[List.all_cons,Bool.and_eq_true,ih,List.length_cons,List.replicate_succ,List.cons.injEq];simp
def gE (k:Nat)(t:List UInt8):List UInt8:=UInt8.ofNat k::UInt8.ofNat t.length::(t++List.replicate (250-t.length) 0)
def pgL (k:Nat)(t:List UInt8):List UInt8:=gE k t++lP (adS (gE k t))
theorem iO (k:Nat)(t:List UInt8)(h:t.length<=240):(gE k t).length=252:=by simp[gE];omega
theorem oO (k:Nat)(t:List UInt8)(h:t.length<=240):(pgL k t).length=256:=by
 unfold pgL;rw[List.length_append,iO k t h];rfl
def pT (l:List UInt8):Bool:=l.drop 252==lP (adS (l.take 252))
def fX (l:List UInt8):Nat:=(l.getD 0 0).toNat
def iA (l:List UInt8):Nat:=(l.getD 1 0).toNat
def qR (l:List UInt8):List UInt8:=(l.drop 2).take (iA l)
def qT (l:List UInt8):List UInt8:=(l.drop (2+iA l)).take (250-iA l)
def tL (l:List UInt8):Bool:=decide (1<=fX l)&&decide (fX l<=15)&&decide (iA l<=240)&&dU (qT l)
def opE (l:List UInt8):Nat:=if l.length=256 then(if pT l=true then(if tL l=true then 0 else 2) else 15) else 2
def opK (l:List UInt8):Nat:=if opE l=0 then fX l else 0
def opT (l:List UInt8):List UInt8:=if opE l=0 then qR l else[]
theorem qU (l:List UInt8):fX l<256:=UInt8.toNat_lt _
theorem qS (l:List UInt8):iA l<256:=UInt8.toNat_lt _
theorem oP (l:List UInt8):tL l=true ↔ 1<=fX l/\fX l<=15/\iA l<=240/\dU (qT l)=true:=by
 simp[tL,and_assoc]
theorem WL (k:Nat)(t:List UInt8)(h:t.length<=240):(pgL k t).take 252=gE k t:=by
 unfold pgL;rw[<-iO k t h,List.take_left']
 rfl
theorem WM (k:Nat)(t:List UInt8)(h:t.length<=240):(pgL k t).drop 252=lP (adS (gE k t)):=by
 unfold pgL;rw[<-iO k t h,List.drop_left']
 rfl
theorem aBB (k:Nat)(t:List UInt8)(h1:1<=k)(h2:k<=15)(h:t.length<=240):opE (pgL k t)=0/\fX (pgL k t)=k/\qR (pgL k t)=t:=by
 have hk:fX (pgL k t)=k:=by
  show(UInt8.ofNat k).toNat=k
  rw[UInt8.toNat_ofNat'];omega
 have hz:iA (pgL k t)=t.length:=by
  show(UInt8.ofNat t.length).toNat=_
  rw[UInt8.toNat_ofNat'];omega
 have hd:(pgL k t).drop 2=t++(List.replicate (250-t.length) 0++lP (adS (gE k t))):=by
  unfold pgL
  show((t++List.replicate (250-t.length) 0)++lP (adS (gE k t)))=_
  rw[List.append_assoc]
 have ht:qR (pgL k t)=t:=by
  unfold qR;rw[hz,hd,List.take_left']
  rfl
 have hr:qT (pgL k t)=List.replicate (250-t.length) 0:=by
  unfold qT;rw[hz,<-List.drop_drop,hd,List.drop_left' rfl,List.take_left'];simp
 refine⟨?_,hk,ht⟩;unfold opE
 have hs:pT (pgL k t)=true:=by
  unfold pT;rw[WL k t h,WM k t h];simp
 have hf:tL (pgL k t)=true:=by
  rw[oP,hk,hz,hr];refine⟨h1,h2,h,?_⟩;rw[sI];simp
 rw[if_pos (oO k t h),if_pos hs,if_pos hf]
theorem ZM (s:ByteArray)(k:Nat)(h:k<s.size):adA (s.data.toList.take (k+1))=(adA (s.data.toList.take k)+s[k].toNat) % 65521/\adB (s.data.toList.take (k+1))=(adB (s.data.toList.take k)+(adA (s.data.toList.take k)+s[k].toNat) % 65521) % 65521:=by
 have e:s.data.toList.take (k+1)=s.data.toList.take k++[s[k]]:=by
  rw[List.take_succ_eq_append_getElem (by simpa using h)];rfl
 rw[e];unfold adA adB;rw[ZN];exact⟨rfl,rfl⟩
theorem aDW (a b:Nat)(ha:a<65521)(hb:b<65521):bits BinOp.or .u32 ((b:Int)*65536) (a:Int)=((b*65536+a:Nat):Int):=by
 have h1:((b:Int)*65536)=((b*65536:Nat):Int):=by omega
 rw[h1];have hx:(b*65536) ||| a=b*65536+a:=nat_join 16 (b*65536) a (by omega) (by omega)
 have h32:∀ a:Nat,a<4294967296->(BitVec.ofInt 32 (a:Int)).toNat=a:=fun a ha=>by
  rw[BitVec.ofInt_natCast,BitVec.toNat_ofNat];exact Nat.mod_eq_of_lt (by omega)
 show IntKind.u32.wrap ((BitVec.ofInt 32 ((b*65536:Nat):Int) ||| BitVec.ofInt 32 (a:Int)).toNat:Int)=_
 rw[BitVec.toNat_or,h32 _ (by omega),h32 _ (by omega),hx,IntKind.wrap_u32];omega
theorem aCV (s:ByteArray)(k:Nat)(h:k<s.size)(a b x:Nat)(ha:adA (s.data.toList.take k)=a)(hb:adB (s.data.toList.take k)=b)(hx:s[k].toNat=x) :
  adA (s.data.toList.take (k+1))=(a+x) % 65521/\adB (s.data.toList.take (k+1))=(b+(a+x) % 65521) % 65521:=by
 subst ha;subst hb;subst hx;exact ZM s k h
theorem QL (s:ByteArray)(w:World)(hs:s.size<=9223372036854775807)(N:Nat)(HN:Hid (adS s.data.toList=N)) :
  () 164 #[s] w fun e w'=>e=.returned (.int .u32 (N:Int))/\w=w':=by
 go_enter Tryz.func164,Tryz.ntmps164;go_wp2_with fail
 go_loop [3,4,5,8] (fun a b _ i=>∃ k A B:Nat,k<=s.size/\a=.int .u32 (A:Int)/\b=.int .u32 (B:Int)/\i=.int .i64 (k:Int)/\A<65521/\B<65521/\Hid (adA (s.data.toList.take k)=A)/\Hid (adB (s.data.toList.take k)=B)) (fun _ _ _ i=>s.size+1-(intOf i).toNat)
 case atStart=>exact⟨0,1,0,Nat.zero_le _,rfl,rfl,rfl,by decide,by decide,Hd (by simp;rfl),Hd (by simp;rfl)⟩
 case round=>
  obtain⟨k,A,B,hk,rfl,rfl,rfl,hA,hB,HA,HB⟩:=hrel
  by_cases hlt:k<s.size
  ·obtain⟨x,hx⟩:∃ x,s[k].toNat=x:=⟨_,rfl⟩
   have hx2:x<256:=by rw[<-hx];exact UInt8.toNat_lt _
   have F:=Hd (aCV s k hlt A B x HA HB hx);have FX:=Hd hx;clear HA HB;have hli:(k:Int)<(s.size:Int):=by omega
   go_wp2_with fail
   go_round
   case rel=>exact⟨k+1,_,_,by omega,rfl,rfl,by go_num,Nat.mod_lt _ (by decide),Nat.mod_lt _ (by decide),Hd F.1,Hd F.2⟩
   case measure=>simp[intOf];omega
  ·obtain rfl:k=s.size:=by omega
   have HJ:=Hd (aDW A B hA hB)
   have HV:Hid (B*65536+A=N):=Hd (by
    have e:s.data.toList.take s.size=s.data.toList:=List.take_of_length_le (by simp);rw[<-HN.o,<-HA.o,<-HB.o,e];rfl)
   clear HA HB HN;go_wp2_with fail;go_ret;exact⟨by rw[HJ.o,HV.o];rfl,rfl⟩
def sF (n:Nat):Nat->Array Value
 | 0=>#[.int .u8 0,.int .u8 0,.int .u8 0,.int .u8 0]
 | 1=>#[.int .u8 ((n:Int) / 16777216),.int .u8 0,.int .u8 0,.int .u8 0]
 | 2=>#[.int .u8 ((n:Int) / 16777216),.int .u8 ((n:Int) / 65536 % 256),.int .u8 0,.int .u8 0]
 | 3=>#[.int .u8 ((n:Int) / 16777216),.int .u8 ((n:Int) / 65536 % 256),.int .u8 ((n:Int) / 256 % 256),.int .u8 0]
 | _=>#[.int .u8 ((n:Int) / 16777216),.int .u8 ((n:Int) / 65536 % 256),.int .u8 ((n:Int) / 256 % 256),.int .u8 ((n:Int) % 256)]
theorem JA (n j:Nat)(hn:n<4294967296)(hj:j<(lP n).length):(sF n 4)[j]?=some (.int .u8 (((lP n)[j]).toNat:Int)):=by
 rw[mR] at hj;have h:j=0\/j=1\/j=2\/j=3:=by omega
 rcases h with rfl|rfl|rfl|rfl
 all_goals
  simp only[sF,lP,List.getElem_cons_zero,List.getElem_cons_succ,UInt8.toNat_ofNat'];simp;try omega
theorem gM (s:ByteArray)(w:World)(hs:s.size<=9223372036854775807)(B:ByteArray)(HB:Hid (Str (lP (adS s.data.toList))=B)) :
  () 143 #[s] w fun e w'=>e=.returned (.string B)/\Below w.heap.size w w':=by
 obtain⟨N,HN⟩:∃ N,Hid (adS s.data.toList=N):=⟨_,Hd rfl⟩
 have hN:=aEK s.data.toList;rw[HN.o] at hN;have HB2:Hid (Str (lP N)=B):=Hd (by rw[<-HN.o];exact HB.o);clear HB
 have hconv:=run_convert_bytes_back (P:=Tryz.prog) (w.alloc (.cells (sF N 4) 239)) 93 9 5 ⟨w.heap.size,0,none⟩ 4 (lP N) Tryz.underlying93 Tryz.underlying5 Tryz.underlying9 (fun j hj=>by
  have:=JA N j hN hj;rw[show(⟨w.heap.size,0,none⟩:Addr).add j=⟨w.heap.size,j,none⟩ by unfold Addr.add;split <;> simp_all];rw[<-this];simp)
 rw[mR,show(⟨(lP N).toArray⟩:ByteArray)=B from HB2.o] at hconv;have HC:=Hd hconv;clear hconv;go_enter Tryz.func143,Tryz.ntmps143;go_wp2_with fail;refine(QL s _ hs N HN).mono ?_;rintro e w1 ⟨rfl,rfl⟩;go_wp2_with fail
 go_loopw [5,8] (fun _ i wr=>∃ k:Nat,k<=4/\i=.int .i64 k/\wr=w.alloc (.cells (sF N k) 239)) (fun _ i _=>5-(intOf i).toNat)
 case atStart=>exact⟨0,Nat.zero_le _,rfl,rfl⟩
 case round=>
  obtain⟨k,hk,rfl,rfl⟩:=hrel;have hc:k=0\/k=1\/k=2\/k=3\/k=4:=by omega
  clear hk
  rcases hc with rfl|rfl|rfl|rfl|rfl
  case inr.inr.inr.inr=>
   have hconv:=HC.o;go_wp2_with fail;go_ret;exact⟨rfl,Br.alloc (Nat.le_refl _) _⟩
  all_goals
   go_wp2_with fail;go_roundw
   case rel=>first|exact⟨1,by omega,rfl,rfl⟩|exact⟨2,by omega,rfl,rfl⟩|exact⟨3,by omega,rfl,rfl⟩|exact⟨4,by omega,rfl,rfl⟩
   case measure=>simp[intOf]
def lY (k:Int):Bool:=decide (1<=k)&&decide (k<=15)
theorem nS (k:Int):lY k=true ↔ 1<=k/\k<=15:=by simp[lY]
theorem lK (k:Int)(v:Bool)(w:World)(hv:lY k=v) :
  () 142 #[k] w fun e w'=>e=.returned (.bool v)/\w=w':=by
 have H:=Hd hv;clear hv
 by_cases h:1<=k
 all_goals
  go_enter Tryz.func142,Tryz.ntmps142
  go_wp2
  go_ret;refine⟨?_,rfl⟩;rw[<-H.o];exact aU (by rw[Bool.eq_iff_iff];simp[lY];omega)
def mJ (k:Int)(t:ByteArray):Bool:=lY k&&decide (t.size<=240)
def oF (k:Int)(t:ByteArray):ByteArray:=if mJ k t=true then Str (pgL k.toNat t.data.toList) else⟨#[]⟩
def KW (k:Int)(t:ByteArray):Int:=if mJ k t=true then 0 else 1
theorem aAP (k:Int)(t:ByteArray)(w:World)(h:mJ k t=false) :
  () 122 #[k,t] w fun e w'=>e=.returned (.tuple #[.string ⟨#[]⟩,(1:Int)])/\w=w':=by
 cases hk:lY k
 ·have HK:=Hd hk
  clear hk h;go_enter Tryz.func122,Tryz.ntmps122;go_wp2_with fail;refine(lK k _ _ HK.o).mono ?_;rintro e w1 ⟨rfl,rfl⟩;go_wp2_with fail;go_ret2;exact⟨rfl,rfl⟩
 ·have ht:(240:Int)<(t.size:Int):=by
   unfold mJ at h;rw[hk] at h;simp at h;omega
  have HK:=Hd hk;clear hk h;go_enter Tryz.func122,Tryz.ntmps122;go_wp2_with fail;refine(lK k _ _ HK.o).mono ?_;rintro e w1 ⟨rfl,rfl⟩;go_wp2_with fail;go_ret2;exact⟨rfl,rfl⟩
theorem VE (k n:Nat)(hn:n<=240)(hk:k<=15)(t:List UInt8)(ht:t.length=n) :
  (((List.replicate 256 (0:UInt8)).set 0 (UInt8.ofNat k)).set 1 (UInt8.ofNat n)).take 2++t++(((List.replicate 256 (0:UInt8)).set 0 (UInt8.ofNat k)).set 1 (UInt8.ofNat n)).drop (2+n)=gE k t++[0,0,0,0]:=by
 subst ht;have e:((List.replicate 256 (0:UInt8)).set 0 (UInt8.ofNat k)).set 1 (UInt8.ofNat t.length)=UInt8.ofNat k::UInt8.ofNat t.length::List.replicate 254 0:=rfl;rw[e]
 have e2:(UInt8.ofNat k::UInt8.ofNat t.length::List.replicate 254 (0:UInt8)).drop (2+t.length)=List.replicate (254-t.length) 0:=by
  rw[<-List.drop_drop]
  show(List.replicate 254 (0:UInt8)).drop t.length=_
  rw[List.drop_replicate]
 rw[e2];unfold gE
 have e3:List.replicate (254-t.length) (0:UInt8)=List.replicate (250-t.length) 0++[0,0,0,0]:=by
  have:[(0:UInt8),0,0,0]=List.replicate 4 0:=rfl;rw[this,List.replicate_append_replicate]
  congr 1
  omega
 rw[e3]
 show[UInt8.ofNat k,UInt8.ofNat t.length]++t++_=_
 simp only[List.cons_append,List.nil_append,List.append_assoc]
theorem wP {wr a b:World}{v:Value}{s:ByteArray}(h:Below wr.heap.size wr a/\(convert 93 9 v).run Tryz.prog a=.ok (.string s) a)(hb:Below a.heap.size a b)
  (H:∀ w',Below wr.heap.size wr w'->(convert 93 9 v).run Tryz.prog w'=.ok (.string s) w'):Below wr.heap.size wr b/\(convert 93 9 v).run Tryz.prog b=.ok (.string s) b:=
 ⟨chain h.1 hb,H _ (chain h.1 hb)⟩
theorem VD (k:Nat)(t:ByteArray)(w:World)(h1:1<=k)(h2:k<=15)(h3:t.size<=240)(S:ByteArray)(HS:Hid (Str (pgL k t.data.toList)=S)) :
  () 122 #[(k:Int),t] w fun e w'=>e=.returned (.tuple #[S,(0:Int)])/\Below w.heap.size w w':=by
 have HK:Hid (lY (k:Int)=true):=Hd ((nS _).2 (by omega));obtain⟨w2,hmk,hrow,hbel⟩:=GZ w 252 256 (by decide) (by decide);have hmk':(Instr.makeSlice 93 (.int .i64 252) (.int .i64 256)).run Tryz.prog w=.ok (.slice (some ⟨w.heap.size,0,none⟩) 252 256) w2:=hmk;have hsz:w.heap.size<w2.heap.size:=hrow.lt;have c0:w2.cell? ⟨w.heap.size,0,none⟩=some (.int .u8 0):=hrow.cell 0 (by simp);have c1:w2.cell? ⟨w.heap.size,1,none⟩=some (.int .u8 0):=hrow.cell 1 (by simp);have f0:=hrow.free 0;have f1:=hrow.free 1
 have HR:Hid (Byt 5 ((w2.setCell ⟨w.heap.size,0,none⟩ (.int .u8 (k:Int))).setCell ⟨w.heap.size,1,none⟩ (.int .u8 (t.size:Int))) w.heap.size (((List.replicate 256 (0:UInt8)).set 0 (UInt8.ofNat k)).set 1 (UInt8.ofNat t.size))):=Hd (by
  have:=(hrow.set 0 (UInt8.ofNat k)).set 1 (UInt8.ofNat t.size);have e1:vb (UInt8.ofNat k)=.int .u8 (k:Int):=by unfold vb;rw[UInt8.toNat_ofNat',Nat.mod_eq_of_lt (by omega)]
  have e2:vb (UInt8.ofNat t.size)=.int .u8 (t.size:Int):=by unfold vb;rw[UInt8.toNat_ofNat',Nat.mod_eq_of_lt (by omega)]
  rwa [e1,e2] at this)
 have HB:Hid (Below w.heap.size w ((w2.setCell ⟨w.heap.size,0,none⟩ (.int .u8 (k:Int))).setCell ⟨w.heap.size,1,none⟩ (.int .u8 (t.size:Int)))):=Hd ((hbel.setCell (Nat.le_refl _) _).setCell (Nat.le_refl _) _);generalize hWA:(w2.setCell ⟨w.heap.size,0,none⟩ (.int .u8 (k:Int))).setCell ⟨w.heap.size,1,none⟩ (.int .u8 (t.size:Int))=wA at HR HB
 have hcp:=Lib.run_copy_row_string (P:=Tryz.prog) wA 93 9 3 5 w.heap.size 2 250 254 t (By (((List.replicate 256 (0:UInt8)).set 0 (UInt8.ofNat k)).set 1 (UInt8.ofNat t.size))) 5 Tryz.underlying93 (by kernel_rfl) HR (by omega) (by rw[kF];simp;omega);obtain⟨w3,hw3⟩:∃ w3,wA.setRow w.heap.size ((By (((List.replicate 256 (0:UInt8)).set 0 (UInt8.ofNat k)).set 1 (UInt8.ofNat t.size))).toList.take 2++Lib.byteCells t.data.toList++(By (((List.replicate 256 (0:UInt8)).set 0 (UInt8.ofNat k)).set 1 (UInt8.ofNat t.size))).toList.drop (2+t.size)).toArray=w3:=⟨_,rfl⟩
 have HR3:Hid (Byt 5 w3 w.heap.size (gE k t.data.toList++[0,0,0,0])):=Hd (by
  have h:=setRow_heap wA w.heap.size _ ((By (((List.replicate 256 (0:UInt8)).set 0 (UInt8.ofNat k)).set 1 (UInt8.ofNat t.size))).toList.take 2++Lib.byteCells t.data.toList++(By (((List.replicate 256 (0:UInt8)).set 0 (UInt8.ofNat k)).set 1 (UInt8.ofNat t.size))).toList.drop (2+t.size)).toArray _ (0,0) HR.o;rw[hw3] at h;unfold Byt;rw[h,<-VE k t.size h3 h2 t.data.toList (by simp)]
  congr 2
  apply Array.ext';simp only[By,Lib.byteCells,List.map_append,List.map_take,List.map_drop]
  rfl)
 have HB3:Hid (Below w.heap.size w w3):=Hd (by rw[<-hw3];exact below_setRow HB (Nat.le_refl _) _);rw[hw3] at hcp;rw[<-hWA] at hcp;have hl:(gE k t.data.toList).length=252:=iO k _ (by simpa using h3)
 have CV:Hid (∀ w',Below w3.heap.size w3 w'->(convert 93 9 (.slice (some ⟨w.heap.size,0,none⟩) 252 256)).run Tryz.prog w'=.ok (.string (Str (gE k t.data.toList))) w'):=Hd fun w' hb=>by
  have:=(HR3.below hb).conv 252 256 (by simp[hl]);rwa [<-hl,List.take_left' rfl,hl] at this
 obtain⟨Y,HY⟩:∃ Y,Hid (Str (lP (adS (gE k t.data.toList)))=Y):=⟨_,Hd rfl⟩
 have HYz:Y.size=4:=by rw[<-HY.o,cP,mR]
 obtain⟨X,HX⟩:∃ X,Hid (Str (gE k t.data.toList)=X):=⟨_,Hd rfl⟩
 have HXz:X.size=252:=by rw[<-HX.o,cP,hl]
 have HXY:Hid (X++Y=S):=Hd (by
  rw[<-HX.o,<-HY.o,<-HS.o,oY,aY];rfl)
 have HYX:Hid (Str (lP (adS X.data.toList))=Y):=Hd (by rw[<-HX.o,aY];exact HY.o);rw[HX.o] at CV;have B0:Below w3.heap.size w3 w3:=Br;have C0:=CV w3 B0;clear hmk hrow hbel HR HB hWA hw3 HR3 hl HX HY HS;go_enter Tryz.func122,Tryz.ntmps122;go_wp2_with fail;refine(lK k _ _ HK.o).mono ?_;rintro e w1 ⟨rfl,rfl⟩;go_wp2_with fail;have s1:(X.size:Int)+(Y.size:Int)<=9223372036854775807:=by omega
 have s2:(9223372036854775807<X.size+Y.size)=False:=by rw[eq_iff_iff,iff_false];omega
 first|(go_region_held3 (fun w'=>Below w3.heap.size w3 w'/\(convert 93 9 (.slice (some ⟨w.heap.size,0,none⟩) 252 256)).run Tryz.prog w'=.ok (.string X) w') (first|exact⟨B0.drew,CV _ B0.drew⟩|exact wP ⟨B0.drew,CV _ B0.drew⟩ b9 CV.o|exact wP (by assumption) b9 CV.o) ((first|(go_at_call 143;refine(gM _ _ (by omega) _ HYX).mono ?_;rintro e w9 ⟨rfl,b9⟩))))|fail
 all_goals
  rename_i hH;have hfin:=chain HB3 hH.1;go_wp2_with fail;go_ret2;exact⟨by rw[<-HXY.o];rfl,hfin⟩
theorem CP (l:List UInt8)(h:dU l=false):∃ i,i<l.length/\(∀ j,j<i->l.getD j 0=0)/\l.getD i 0≠0:=by
 induction l with
 | nil=>simp[dU] at h
 | cons a l ih=>
  by_cases ha:a=0
  ·subst ha
   have h2:dU l=false:=by
    unfold dU at *;rw[List.all_cons] at h
    simpa using h
   obtain⟨i,h1,h3,h4⟩:=ih h2;refine⟨i+1,by simp;omega,fun j hj=>?_,by simpa using h4⟩
   cases j with
   | zero=>rfl
   | succ j=>simpa using h3 j (by omega)
  ·exact⟨0,by simp,fun j hj=>absurd hj (Nat.not_lt_zero _),by simpa using ha⟩
theorem aBS (l:List UInt8)(h:dU l=false):∃ k,0<k/\k<=l.length/\(∀ j,k<=j->j<l.length->l.getD j 0=0)/\l.getD (k-1) 0≠0:=by
 have h2:dU l.reverse=false:=by unfold dU at *;rw[List.all_reverse];exact h
 obtain⟨i,h1,h3,h4⟩:=CP _ h2;rw[List.length_reverse] at h1
 have e:∀ j,j<l.length->l.reverse.getD j 0=l.getD (l.length-1-j) 0:=fun j hj=>by
  rw[List.getD_eq_getElem?_getD,List.getD_eq_getElem?_getD,List.getElem?_reverse hj]
 refine⟨l.length-i,by omega,by omega,fun j hj hl=>?_,?_⟩
 ·have:=h3 (l.length-1-j) (by omega)
  rw[e _ (by omega)] at this;rwa [show l.length-1-(l.length-1-j)=j by omega] at this
 ·rw[e i h1] at h4
  rwa [show l.length-i-1=l.length-1-i by omega]
theorem MV (s:ByteArray)(j:Nat)(h:j<s.size):s[j]=s.data.toList.getD j 0:=by
 rw[List.getD_eq_getElem?_getD,List.getElem?_eq_getElem (by simpa using h)];simp[ByteArray.getElem_eq_getElem_data]
theorem mT (s:ByteArray)(i j:Nat)(h:j<=s.size):(s.extract i j).size=j-i:=by rw[ByteArray.size_extract];omega
theorem yC (s:ByteArray)(i j n:Nat)(hj:j<=s.size)(h:n<(s.extract i j).size):(s.extract i j)[n]=s.data.toList.getD (i+n) 0:=by
 rw[MV,aR];have:=mT s i j hj;rw[List.getD_eq_getElem?_getD,List.getElem?_take,if_pos (by omega),List.getElem?_drop,List.getD_eq_getElem?_getD]
theorem MJ (s:ByteArray)(i j a b:Nat)(hb:b<=j-i)(hj:j<=s.size):(s.extract i j).extract a b=s.extract (i+a) (i+b):=by
 apply aK;rw[aR,aR,aR,List.drop_take,List.drop_drop,List.take_take]
 congr 1
 omega
def UR (v:Value):Nat:=match v with
 | .string s=>s.size
 | _=>0
theorem pK (s:ByteArray):UR (.string s)=s.size:=rfl
theorem aC3 (x:UInt8)(h:x≠0):((x.toNat:Int)==0)=false:=by
 have:(x.toNat:Int)≠0:=fun hc=>h (UInt8.toNat_inj.1 (by exact_mod_cast hc))
 simpa using this
theorem zO (s:ByteArray)(w:World)(hs:s.size<=9223372036854775807)(k:Nat)(hk:k<=s.size)(hz:Hid (∀ j,k<=j->j<s.size->s.data.toList.getD j 0=0))(hn:Hid (0<k->s.data.toList.getD (k-1) 0≠0))(t:ByteArray)(ht:Hid (s.extract 0 k=t)) :
  () 200 #[s,.int .u8 0] w fun e w'=>e=.returned (.string t)/\w=w':=by
 have e0:s=s.extract 0 s.size:=by apply aK;rw[aR];simp[List.take_of_length_le]
 have E0:=Hd e0;clear e0;go_enter Tryz.func200,Tryz.ntmps200;go_wp2_with fail
 go_loop [0] (fun v=>∃ (m:Nat) (u:ByteArray),k<=m/\m<=s.size/\v=.string u/\Hid (s.extract 0 m=u)) (fun v=>UR v)
 case atStart=>exact⟨s.size,s,hk,Nat.le_refl _,rfl,Hd E0.symm⟩
 case round=>
  obtain⟨m,u,hm,hms,rfl,HU⟩:=hrel;have hus:u.size=m:=by rw[<-HU.o,mT _ _ _ hms];omega
  have hsz2:(m:Int)<=9223372036854775807:=by omega
  by_cases hmk:m=k
  ·by_cases h0:k=0
   ·subst h0
    subst hmk;have FT:Hid (u=t):=Hd (by rw[<-HU.o,<-ht.o]);clear HU ht;go_wp2_with fail;go_ret;exact⟨by rw[<-FT.o];rfl,rfl⟩
   ·have FT:Hid (u=t):=Hd (by rw[<-HU.o,<-ht.o,hmk])
    have h1m:0<m:=by omega
    have hb:∀ h:m-1<u.size,(((u[m-1]'h).toNat:Int)==0)=false:=fun h=>by
     refine aC3 _ ?_
     have hh:(u[m-1]'h)=s.data.toList.getD (k-1) 0:=by
      have e1:=HU.o;subst e1;rw[yC _ _ _ _ hms]
      congr 1
      omega
     rw[hh];exact hn (by omega)
    clear HU ht hmk hz hn E0;go_wp2_with fail;go_ret;exact⟨by rw[<-FT.o];rfl,rfl⟩
  ·have h1m:0<m:=by omega
   have hb:∀ h:m-1<u.size,(u[m-1]'h).toNat=0:=fun h=>by
    have hh:(u[m-1]'h)=s.data.toList.getD (m-1) 0:=by
     have e1:=HU.o;subst e1;rw[yC _ _ _ _ hms]
     congr 1
     omega
    rw[hh,hz (m-1) (by omega) (by omega)]
    rfl
   have FU:Hid (s.extract 0 (m-1)=u.extract 0 (m-1)):=Hd (by
    rw[<-HU.o,MJ _ _ _ _ _ (by omega) hms];simp)
   have FS:Hid ((u.extract 0 (m-1)).size<u.size):=Hd (by rw[ByteArray.size_extract];omega);have hm1:k<=m-1:=by omega
   clear HU ht hmk hz hn E0;go_wp2_with fail
   go_round
   case rel=>exact⟨m-1,_,hm1,by omega,rfl,FU⟩
   case measure=>rw[pK,pK];exact FS.o
theorem zP (s:ByteArray)(w:World)(hs:s.size<=9223372036854775807)(k:Nat)(hk:k<=s.size)(hz:Hid (∀ j,j<k->s.data.toList.getD j 0=0))(hn:Hid (k<s.size->s.data.toList.getD k 0≠0))(t:ByteArray)(ht:Hid (s.extract k s.size=t)) :
  () 199 #[s,.int .u8 0] w fun e w'=>e=.returned (.string t)/\w=w':=by
 have e0:s=s.extract 0 s.size:=by apply aK;rw[aR];simp[List.take_of_length_le]
 have E0:=Hd e0;clear e0;go_enter Tryz.func199,Tryz.ntmps199;go_wp2_with fail
 go_loop [0] (fun v=>∃ (m z:Nat) (u:ByteArray),m<=k/\v=.string u/\m+z=s.size/\Hid (s.extract m s.size=u)) (fun v=>UR v)
 case atStart=>exact⟨0,s.size,s,Nat.zero_le _,rfl,by omega,Hd E0.symm⟩
 case round=>
  obtain⟨m,z,u,hm,rfl,hmz,HU⟩:=hrel;have hus:u.size=z:=by rw[<-HU.o,mT _ _ _ (Nat.le_refl _)];omega
  have hsz2:(z:Int)<=9223372036854775807:=by omega
  by_cases hmk:m=k
  ·by_cases h0:z=0
   ·subst h0
    have FT:Hid (u=t):=Hd (by rw[<-HU.o,<-ht.o,hmk]);clear HU ht hmk hmz;go_wp2_with fail;go_ret;exact⟨by rw[<-FT.o];rfl,rfl⟩
   ·have FT:Hid (u=t):=Hd (by rw[<-HU.o,<-ht.o,hmk])
    have h1m:0<z:=by omega
    have hb:∀ h:0<u.size,(((u[0]'h).toNat:Int)==0)=false:=fun h=>by
     refine aC3 _ ?_
     have hh:(u[0]'h)=s.data.toList.getD k 0:=by
      have e1:=HU.o;subst e1;rw[yC _ _ _ _ (Nat.le_refl _)]
      congr 1
     rw[hh];exact hn (by omega)
    clear HU ht hmk hz hn E0 hmz;go_wp2_with fail;go_ret;exact⟨by rw[<-FT.o];rfl,rfl⟩
  ·have h1m:0<z:=by omega
   have hb:∀ h:0<u.size,(u[0]'h).toNat=0:=fun h=>by
    have hh:(u[0]'h)=s.data.toList.getD m 0:=by
     have e1:=HU.o;subst e1;rw[yC _ _ _ _ (Nat.le_refl _)]
     congr 1
    rw[hh,hz m (by omega)]
    rfl
   have FU:Hid (s.extract (m+1) s.size=u.extract 1 z):=Hd (by
    rw[<-HU.o,MJ _ _ _ _ _ (by omega) (Nat.le_refl _)]
    congr 1
    omega)
   have FS:Hid ((u.extract 1 z).size<u.size):=Hd (by rw[ByteArray.size_extract];omega);have hm1:m+1<=k:=by omega
   have hz1:m+1+(z-1)=s.size:=by omega
   clear HU ht hmk hz hn E0 hmz;go_wp2_with fail
   go_round
   case rel=>exact⟨m+1,z-1,_,hm1,rfl,hz1,FU⟩
   case measure=>rw[pK,pK];exact FS.o
theorem uY (l:List UInt8)(h:dU l=true)(j:Nat):l.getD j 0=0:=by
 rw[(sI l).1 h,List.getD_eq_getElem?_getD,List.getElem?_replicate]
 split <;> rfl
theorem UH (s:ByteArray)(w:World)(hs:s.size<=9223372036854775807)(h:dU s.data.toList=true) :
  () 197 #[s,.string ⟨#[0]⟩] w fun e w'=>e=.returned (.string ⟨#[]⟩)/\(∃ n,w'=w.drewN n):=by
 by_cases h0:s.size=0
 ·obtain rfl:s=⟨#[]⟩:=by
   apply aK;have:=cI s;rw[h0] at this;rw[List.length_eq_zero_iff.1 this]
  clear h h0;go_enter Tryz.func197,Tryz.ntmps197;go_wp2_with fail;go_ret;exact⟨rfl,0,rfl⟩
 ·have hne:=jL s (by omega)
  have hne2:(s.toList=[])=False:=by
   apply eq_false;intro hc;rw[hc] at hne;exact absurd hne (by decide)
  have R:=Hd fun w=>zO s w hs 0 (Nat.zero_le _) (Hd fun j _ _=>uY _ h j) (Hd fun hc=>absurd hc (Nat.lt_irrefl _)) ⟨#[]⟩ (Hd (by apply aK;rw[aR];simp))
  have L:=Hd fun w=>zP (⟨#[]⟩:ByteArray) w (by decide) 0 (Nat.zero_le _) (Hd fun j hj=>absurd hj (Nat.not_lt_zero _)) (Hd fun hc=>absurd hc (by decide)) ⟨#[]⟩ (Hd rfl)
  clear h h0;go_enter Tryz.func197,Tryz.ntmps197;go_wp2_with fail
  go_quiet ((first|(go_at_call 200;exact Calls.quiet_of_same ((R _).mono fun _ _ h=>⟨h.1,h.2.symm⟩))|(go_at_call 199;exact Calls.quiet_of_same ((L _).mono fun _ _ h=>⟨h.1,h.2.symm⟩))))
  go_wp2_with fail;go_ret;exact⟨rfl,nq,rfl⟩
def NonE (w:World)(e:Ending)(w':World):Prop:=∃ (u:ByteArray) (n:Nat),0<u.size/\e=.returned (.string u)/\w'=w.drewN n
theorem aAC (s:ByteArray)(w:World)(hs:s.size<=9223372036854775807)(h:dU s.data.toList=false) :
  () 197 #[s,.string ⟨#[0]⟩] w (NonE w):=by
 obtain⟨k,k0,k1,k2,k3⟩:=aBS _ h;have hsl:=cI s;rw[hsl] at k1;have h0:0<s.size:=by omega
 have hne:=jL s (by omega)
 have hne2:(s.toList=[])=False:=by
  apply eq_false;intro hc;rw[hc] at hne;exact absurd hne (by decide)
 obtain⟨t,ht⟩:∃ t,s.extract 0 k=t:=⟨_,rfl⟩
 have hts:t.size=k:=by rw[<-ht,mT _ _ _ k1];omega
 have htl:∀ j,j<k->t.data.toList.getD j 0=s.data.toList.getD j 0:=fun j hj=>by
  rw[<-ht,aR,List.getD_eq_getElem?_getD,List.getElem?_take,if_pos (by omega)];simp
 have hnz:dU t.data.toList=false:=by
  rw[Bool.eq_false_iff];intro hc;have:=uY _ hc (k-1);rw[htl _ (by omega)] at this;exact k3 this
 obtain⟨i,i1,i2,i3⟩:=CP _ hnz;rw[cI] at i1;have R:=Hd fun w=>zO s w hs k k1 (Hd fun j a b=>k2 j a (by omega)) (Hd fun _=>k3) t (Hd ht)
 have L:=Hd fun w=>zP t w (by omega) i (by omega) (Hd i2) (Hd fun _=>i3) _ (Hd rfl)
 have hz:0<(t.extract i t.size).size:=by rw[mT _ _ _ (Nat.le_refl _)];omega
 have HZ:=Hd hz;clear hz;generalize t.extract i t.size=u at *;clear h h0 k2 k3 htl hnz i2 i3 ht hts hsl;go_enter Tryz.func197,Tryz.ntmps197;go_wp2_with fail
 go_quiet ((first|(go_at_call 200;exact Calls.quiet_of_same ((R _).mono fun _ _ h=>⟨h.1,h.2.symm⟩))|(go_at_call 199;exact Calls.quiet_of_same ((L _).mono fun _ _ h=>⟨h.1,h.2.symm⟩))))
 go_wp2_with fail;go_ret;exact⟨u,nq,HZ.o,rfl,rfl⟩
theorem zC (s:ByteArray)(w:World)(hs:s.size<=9223372036854775807)(v:Bool)(hv:dU s.data.toList=v) :
  () 194 #[s] w fun e w'=>e=.returned (.bool v)/\Below w.heap.size w w':=by
 cases v
 ·have HV:=Hd hv
  clear hv;go_enter Tryz.func194,Tryz.ntmps194;go_wp2_with fail;refine(aAC s _ hs HV.o).mono ?_;rintro e w1 ⟨u,n,hu,rfl,rfl⟩;have hne:=jL u hu
  have hne2:(u.toList=[])=False:=by
   apply eq_false;intro hc;rw[hc] at hne;exact absurd hne (by decide)
  go_wp2_with fail;go_ret;exact⟨rfl,bU Br _⟩
 ·have HV:=Hd hv
  clear hv;go_enter Tryz.func194,Tryz.ntmps194;go_wp2_with fail;refine(UH s _ hs HV.o).mono ?_;rintro e w1 ⟨rfl,n,rfl⟩;go_wp2_with fail;go_ret;exact⟨rfl,bU Br _⟩
theorem WX (b:ByteArray)(w:World)(h:b.size≠256) :
  () 184 #[b] w fun e w'=>e=.returned (.tuple #[(0:Int),.string ⟨#[]⟩,(2:Int)])/\Below w.heap.size w w':=by
 have h1:((b.size:Int)==256)=false:=by simpa using(fun hc:(b.size:Int)=256=>h (by omega))
 have h2:((b.size:Int) != 256)=true:=by simp[bne,h1]
 go_enter Tryz.func184,Tryz.ntmps184;go_wp2_with fail;go_ret3;exact⟨rfl,Br⟩
theorem qG (b:ByteArray)(h:b.size=256):(b.extract 252 256).data.toList=b.data.toList.drop 252:=by
 rw[aR];exact List.take_of_length_le (by simp[h])
theorem pF (b:ByteArray):(b.extract 0 252).data.toList=b.data.toList.take 252:=by
 rw[aR];rfl
theorem WW (b:ByteArray)(w:World)(h:b.size=256)(hs:pT b.data.toList=false) :
  () 184 #[b] w fun e w'=>e=.returned (.tuple #[(0:Int),.string ⟨#[]⟩,(15:Int)])/\Below w.heap.size w w':=by
 obtain⟨X,HX⟩:∃ X,b.extract 0 252=X:=⟨_,rfl⟩
 obtain⟨T,HT⟩:∃ T,b.extract 252 256=T:=⟨_,rfl⟩
 obtain⟨Y,HY⟩:∃ Y,Hid (Str (lP (adS X.data.toList))=Y):=⟨_,Hd rfl⟩
 have hXz:X.size<=9223372036854775807:=by rw[<-HX,ByteArray.size_extract];omega
 have hne:(T=Y)=False:=by
  apply eq_false;intro hc;have e1:T.data.toList=Y.data.toList:=by rw[hc]
  rw[<-HT,qG b h,<-HY.o,aY,<-HX,pF] at e1;unfold pT at hs;rw[e1] at hs;simp at hs
 have hne1:(T.toList=Y.toList)=False:=by rw[BO];exact hne
 have hne2:(T.toList==Y.toList)=false:=by rw[tR];simp[hne]
 have hne3:(T.toList != Y.toList)=true:=by simp[bne,hne2]
 clear hs hne;go_enter Tryz.func184,Tryz.ntmps184;go_wp2_with fail
 go_region_with (go_at_call 143;refine(gM _ _ hXz _ HY).mono ?_;rintro e w9 ⟨rfl,b9⟩)
 all_goals
  go_wp2_with fail;go_ret3;exact⟨rfl,chain (Br.drew) b9⟩
theorem kZ (b:ByteArray)(j K:Nat)(h:(b.data.toList.getD j 0).toNat=K)(hj:j<b.size):(b[j]'hj).toNat=K:=by
 rw[MV,h]
theorem wF (b:ByteArray)(w:World)(h:b.size=256)(hs:pT b.data.toList=true)(hk:lY (fX b.data.toList:Int)=false\/240<iA b.data.toList) :
  () 184 #[b] w fun e w'=>e=.returned (.tuple #[(0:Int),.string ⟨#[]⟩,(2:Int)])/\Below w.heap.size w w':=by
 obtain⟨X,HX⟩:∃ X,b.extract 0 252=X:=⟨_,rfl⟩
 obtain⟨T,HT⟩:∃ T,b.extract 252 256=T:=⟨_,rfl⟩
 have hXz:X.size<=9223372036854775807:=by rw[<-HX,ByteArray.size_extract];omega
 have HY:Hid (Str (lP (adS X.data.toList))=T):=Hd (by
  apply aK;rw[aY,<-HT,qG b h,<-HX,pF];exact(eq_of_beq hs).symm)
 obtain⟨K,hK⟩:∃ K,fX b.data.toList=K:=⟨_,rfl⟩
 obtain⟨Z,hZ⟩:∃ Z,iA b.data.toList=Z:=⟨_,rfl⟩
 have hKl:=qU b.data.toList;have hZl:=qS b.data.toList;rw[hK] at hKl;rw[hZ] at hZl;have x0:=kZ b 0 K hK (by omega);have x1:=kZ b 1 Z hZ (by omega);rw[hK,hZ] at hk;obtain⟨v,HK⟩:∃ v,Hid (lY (K:Int)=v):=⟨_,Hd rfl⟩
 have hc:v=false\/(v=true/\(240:Int)<(Z:Int)):=by
  rw[HK.o] at hk
  cases v
  ·exact .inl rfl
  ·exact .inr ⟨rfl,by rcases hk with hk|hk;cases hk;omega⟩
 clear hk hK hZ
 rcases hc with rfl|⟨rfl,hz⟩
 ·go_enter Tryz.func184,Tryz.ntmps184
  go_wp2_with fail
  go_region_with (go_at_call 143;refine(gM _ _ hXz _ HY).mono ?_;rintro e w9 ⟨rfl,b9⟩)
  all_goals
   have B9:=Hd (chain ((Below.refl w.heap.size w).drew) b9);clear b9;go_wp2_with fail
   go_quiet (fail)
   replace B9:=Hd (bU B9 nq)
   generalize w9.drewN nq=wq at *;go_wp2_with fail;refine(lK (K:Int) _ _ HK.o).mono ?_;rintro e w10 ⟨rfl,rfl⟩;go_wp2_with fail;go_ret3;exact⟨rfl,B9.o⟩
 ·go_enter Tryz.func184,Tryz.ntmps184
  go_wp2_with fail
  go_region_with (go_at_call 143;refine(gM _ _ hXz _ HY).mono ?_;rintro e w9 ⟨rfl,b9⟩)
  all_goals
   have B9:=Hd (chain ((Below.refl w.heap.size w).drew) b9);clear b9;go_wp2_with fail
   go_quiet (fail)
   replace B9:=Hd (bU B9 nq)
   generalize w9.drewN nq=wq at *;go_wp2_with fail;refine(lK (K:Int) _ _ HK.o).mono ?_;rintro e w10 ⟨rfl,rfl⟩;go_wp2_with fail;go_ret3;exact⟨rfl,B9.o⟩
theorem QS (b:ByteArray)(w:World)(h:b.size=256)(hs:pT b.data.toList=true)(hk:lY (fX b.data.toList:Int)=true)(hq:iA b.data.toList<=240)(hv:dU (qT b.data.toList)=false) :
  () 184 #[b] w fun e w'=>e=.returned (.tuple #[(0:Int),.string ⟨#[]⟩,(2:Int)])/\Below w.heap.size w w':=by
 obtain⟨X,HX⟩:∃ X,b.extract 0 252=X:=⟨_,rfl⟩
 obtain⟨T,HT⟩:∃ T,b.extract 252 256=T:=⟨_,rfl⟩
 have hXz:X.size<=9223372036854775807:=by rw[<-HX,ByteArray.size_extract];omega
 have HY:Hid (Str (lP (adS X.data.toList))=T):=Hd (by
  apply aK;rw[aY,<-HT,qG b h,<-HX,pF];exact(eq_of_beq hs).symm)
 obtain⟨K,hK⟩:∃ K,fX b.data.toList=K:=⟨_,rfl⟩
 obtain⟨Z,hZ⟩:∃ Z,iA b.data.toList=Z:=⟨_,rfl⟩
 have hKl:=qU b.data.toList;have hZl:=qS b.data.toList;rw[hK] at hKl;rw[hZ] at hZl;have x0:=kZ b 0 K hK (by omega);have x1:=kZ b 1 Z hZ (by omega);rw[hK] at hk;rw[hZ] at hq;have HK:=Hd hk;have hqi:(Z:Int)<=240:=by omega
 obtain⟨R,hR⟩:∃ R,b.extract (2+Z) 252=R:=⟨_,rfl⟩
 have HV:Hid (dU R.data.toList=false):=Hd (by
  rw[<-hR,aR,show 252-(2+Z)=250-Z by omega,<-hZ];exact hv)
 clear hv hk hK hZ;go_enter Tryz.func184,Tryz.ntmps184;go_wp2_with fail
 go_region_with (go_at_call 143;refine(gM _ _ hXz _ HY).mono ?_;rintro e w9 ⟨rfl,b9⟩)
 all_goals
  have B9:=Hd (chain ((Below.refl w.heap.size w).drew) b9);clear b9;go_wp2_with fail
  go_quiet (fail)
  replace B9:=Hd (bU B9 nq)
  generalize w9.drewN nq=wq at *;go_wp2_with fail;refine(lK (K:Int) _ _ HK.o).mono ?_;rintro e w10 ⟨rfl,rfl⟩;go_wp2_with fail;refine(zC _ _ (by rw[<-hR,ByteArray.size_extract];omega) false HV.o).mono ?_;rintro e w11 ⟨rfl,b11⟩
  replace B9:=Hd (chain B9 b11)
  clear b11;go_wp2_with fail;go_ret3;exact⟨rfl,B9.o⟩
theorem aBG (b:ByteArray)(w:World)(h:b.size=256)(hs:pT b.data.toList=true)(hk:lY (fX b.data.toList:Int)=true)(hq:iA b.data.toList<=240)(hv:dU (qT b.data.toList)=true) :
  () 184 #[b] w fun e w'=>e=.returned (.tuple #[(fX b.data.toList:Int),.string (Str (qR b.data.toList)),(0:Int)])/\Below w.heap.size w w':=by
 obtain⟨X,HX⟩:∃ X,b.extract 0 252=X:=⟨_,rfl⟩
 obtain⟨T,HT⟩:∃ T,b.extract 252 256=T:=⟨_,rfl⟩
 have hXz:X.size<=9223372036854775807:=by rw[<-HX,ByteArray.size_extract];omega
 have HY:Hid (Str (lP (adS X.data.toList))=T):=Hd (by
  apply aK;rw[aY,<-HT,qG b h,<-HX,pF];exact(eq_of_beq hs).symm)
 obtain⟨K,hK⟩:∃ K,fX b.data.toList=K:=⟨_,rfl⟩
 obtain⟨Z,hZ⟩:∃ Z,iA b.data.toList=Z:=⟨_,rfl⟩
 have hKl:=qU b.data.toList;have hZl:=qS b.data.toList;rw[hK] at hKl;rw[hZ] at hZl;have x0:=kZ b 0 K hK (by omega);have x1:=kZ b 1 Z hZ (by omega)
 have HO:Hid (Str (qR b.data.toList)=b.extract 2 (2+Z)):=Hd (by
  apply aK;rw[aY,aR,show 2+Z-2=Z by omega,<-hZ];rfl)
 rw[HO.o];rw[hK] at hk |-;rw[hZ] at hq;have HK:=Hd hk;have hqi:(Z:Int)<=240:=by omega
 obtain⟨R,hR⟩:∃ R,b.extract (2+Z) 252=R:=⟨_,rfl⟩
 have HV:Hid (dU R.data.toList=true):=Hd (by
  rw[<-hR,aR,show 252-(2+Z)=250-Z by omega,<-hZ];exact hv)
 obtain⟨O,hO⟩:∃ O,b.extract 2 (2+Z)=O:=⟨_,rfl⟩
 rw[hO];clear hv hk hK hZ HO;go_enter Tryz.func184,Tryz.ntmps184;go_wp2_with fail
 go_region_with (go_at_call 143;refine(gM _ _ hXz _ HY).mono ?_;rintro e w9 ⟨rfl,b9⟩)
 all_goals
  have B9:=Hd (chain ((Below.refl w.heap.size w).drew) b9);clear b9;go_wp2_with fail
  go_quiet (fail)
  replace B9:=Hd (bU B9 nq)
  generalize w9.drewN nq=wq at *;go_wp2_with fail;refine(lK (K:Int) _ _ HK.o).mono ?_;rintro e w10 ⟨rfl,rfl⟩;go_wp2_with fail;refine(zC _ _ (by rw[<-hR,ByteArray.size_extract];omega) true HV.o).mono ?_;rintro e w11 ⟨rfl,b11⟩
  replace B9:=Hd (chain B9 b11)
  clear b11;go_wp2_with fail
  go_quiet (fail)
  replace B9:=Hd (bU B9 nq)
  generalize w11.drewN nq=wr at *;go_wp2_with fail;go_ret3;exact⟨by rw[<-hO];rfl,B9.o⟩
theorem WY (b:ByteArray)(w:World) :
  () 184 #[b] w fun e w'=>e=.returned (.tuple #[(opK b.data.toList:Int),.string (Str (opT b.data.toList)),(opE b.data.toList:Int)])/\Below w.heap.size w w':=by
 by_cases hl:b.size=256
 ·have hl2:b.data.toList.length=256:=by rw[cI];exact hl
  cases hs:pT b.data.toList
  ·have:=WW b w hl hs
   have e:opE b.data.toList=15:=by unfold opE;rw[if_pos hl2,hs];rfl
   unfold opK opT;rw[e];exact this
  ·cases hf:tL b.data.toList
   ·have e:opE b.data.toList=2:=by unfold opE;rw[if_pos hl2,hs,hf];rfl
    have hT:() 184 #[b] w fun e w'=>e=.returned (.tuple #[(0:Int),.string ⟨#[]⟩,(2:Int)])/\Below w.heap.size w w':=by
     cases hk:lY (fX b.data.toList:Int)
     ·exact wF b w hl hs (.inl hk)
     ·by_cases hq:iA b.data.toList<=240
      ·refine QS b w hl hs hk hq ?_
       have:=(nS _).1 hk;rw[Bool.eq_false_iff];intro hz;have:=(oP b.data.toList).2 ⟨by omega,by omega,hq,hz⟩;rw[hf] at this
       cases this
      ·exact wF b w hl hs (.inr (by omega))
    unfold opK opT;rw[e];exact hT
   ·obtain⟨a1,a2,a3,a4⟩:=(oP _).1 hf
    have e:opE b.data.toList=0:=by unfold opE;rw[if_pos hl2,hs,hf];rfl
    have:=aBG b w hl hs ((nS _).2 (by omega)) a3 a4;unfold opK opT;rw[e];exact this
 ·have:=WX b w hl
  have e:opE b.data.toList=2:=by unfold opE;rw[if_neg (by rw[cI];exact hl)]
  unfold opK opT;rw[e];exact this
structure HdS where
 gen:Int
 root:Int
 used:ByteArray
def hdV (h:HdS):Value:=.agg #[h.gen,h.root,h.used]
def fJ (h:HdS):ByteArray:=Str (aS h.gen 6)++Str (aS h.root 2)++h.used
theorem vZ (n:Int)(k:Int)(h1:1<=k)(h8:k<=8):(Str (aS n k)).size<=8:=by
 unfold aS
 split
 ·rw[cP,M.be_length];omega
 ·exact Nat.zero_le _
theorem WK (g:Int)(w:World)(h0:0<=g)(h1:g<=9223372036854775807) :
  () 101 #[g] w fun e w'=>e=.returned (.int .i64 (g % 2))/\w=w':=by
 have ht:g.tmod 2=g % 2:=Int.tmod_eq_emod_of_nonneg h0;have hw:IntKind.i64.wrap (g % 2)=g % 2:=by rw[IntKind.wrap_i64];omega
 obtain⟨v,hv⟩:∃ v,g % 2=v:=⟨_,rfl⟩
 rw[hv] at ht hw |-;go_enter Tryz.func101,Tryz.ntmps101;go_wp2_with fail;go_ret;exact⟨rfl,rfl⟩
theorem NE (w:World):(zeroValue 230).run Tryz.prog w=.ok pC w:=by kernel_rfl
theorem kS (m:Nat)(L:List Int)(n:Int)(w:World)(h:SetI w m L) :
  () 158 #[.map (some m),n] w fun e w'=>e=.returned (.bool (decide (n∈L)))/\Below w.heap.size w w':=by
 have hl:=aBQ (P:=Tryz.prog) Tryz.underlying150 Tryz.underlying3 h n (NE w);obtain⟨b,hb⟩:∃ b,decide (n∈L)=b:=⟨_,rfl⟩
 rw[hb] at hl |-;unfold pC at hl;clear h hb;go_enter Tryz.func158,Tryz.ntmps158;go_wp2_with fail;go_ret;exact⟨rfl,by repeat' (first|exact Br|refine Below.setCell ?_ (by simp) _|refine Below.alloc ?_ (by simp) _)⟩
theorem aAH (h:HdS)(w:World)(g0:0<=h.gen)(g1:h.gen<=9223372036854775807)(r0:0<=h.root)(r1:h.root<=9223372036854775807)(hu:h.used.size<=1000) :
  () 102 #[hdV h] w fun e w'=>e=.returned (.string (fJ h))/\Below w.heap.size w w':=by
 obtain⟨g,r,u⟩:=h;unfold hdV fJ
 dsimp only at *
 have P1:=Hd (fun w=>nP g 6 w g0);have P2:=Hd (fun w=>nP r 2 w r0);have e1:IntKind.u64.wrap g=g:=by rw[IntKind.wrap_u64];omega
 have e2:IntKind.u64.wrap r=r:=by rw[IntKind.wrap_u64];omega
 have s1:=vZ g 6 (by decide) (by decide);have s2:=vZ r 2 (by decide) (by decide);generalize Str (aS g 6)=x at *;generalize Str (aS r 2)=y at *;generalize AV g 6=q1 at *;generalize AV r 2=q2 at *;have a1:(9223372036854775807<x.size+y.size)=False:=by simp;omega
 have a2:(9223372036854775807<x.size+y.size+u.size)=False:=by simp;omega
 have b0:Below w.heap.size w (w.alloc (.cells #[.int .i64 g,.int .i64 r,u] 113)):=aB _ _;have X0:(w.alloc (.cells #[.int .i64 g,.int .i64 r,u] 113)).heap[w.heap.size]?=some (.cells #[.int .i64 g,.int .i64 r,u] 113):=han _ _;have B0:=Hd b0;have XH:=Hd X0;clear b0 X0 g0 r0 g1 r1;go_enter Tryz.func102,Tryz.ntmps102;go_wp2_with fail;refine(P1 _).mono ?_;rintro e w1 ⟨rfl,b1⟩;have X1:=kept XH b1;have XH1:=Hd X1;have y1:=cl X1 1 rfl;have B1:=Hd (chain B0 b1);clear X1 b1 XH B0 P1;go_wp2_with fail
 refine(P2 _).mono ?_;rintro e w2 ⟨rfl,b2⟩;have X2:=kept XH1 b2;have y2:=cl X2 2 rfl;have B2:=Hd (chain B1 b2);clear X2 b2 XH1 B1 P2 y1;go_wp2_with fail;go_ret;exact⟨rfl,B2.o⟩
theorem qN (k:Int)(t:ByteArray):mJ k t=true ↔ 1<=k/\k<=15/\t.size<=240:=by
 unfold mJ;rw[Bool.and_eq_true,nS,decide_eq_true_eq,and_assoc]
theorem VF (k:Int)(t:ByteArray)(w:World) :
  () 122 #[k,t] w fun e w'=>e=.returned (.tuple #[.string (oF k t),.int .i64 (KW k t)])/\Below w.heap.size w w':=by
 cases h:mJ k t
 ·refine(aAP k t w h).mono ?_
  rintro e w' ⟨rfl,rfl⟩;exact⟨by unfold oF KW;rw[h];rfl,Br⟩
 ·obtain⟨h1,h2,h3⟩:=(qN k t).1 h
  obtain⟨n,rfl⟩:=Int.eq_ofNat_of_zero_le (show 0<=k by omega);refine(VD n t w (by omega) (by omega) h3 _ (Hd rfl)).mono ?_;rintro e w' ⟨rfl,hb⟩;exact⟨by unfold oF KW;rw[h];rfl,hb⟩
def mM (st:DkS)(n k:Int)(t:ByteArray):DkS × Int:=if mJ k t=true then st.write n (oF k t).data.toList else(st,1)
def rdK (st:DkS)(n:Int):Int:=if(st.read n).2=0 then(opK (st.read n).1:Int) else 0
def rdT (st:DkS)(n:Int):ByteArray:=if(st.read n).2=0 then Str (opT (st.read n).1) else⟨#[]⟩
def rdE (st:DkS)(n:Int):Int:=if(st.read n).2=0 then(opE (st.read n).1:Int) else(st.read n).2
theorem DkPost.chain {w w1 w2:World}{d:Nat}{st:DkS}{F:Nat->Prop}(b:Below w.heap.size w w1)(h:DkPost w1 d st F w2):DkPost w d st F w2:=
 DkPost.trans (st1:=st) (Frm.of_below b) (fun k hk=>.inl hk) h
theorem YV (w:World)(d:Nat)(st:DkS)(F:Nat->Prop)(h:Dk w d st F) :
  () 182 #[d] w fun e w'=>e=.returned (.int .i64 (st.S.length:Int))/\w=w':=by
 obtain⟨g,m,lv,hi,he⟩:=h;obtain⟨c0,_,_,_,_⟩:=hi.cells;clear he hi;go_enter Tryz.func182,Tryz.ntmps182;go_wp2_with fail;go_ret;exact⟨rfl,rfl⟩
theorem pR (w:World)(d:Nat)(st:DkS)(F:Nat->Prop)(h:Dk w d st F)(n k:Int)(t:ByteArray) :
  () 100 #[d,n,k,t] w fun e w'=>e=.returned (.int .i64 (mM st n k t).2)/\DkPost w d (mM st n k t).1 F w':=by
 have HP:=Hd h;have S1:=Hd (fun w=>VF k t w);unfold mM;unfold KW at S1;clear h
 cases hb:mJ k t
 ·rw[hb] at S1
  rw[if_neg (by decide)];have S2:=Hd (fun w=>S1 w);rw[if_neg (by decide)] at S2;generalize oF k t=S at S1 S2;clear S1 hb;go_enter Tryz.func100,Tryz.ntmps100;go_wp2_with fail;refine(S2 _).mono ?_;rintro e w1 ⟨rfl,b1⟩;have HP1:=Hd (DkPost.below HP b1);clear b1;go_wp2_with fail;go_ret;exact⟨rfl,HP1.o⟩
 ·rw[hb] at S1
  rw[if_pos rfl];have S2:=Hd (fun w=>S1 w);rw[if_pos rfl] at S2;generalize oF k t=S at S1 S2;clear S1 hb;go_enter Tryz.func100,Tryz.ntmps100;go_wp2_with fail;refine(S2 _).mono ?_;rintro e w1 ⟨rfl,b1⟩;have HP1:=Hd (HP.below b1);have B1:=Hd b1;clear b1;go_wp2_with fail;refine(NJ w1 d st F HP1 n S).mono ?_;rintro e w2 ⟨rfl,h2⟩;have HP2:=Hd (DkPost.chain B1 h2);clear h2;go_wp2_with fail;go_ret;exact⟨rfl,HP2.o⟩
theorem BC (w:World)(d:Nat)(st:DkS)(F:Nat->Prop)(h:Dk w d st F)(n:Int) :
  () 166 #[d,n] w fun e w'=>e=.returned (.tuple #[.int .i64 (rdK st n),.string (rdT st n),.int .i64 (rdE st n)])/\Below w.heap.size w w':=by
 have R1:=Hd (VV w d st F h n);have O1:=Hd (fun w=>WY (Str (st.read n).1) w);rw[aY] at O1;unfold rdK rdT rdE;clear h;generalize Str (st.read n).1=b at R1 O1;generalize (st.read n).1=l at O1 |-;generalize (st.read n).2=e0 at R1 |-
 by_cases h0:e0=0
 ·subst h0
  rw[if_pos rfl,if_pos rfl,if_pos rfl];generalize (opK l:Int)=K at O1 |-;generalize Str (opT l)=T at O1 |-;generalize (opE l:Int)=E at O1 |-;go_enter Tryz.func166,Tryz.ntmps166;go_wp2_with fail;refine R1.mono ?_;rintro e w1 ⟨rfl,rfl⟩;go_wp2_with fail;refine(O1 _).mono ?_;rintro e w2 ⟨rfl,b2⟩;have HP2:=Hd b2;clear b2;go_wp2_with fail;go_ret3;exact⟨rfl,HP2.o⟩
 ·rw[if_neg h0,if_neg h0,if_neg h0]
  have h1:(e0==0)=false:=by simpa using h0
  have h2:(e0 != 0)=true:=by simp[bne,h1]
  clear O1;go_enter Tryz.func166,Tryz.ntmps166;go_wp2_with fail;refine R1.mono ?_;rintro e w1 ⟨rfl,rfl⟩;go_wp2_with fail;go_ret3;exact⟨rfl,Br⟩
