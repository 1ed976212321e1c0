/- The code: slices.Replace of one slot by two or more, where there is room. -/
import Derived.Test.YtdpjgflemddekaaGreatDoorMCutA
import Derived.Lib.Overlaps
set_option maxRecDepth 100000
set_option maxHeartbeats 1000000
namespace Go.Proofs.YtdpjgflemddekaaGreatDoor
open Go.RowKit
theorem Blk.shape {w:World}{g:Nat}{cur:List Value}(h:Blk w g cur):w.shape? g=some (71,cur.length):=by
 unfold Blk at h;simp [World.shape?,h]
theorem bv5 {cur c1 c2:List Value}{o p n:Nat}(hp:o+c1.length=p)(hn:p+c2.length=n)(hfit:n<=cur.length):(laid (laid cur p c2) o c1).take n=cur.take o++(c1++c2):=by
 have h1:(cur.take o++(c1++c2)).length=n:=by simp;omega
 have h2:(laid cur p c2).take o=cur.take o:=by
  unfold laid;rw [List.take_append_of_le_length (by simp;omega),List.take_take,Nat.min_eq_left (by omega)]
 have h3:(laid cur p c2).drop (o+c1.length)=c2++cur.drop (p+c2.length):=by
  rw [hp];unfold laid;have hl:(cur.take p).length=p:=by simp;omega
  conv=>lhs;rw [<- hl]
  rw [hl];exact (congrArg (fun k=>List.drop k _) hl.symm).trans List.drop_left
 have h4:laid (laid cur p c2) o c1=(cur.take o++(c1++c2))++cur.drop (p+c2.length):=by
  rw [show laid (laid cur p c2) o c1=(laid cur p c2).take o++(c1++(laid cur p c2).drop (o+c1.length)) from rfl,h2,h3];simp
 rw [h4,<- h1,List.take_left]
theorem bz3 (w:World):(Go.sizeOf 71).run Tryz.prog w=.ok 2 w:=by kernel_rfl
theorem a57 {w:World}{g o la ca b lb cb:Nat}{cur cur2:List Value}(h:Blk w g cur)(h2:Blk w b cur2)(hne:g≠b)(h0:cur2.length≠0):
 (callFunc 120 #[.slice (some ⟨g,o,none⟩) la ca,.slice (some ⟨b,0,none⟩) lb cb]).run Tryz.prog w=.ok (.value (.bool false)) w:=by
 rw [run_callFunc_extern Tryz.func120 (by kernel_rfl) (by kernel_rfl) (by kernel_rfl) (e:=Extern.SlicesOverlaps.overlaps #[96,96] #[4]) (by kernel_rfl),
  Lib.run_overlaps_apart w 96 4 71 Tryz.underlying96 2 bz3 ⟨g,o,none⟩ ⟨b,0,none⟩ la ca lb cb hne _ _ _ _ h.shape h2.shape h0 (ab h) (ab h)]
 rfl
theorem au7 (w:World)(g cap i m vc b:Nat)(l ks:List Slot)(hown:w.ownsRow 0 71 2 (.slice (some ⟨g,0,none⟩) l.length cap) l.length (bo l))(hi:i+1<l.length)(hl:l.length<=1000000)
 (hv:w.ownsRow 0 71 2 (.slice (some ⟨b,0,none⟩) m vc) m (bo ks)) (hap:b≠g) (hm:2<=m) (hml:m<=1000000) (hroom:l.length-1+m<=cap) :
 Calls Tryz.prog 117 #[.slice (some ⟨g,0,none⟩) l.length cap,.int .i64 i,.int .i64 (i+1),.slice (some ⟨b,0,none⟩) m vc] w fun e w'=>∃T,T=l.length-1+m/\e=.returned (.slice (some ⟨g,0,none⟩) T cap)/\
  w'.ownsRow 0 71 2 (.slice (some ⟨g,0,none⟩) T cap) T (bo (l.take i++(ks++l.drop (i+1))))/\Fr w w' (fun k=>k=g):=by
 obtain ⟨cur2,hbv,hmc,_,hlv,htv⟩:=na hv;obtain ⟨A,hA⟩:∃A:Option Addr,A=some ⟨b,0,none⟩:=⟨_,rfl⟩;obtain ⟨i0,hi0,hz0,hz1,hz2⟩:=info_parts ol;obtain ⟨cur,hb,hnc,hcm,hlen,htake⟩:=na hown;obtain ⟨n,hn⟩:∃n,n=l.length:=⟨_,rfl⟩;obtain ⟨T,hT⟩:∃T,T=n-1+m:=⟨_,rfl⟩;obtain ⟨d,hd⟩:∃d,d=n-(i+1):=⟨_,rfl⟩;obtain ⟨c1,hc1⟩:∃c1,c1=bo ks:=⟨_,rfl⟩;obtain ⟨c2,hc2⟩:∃c2,c2=bo (l.drop (i+1)):=⟨_,rfl⟩;have hl1:c1.length=m*2:=by rw [hc1];exact hv.1
 have hl2:c2.length=d*2:=by rw [hc2,rr,hd];simp [hn]
 have hcm2:cap<=9223372036854775807:=by unfold maxLen at hcm;omega
 rw [<- hn] at hi hl hnc htake hroom ⊢;rw [<- hT];have hic:i<=cap:=by omega
 have hjc:i+1<=cap:=by omega
 have hij:¬((i:Int)=(i:Int)+1):=by omega
 have hz3:(0:Int)<=(i:Int)+1:=by omega
 have hz4:(i:Int)+1<=(n:Int):=by omega
 have hz5:¬((i:Int)+1=(n:Int)):=by omega
 have hsrc:ql w A c1:=by rw [hc1,hA];exact ak4 hv
 obtain ⟨hw1,hw2⟩:=al1 (i:=i) (m:=m) (n:=n) (T:=T) (by omega) (by omega) (by omega) hT;have HN:Hid (n=l.length):=hn;have HT:Hid (T=n-1+m):=hT;have HD:Hid (d=n-(i+1)):=hd;have HC1:Hid (c1=bo ks):=hc1;have HC2:Hid (c2=bo (l.drop (i+1))):=hc2;have hTc':T<=cap:=by rw [hT];exact hroom
 clear hown hn hT hd hc1 hc2;go_enter Tryz.func117,Tryz.ntmps117
 go_wp2_with fail
 have hne1:¬cap=i+1:=by omega
 go_quiet (fail)
 generalize hw0:w.drewN nq=W0;have hF0:Fr w W0 (fun _=>False):=by rw [<- hw0];exact (Fr.refl _ _).drewN _
 clear hw0 hw1 hw2 nq;have hb0:Blk W0 g cur:=hb.fr hF0 id;have hs0:ql W0 A c1:=hsrc.fr hF0 (fun _ _=>id);subst hA;have hbv0:Blk W0 b cur2:=hbv.fr hF0 id;have hov:∀o la ca lb cb,(callFunc 120 #[.slice (some ⟨g,o,none⟩) la ca,.slice (some ⟨b,0,none⟩) lb cb]).run Tryz.prog W0=.ok (.value (.bool false)) W0:=fun o la ca lb cb=>a57 hb0 hbv0 (Ne.symm hap) (by rw [hlv];omega)
 have hT0:¬((cap:Int)<(T:Int)):=by omega
 have hm2:¬((i:Int)+(m:Int)<=(i:Int)+1):=by omega
 have hne2:¬cap=i:=by omega
 have hne3:¬cap=i+m:=by omega
 have hiT:i<=T:=by rw [HT.out];omega
 have hz6:(0:Int)<=(i:Int)+(m:Int):=by omega
 have hz7:(i:Int)+(m:Int)<=(T:Int):=by rw [HT.out];omega
 have htn:((i:Int)+(m:Int)).toNat=i+m:=by omega
 have hw1:IntKind.i64.wrap ((i:Int)+(m:Int))=(i:Int)+(m:Int):=by rw [IntKind.wrap_i64];omega
 have hTc:(T:Int)<=(cap:Int):=by omega
 clear hb hsrc hv hbv;go_wp2_with (simp only [hov])
 have hb0d:Blk W0.drew g cur:=hb0;have hs2:ql W0.drew (some ⟨g,(i+1)*2,none⟩) c2:=by
  refine hb0d.from _ c2 ?_;rw [hl2,HC2.out,xq,<- htake,HD.out,List.drop_take];congr 1;omega
 have e3:c2.length=Nat.min (n-(i+1)) (T-(i+m))*2:=by rw [hl2,HD.out,HT.out,show n-1+m-(i+m)=n-(i+1) by omega];simp
 have e4:(i+m)*2+c2.length<=cur.length:=by rw [hl2,hlen,HD.out];omega
 have hone2:∀v∈c2,v.oneCell'=true:=by rw [HC2.out];exact oa _
 clear hov hm2 hT0 hTc;go_region_law (go_must (refine tg _ rfl (.tmp 126) (.tmp 129) 96 96 rfl 71 i0 Tryz.underlying96 hi0 2 hz1 (some ⟨g,(i+m)*2,none⟩) (some ⟨g,(i+1)*2,none⟩) (T-(i+m)) (cap-(i+m)) (n-(i+1)) (cap-(i+1)) g ((i+m)*2) _ c2 _ (by simp [Act.eval,Act.put]) (by simp [Act.eval,Act.put]) hb0d e3 (fun _=>rfl) hs2 e4 hone2 ?_);intro W1 hb1 hF1 _)
 have hlu:(laid cur ((i+m)*2) c2).length=cap*2:=(lm e4).trans hlen;have e1:c1.length=Nat.min m (T-i)*2:=by rw [hl1,HT.out];simp only [Nat.min_def];split<;>omega
 have e2:i*2+c1.length<=(laid cur ((i+m)*2) c2).length:=by rw [hl1,hlu];omega
 have hs1:ql W1 (some ⟨b,0,none⟩) c1:=(hs0.fr (Fr.refl W0 (fun _=>False)).drew (fun _ _=>id)).fr hF1 (fun a ha=>by cases ha;exact hap);obtain ⟨W2,hr2,hb2,hF2,_⟩:=qh (P:=Tryz.prog) W1 96 96 71 i0 Tryz.underlying96 hi0 2 hz1 (some ⟨g,i*2,none⟩) (some ⟨b,0,none⟩) (T-i) (cap-i) m vc g (i*2) _ c1 _ hb1 e1 (fun _=>rfl) hs1 e2 (by rw [HC1.out];exact oa _);have hfin:W2.ownsRow 0 71 2 (.slice (some ⟨g,0,none⟩) T cap) T (bo (l.take i++(ks++l.drop (i+1)))):=by
  refine qq (cur:=laid (laid cur ((i+m)*2) c2) (i*2) c1) hb2 hTc' hcm ?_ ?_
  ·rw [lm e2,hlu]
  ·rw [bv5 (by rw [hl1];omega) (by rw [hl2,HD.out,HT.out];omega) (by rw [hlen];omega),ff,ff,<- HC1.out,<- HC2.out,ux,<- htake,List.take_take,Nat.min_eq_left (by omega)]
 have hfr:Fr w W2 (fun k=>k=g):=(((hF0.mono (fun _=>False.elim)).drew).step hF1 (fun _ h=>.inl h)).step hF2 (fun _ h=>.inl h);clear hF2 hF1 hF0 hb2 hb1 hb0d hb0 hs2 hs1 hs0 e1 e2 e3 e4 hlu hone2 hbv0;go_wp2;go_ret;exact ⟨T,rfl,rfl,hfin,hfr⟩
theorem ak6 {w:World}{g n cap i:Nat}{l:List Slot}(h:w.ownsRow 0 71 2 (.slice (some ⟨g,0,none⟩) n cap) n (bo l))(hi:i<=n):w.ownsRow 0 71 2 (.slice (some ⟨g,0,none⟩) i cap) i (bo (l.take i)):=by
 obtain ⟨cur,hb,h1,h2,h3,h4⟩:=na h;refine qq hb (by omega) h2 h3 ?_;rw [ux,<- h4,List.take_take,Nat.min_eq_left (by omega)]
theorem av8 (w:World)(g cap i vc:Nat)(A:Option Addr)(l:List Slot)(hown:w.ownsRow 0 71 2 (.slice (some ⟨g,0,none⟩) l.length cap) l.length (bo l))(hi:i+1=l.length)(hl:l.length<=1000000):
 Calls Tryz.prog 117 #[.slice (some ⟨g,0,none⟩) l.length cap,.int .i64 i,.int .i64 (i+1),.slice A 0 vc] w fun e w'=>e=.returned (.slice (some ⟨g,0,none⟩) i cap)/\
  w'.ownsRow 0 71 2 (.slice (some ⟨g,0,none⟩) i cap) i (bo (l.take i))/\Fr w w' (fun k=>k=g):=by
 obtain ⟨i0,hi0,hz0,hz1,hz2⟩:=info_parts ol;obtain ⟨cur,hb,hnc,hcm,hlen,htake⟩:=na hown;obtain ⟨n,hn⟩:∃n,n=l.length:=⟨_,rfl⟩;rw [<- hn] at hi hl hnc htake ⊢;have hcm2:cap<=9223372036854775807:=by unfold maxLen at hcm;omega
 obtain ⟨W1,zs,hr1,hb1,hzl,hF1,_⟩:=tp (P:=Tryz.prog) w 96 71 _ Tryz.underlying96 al3 2 rfl vq (some ⟨g,i*2,none⟩) (n-i) g (i*2) _ _ hb (fun _=>rfl) (by rw [hlen];omega) (by decide);have hfin:W1.ownsRow 0 71 2 (.slice (some ⟨g,0,none⟩) i cap) i (bo (l.take i)):=by
  refine qq (cur:=laid cur (i*2) zs) hb1 (by omega) hcm ?_ ?_
  ·rw [lm (by rw [hzl,hlen];omega),hlen]
  ·rw [te (Nat.le_refl _) (by rw [hlen];omega),ux,<- htake,List.take_take,Nat.min_eq_left (by omega)]
 have hic:i<=cap:=by omega
 have hjc:i+1<=cap:=by omega
 have hij:¬((i:Int)=(i:Int)+1):=by omega
 have hz5:(i:Int)+1=(n:Int):=by omega
 have hlt:(i:Int)<(n:Int):=by omega
 have hin:i<=n:=by omega
 have hne:¬cap=i:=by omega
 have HI:Hid (i+1=n):=hi;clear hown hn hi hb1 hb htake hzl;go_enter Tryz.func117,Tryz.ntmps117
 go_wp2_with (at_builtin;go_must (refine ad4 _ rfl _ _ 96 rfl 71 i0 Tryz.underlying96 hi0 _ _ i cap vc hic rfl rfl ?_))
 go_ret;exact ⟨rfl,hfin,hF1⟩
theorem ay3 (w:World)(g cap i m vc b:Nat)(l ks:List Slot)(hown:w.ownsRow 0 71 2 (.slice (some ⟨g,0,none⟩) l.length cap) l.length (bo l))(hi:i+1=l.length)(hl:l.length<=1000000)
 (hv:w.ownsRow 0 71 2 (.slice (some ⟨b,0,none⟩) m vc) m (bo ks)) (hm:1<=m) (hml:m<=1000000) :
 Calls Tryz.prog 117 #[.slice (some ⟨g,0,none⟩) l.length cap,.int .i64 i,.int .i64 (i+1),.slice (some ⟨b,0,none⟩) m vc] w fun e w'=>∃g' c',e=.returned (.slice (some ⟨g',0,none⟩) (i+m) c')/\
  w'.ownsRow 0 71 2 (.slice (some ⟨g',0,none⟩) (i+m) c') (i+m) (bo (l.take i++ks))/\Fr w w' (fun k=>k=g)/\(g'=g\/w.heap.size<=g'):=by
 obtain ⟨i0,hi0,hz0,hz1,hz2⟩:=info_parts ol;obtain ⟨cur,hb,hnc,hcm,hlen,htake⟩:=na hown;have hpre:=ak6 hown (show i<=l.length by omega);obtain ⟨n,hn⟩:∃n,n=l.length:=⟨_,rfl⟩;rw [<- hn] at hi hl hnc htake ⊢;have hcm2:cap<=9223372036854775807:=by unfold maxLen at hcm;omega
 have hic:i<=cap:=by omega
 have hjc:i+1<=cap:=by omega
 have hij:¬((i:Int)=(i:Int)+1):=by omega
 have hz5:(i:Int)+1=(n:Int):=by omega
 have hlt:¬((i:Int)+(m:Int)<(n:Int)):=by omega
 have HI:Hid (i+1=n):=hi;clear hown hn hi hb htake;go_enter Tryz.func117,Tryz.ntmps117
 go_wp2_with (at_builtin;go_must (refine wpList_append_lies _ rfl _ _ 96 rfl 0 71 i0 _ 2 16 Tryz.underlying96 hi0 hz0 hz1 hz2 rfl (by decide) (.slice (some ⟨g,0,none⟩) i cap) i (bo (l.take i)) rfl hpre ⟨b,0,none⟩ m vc (bo ks) rfl hv.1 (hv.cells rfl) (oa _) hm (by unfold maxLen;omega) (by omega) (Nat.zero_le _) w.heap.size rfl ?_);intro g' c' W1 hown1 hg1 hat1 _)
 have hfr:Fr w W1 (fun k=>k=g):=(Fr.refl _ _).grown hg1 (fun k hk=>.inl (by simpa [Value.ownBlock] using hk.symm))
 have hat:g'=g\/w.heap.size<=g':=by
  rcases hat1 with e | e
  ·exact .inl (by simpa [Value.ownBlock] using e.symm)
  ·exact .inr (by omega)
 rw [<- ff] at hown1;clear hg1 hat1 hpre hv;go_wp2;go_ret;exact ⟨g',c',rfl,hown1,hfr,hat⟩
theorem ax9 (w:World)(g cap i m vc b:Nat)(l ks:List Slot)(hown:w.ownsRow 0 71 2 (.slice (some ⟨g,0,none⟩) l.length cap) l.length (bo l))(hi:i+1<l.length)(hl:l.length<=1000000)
 (hv:w.ownsRow 0 71 2 (.slice (some ⟨b,0,none⟩) m vc) m (bo ks)) (hml:m<=1000000) (hroom:cap<l.length-1+m) :
 Calls Tryz.prog 117 #[.slice (some ⟨g,0,none⟩) l.length cap,.int .i64 i,.int .i64 (i+1),.slice (some ⟨b,0,none⟩) m vc] w fun e w'=>∃T g' c',T=l.length-1+m/\e=.returned (.slice (some ⟨g',0,none⟩) T c')/\
  w'.ownsRow 0 71 2 (.slice (some ⟨g',0,none⟩) T c') T (bo (l.take i++(ks++l.drop (i+1))))/\Fr w w' (fun _=>False)/\w.heap.size<=g':=by
 have hpre:=ak6 hown (show i<=l.length by omega);have hbl:b<w.heap.size:=(hv.lt b rfl).2;obtain ⟨A,hA⟩:∃A:Option Addr,A=some ⟨b,0,none⟩:=⟨_,rfl⟩;obtain ⟨i0,hi0,hz0,hz1,hz2⟩:=info_parts ol;obtain ⟨cur,hb,hnc,hcm,hlen,htake⟩:=na hown;obtain ⟨n,hn⟩:∃n,n=l.length:=⟨_,rfl⟩;obtain ⟨T,hT⟩:∃T,T=n-1+m:=⟨_,rfl⟩;obtain ⟨d,hd⟩:∃d,d=n-(i+1):=⟨_,rfl⟩;obtain ⟨c1,hc1⟩:∃c1,c1=bo ks:=⟨_,rfl⟩;obtain ⟨c2,hc2⟩:∃c2,c2=bo (l.drop (i+1)):=⟨_,rfl⟩;have hl1:c1.length=m*2:=by rw [hc1];exact hv.1
 have hl2:c2.length=d*2:=by rw [hc2,rr,hd];simp [hn]
 have hcm2:cap<=9223372036854775807:=by unfold maxLen at hcm;omega
 rw [<- hn] at hi hl hnc htake hroom ⊢;rw [<- hT];have hic:i<=cap:=by omega
 have hjc:i+1<=cap:=by omega
 have hij:¬((i:Int)=(i:Int)+1):=by omega
 have hz3:(0:Int)<=(i:Int)+1:=by omega
 have hz4:(i:Int)+1<=(n:Int):=by omega
 have hz5:¬((i:Int)+1=(n:Int)):=by omega
 have hsrc:ql w A c1:=by rw [hc1,hA];exact ak4 hv
 obtain ⟨hw1,hw2⟩:=al1 (i:=i) (m:=m) (n:=n) (T:=T) (by omega) (by omega) (by omega) hT;have HN:Hid (n=l.length):=hn;have HT:Hid (T=n-1+m):=hT;have HD:Hid (d=n-(i+1)):=hd;have HC1:Hid (c1=bo ks):=hc1;have HC2:Hid (c2=bo (l.drop (i+1))):=hc2;have hTc':cap<T:=by rw [hT];exact hroom
 clear hown hn hT hd hc1 hc2;go_enter Tryz.func117,Tryz.ntmps117
 go_wp2_with fail
 have hne1:¬cap=i+1:=by omega
 go_quiet (fail)
 generalize hw0:w.drewN nq=W0;have hF0:Fr w W0 (fun _=>False):=by rw [<- hw0];exact (Fr.refl _ _).drewN _
 clear hw0 hw1 hw2 nq;have hb0:Blk W0 g cur:=hb.fr hF0 id;have hs0:ql W0 A c1:=hsrc.fr hF0 (fun _ _=>id);subst hA;have hpre0:W0.ownsRow 0 71 2 (.slice (some ⟨g,0,none⟩) i cap) i (bo (l.take i)):=hF0.owns hpre (fun _ _=>id);have hT0:(cap:Int)<(T:Int):=by omega
 have hTl:T<=2000000:=by rw [HT.out];omega
 have hiT:i<T:=by omega
 have hwt:IntKind.i64.wrap ((T:Int)-(i:Int))=((T-i:Nat):Int):=by rw [IntKind.wrap_i64];omega
 have hbytes:(i+(T-i))*i0.bytes<=140737488355328:=by rw [hz2];omega
 have hti:i+(T-i)=T:=by omega
 have HTI:Hid (i+(T-i)=T):=hti;have hp1:(bo (l.take i)).length=i*i0.size:=by rw [hz1];exact hpre0.1
 have hsz0:w.heap.size<=W0.heap.size:=hF0.size;clear hb hsrc hv hpre hti;go_wp2_with (at_builtin;go_must (refine x_ _ rfl _ _ 96 3 rfl 71 i0 _ .i64 Tryz.underlying96 Tryz.underlying3 hi0 hz0 (by rw [hz1];decide) (by rw [hz1];rfl) g i cap (T-i) (bo (l.take i)) rfl rfl hp1 (hpre0.cells rfl) (by omega) (by omega) hic (by unfold maxLen;omega) (by omega) hbytes ?_);intro c' W1 zs hc1' hc2' hb1 hlz hF1;rw [HTI.out];rw [HTI.out] at hc1';rw [hz1] at hlz;obtain ⟨W2,hr2,hb2,hF2,_⟩:=qh (P:=Tryz.prog) W1 96 96 71 i0 Tryz.underlying96 hi0 2 hz1 (some ⟨W0.heap.size,i*2,none⟩) (some ⟨b,0,none⟩) (T-i) (c'-i) m vc W0.heap.size (i*2) _ c1 _ hb1 (by rw [hl1,HT.out];simp only [Nat.min_def];split<;>omega) (fun _=>rfl) (hs0.fr hF1 (fun _ _=>id)) (by rw [hl1,hlz];have:=HT.out;omega) (by rw [HC1.out];exact oa _))
 have e2:i*2+c1.length<=(bo (l.take i)++zs).length:=by rw [hl1,hlz];have:=HT.out;omega
 have hlu:(laid (bo (l.take i)++zs) (i*2) c1).length=c'*2:=(lm e2).trans hlz;have hg0:g<W0.heap.size:=(hpre0.lt g rfl).2;have hF02:Fr W0 W2 (fun _=>False):=by
  have h3:Fr W0 W1 (fun _=>False):=hF1;exact h3.step hF2 (fun k hk=>.inr (by omega))
 have hb2d:W2.drew.heap[W0.heap.size]?=some (.cells (laid (bo (l.take i)++zs) (i*2) c1).toArray 71 (0,0)):=hb2;have hbg:Blk W2.drew g cur:=(hb0.fr hF02 id).fr (Fr.refl W2 (fun _=>False)).drew id;have hs2:ql W2.drew (some ⟨g,(i+1)*2,none⟩) c2:=by
  refine hbg.from _ c2 ?_;rw [hl2,HC2.out,xq,<- htake,HD.out,List.drop_take];congr 1;omega
 have e3:c2.length=Nat.min (n-(i+1)) (T-(i+m))*2:=by rw [hl2,HD.out,HT.out,show n-1+m-(i+m)=n-(i+1) by omega];simp
 have e4:(i+m)*2+c2.length<=(laid (bo (l.take i)++zs) (i*2) c1).length:=by rw [hl2,hlu,HD.out];have:=HT.out;omega
 have hone2:∀v∈c2,v.oneCell'=true:=by rw [HC2.out];exact oa _
 have hz6:(0:Int)<=(i:Int)+(m:Int):=by omega
 have hz7:(i:Int)+(m:Int)<=(T:Int):=by rw [HT.out];omega
 have htn:((i:Int)+(m:Int)).toNat=i+m:=by omega
 have hw1:IntKind.i64.wrap ((i:Int)+(m:Int))=(i:Int)+(m:Int):=by rw [IntKind.wrap_i64];omega
 have hne3:¬c'=i+m:=by have:=HT.out;omega
 clear hr2 hT0 hwt hb0 hs0 hpre0 hp1 hb1 hF1;go_region_law (go_must (refine tg _ rfl (.tmp 78) (.tmp 81) 96 96 rfl 71 i0 Tryz.underlying96 hi0 2 hz1 (some ⟨W0.heap.size,(i+m)*2,none⟩) (some ⟨g,(i+1)*2,none⟩) (T-(i+m)) (c'-(i+m)) (n-(i+1)) (cap-(i+1)) W0.heap.size ((i+m)*2) _ c2 _ (by simp [Act.eval,Act.put]) (by simp [Act.eval,Act.put]) hb2d e3 (fun _=>rfl) hs2 e4 hone2 ?_);intro W3 hb3 hF3 _)
 have hfin:W3.ownsRow 0 71 2 (.slice (some ⟨W0.heap.size,0,none⟩) T c') T (bo (l.take i++(ks++l.drop (i+1)))):=by
  refine qq (cur:=laid (laid (bo (l.take i)++zs) (i*2) c1) ((i+m)*2) c2) hb3 hc1' hc2' ?_ ?_
  ·rw [lm e4,hlu]
  ·rw [um (by rw [hl2,HT.out,HD.out];omega) (by rw [hlu];have:=HT.out;omega),um (by rw [hl1];omega) (by rw [hlz];omega),ff,ff,<- HC1.out,<- HC2.out,List.append_assoc];congr 1;have hli:(bo (l.take i)).length=i*2:=by rw [rr,List.length_take,<- HN.out,Nat.min_eq_left (by omega)]
   rw [<- hli];exact List.take_left
 have hfr:Fr w W3 (fun _=>False):=(hF0.step hF02 (fun _ h=>.inl h)).drew.step hF3 (fun k hk=>.inr (by omega))
 clear hF3 hF2 hF02 hF0 hb3 hb2 hb2d hbg hs2 e2 e3 e4 hlu hone2;go_wp2;go_ret;exact ⟨T,W0.heap.size,c',rfl,rfl,hfin,hfr,hsz0⟩
theorem a3_ (w:World)(g cap i:Nat)(sv:Value)(l ks:List Slot)(hown:w.ownsRow 0 71 2 (.slice (some ⟨g,0,none⟩) l.length cap) l.length (bo l))(hi:i<l.length)(hl:l.length<=1000000)
 (hv:w.ownsRow 0 71 2 sv ks.length (bo ks)) (hap:sv.ownBlock≠some g) (hml:ks.length<=1000000) :
 Calls Tryz.prog 117 #[.slice (some ⟨g,0,none⟩) l.length cap,.int .i64 i,.int .i64 (i+1),sv] w fun e w'=>∃g' c',e=.returned (.slice (some ⟨g',0,none⟩) (l.length-1+ks.length) c')/\
  w'.ownsRow 0 71 2 (.slice (some ⟨g',0,none⟩) (l.length-1+ks.length) c') (l.length-1+ks.length) (bo (l.take i++(ks++l.drop (i+1))))/\Fr w w' (fun k=>k=g)/\(g'=g\/w.heap.size<=g'):=by
 obtain ⟨A,vc,rfl⟩:=cz hv;by_cases he:i+1=l.length
 ·have hd:l.drop (i+1)=[]:=List.drop_eq_nil_of_le (by omega);by_cases h0:ks=[]
  ·subst h0;refine (av8 w g cap i vc A l hown he hl).mono ?_;rintro e w' ⟨rfl,h1,h2⟩;rw [hd,show l.length-1+([]:List Slot).length=i by simp;omega];exact ⟨g,cap,rfl,by simpa using h1,h2,.inl rfl⟩
  ·have hp:0<ks.length:=List.length_pos_iff.2 h0;obtain ⟨b,c,hf,_,_⟩:=hv.form hp;cases hf
   refine (ay3 w g cap i ks.length vc b l ks hown he hl hv hp hml).mono ?_;rintro e w' ⟨g',c',rfl,h1,h2,h3⟩;rw [hd,show l.length-1+ks.length=i+ks.length by omega];exact ⟨g',c',rfl,by simpa using h1,h2,h3⟩
 ·have hi1:i+1<l.length:=by omega
  by_cases h1:ks.length<=1
  ·refine (a61 w g cap i ks.length vc A l ks hown hi1 hl hv h1).mono ?_;rintro e w' ⟨T,rfl,rfl,h2,h3⟩;exact ⟨g,cap,rfl,h2,h3,.inl rfl⟩
  ·obtain ⟨b,c,hf,_,_⟩:=hv.form (by omega);cases hf
   by_cases hr:l.length-1+ks.length<=cap
   ·refine (au7 w g cap i ks.length vc b l ks hown hi1 hl hv (fun e=>hap (by simp [Value.ownBlock,e])) (by omega) hml hr).mono ?_
    rintro e w' ⟨T,rfl,rfl,h2,h3⟩;exact ⟨g,cap,rfl,h2,h3,.inl rfl⟩
   ·refine (ax9 w g cap i ks.length vc b l ks hown hi1 hl hv hml (by omega)).mono ?_;rintro e w' ⟨T,g',c',rfl,rfl,h2,h3,h4⟩;exact ⟨g',c',rfl,h2,h3.mono (fun _=>False.elim),.inr h4⟩
theorem ah5 {P:Program}(w:World){ops:Array Oper}{o:Oper}{a:Act}{K:Act->World->Prop}{Q:Exit->Act->World->Prop}{E:Prop}(hgd:o.guard=none)(s x:Operand)(t:TypeId)
 (ho:o.op=.call {callee:=.builtin .append,args:=#[s,x],argTypes:=#[t,t]}) (e:TypeId) (i:TypeInfo) (z:Value) (size bytes:Nat) (ht:P.underlying t=some (.slice e)) (hi:P.info? e=some i) (hz:i.zero=some z)
 (hsize:i.size=size) (hby:i.bytes=bytes) (hzs:z.cells.size=size) (hsz:0<size) (g n cap:Nat) (xs:List Value) (hse:a.eval s=.slice (some ⟨g,0,none⟩) n cap) (hown:w.ownsRow 0 e size (.slice (some ⟨g,0,none⟩) n cap) n xs)
 (sv:Value) (m:Nat) (news:List Value) (hxe:a.eval x=sv) (hv:w.ownsRow 0 e size sv m news) (h1:∀u∈news,u.oneCell'=true) (h63:n+m<=maxLen) (hbytes:(n+m)*bytes<=140737488355328)
 (h:∀g' c' w',w'.ownsRow 0 e size (.slice (some ⟨g',0,none⟩) (n+m) c') (n+m) (xs++news)->Fr w w' (fun k=>k=g)->(g'=g\/g'=w.heap.size)->K (a.put o.dst (.slice (some ⟨g',0,none⟩) (n+m) c')) w') :
 if Region.wanted o (yielded ops a.tmps)=true then Oper.wp P o a w K Q else E:=by
 have hw:Region.wanted o (yielded ops a.tmps)=true:=by simp [Region.wanted,hgd]
 rw [if_pos hw];by_cases h0:m=0
 ·subst h0;obtain ⟨A,c,rfl⟩:=cz hv;obtain rfl:news=[]:=List.eq_nil_of_length_eq_zero (by simpa using hv.1);have hnc:n<=cap:=by
   rcases hown.2 with ⟨h2,_⟩ | ⟨_,_,_,hv2,_,_,h3,_⟩
   ·cases h2
   ·cases hv2;exact h3
  have hr:=tu (P:=P) w t o.type e i ht hi (some ⟨g,0,none⟩) A n cap c hnc;unfold Oper.wp execOp;simp only [ho,resolve,invoke,builtin,Sem.run_bind,Sem.run_pure,Result.andThen_ok,List.map_toArray,List.map_cons,List.map_nil,hse,hxe,hr];exact h g cap w (by simpa using hown) (Fr.refl _ _) (.inl rfl)
 ·obtain ⟨b,c,rfl,_,_⟩:=hv.form (by omega);refine wp_append_lies w s x t ho 0 e i z size bytes ht hi hz hsize hby hzs hsz _ n xs hse hown ⟨b,0,none⟩ m c news hxe hv.1 (hv.cells rfl) h1 (by omega) h63 hbytes (Nat.zero_le _) w.heap.size rfl ?_;intro g' c' w' h2 h3 h4 _;refine h g' c' w' h2 ((Fr.refl _ _).grown h3 (fun k hk=>.inl (by simpa [Value.ownBlock] using hk.symm))) ?_
  rcases h4 with e | e
  ·exact .inl (by simpa [Value.ownBlock] using e.symm)
  ·exact .inr e
theorem ar9 {a:Slot}{l:List Slot}(hn:l.Nodup){i:Nat}(hi:i<l.length)(ha:l[i]=a):l.take i++l.drop (i+1)=l.erase a:=by
 rw [<- List.eraseIdx_eq_take_drop_succ,List.erase_eq_eraseIdx_of_idxOf];rw [<- ha];exact hn.idxOf_getElem i hi
theorem av5 {a:Slot}{ks:List Slot}:∀{l:List Slot},l.Nodup->∀{i:Nat} (hi:i<l.length),l[i]=a->l.take i++(ks++l.drop (i+1))=Fo.spl a ks l
 | [],_,i,hi,_=>by simp at hi
 | x :: l,hn,0,_,h=>by
  simp only [List.nodup_cons] at hn;simp only [List.getElem_cons_zero] at h;subst h;rw [Fo.spl_cons,Fo.spl_none hn.1];simp
 | x :: l,hn,i+1,hi,h=>by
  simp only [List.nodup_cons] at hn;simp only [List.getElem_cons_succ] at h;have hx:x≠a:=fun e=>hn.1 (by rw [e,<- h];exact List.getElem_mem _)
  rw [Fo.spl_cons_ne hx];simp only [List.take_succ_cons,List.drop_succ_cons,List.cons_append];rw [av5 hn.2 (by simpa using hi) h]
theorem b10 {l ks:List Slot}{i:Nat}(hi:i<l.length):(l.take i++(ks++l.drop (i+1))).length=l.length-1+ks.length:=by simp;omega
theorem bg8 {w:World}{b:Nat}{cs:Array Value}{t:TypeId}(h:w.heap[b]?=some (.cells cs t (0,0)))(o:Nat)(v:Value):(w.setCell ⟨b,o,none⟩ v).heap[b]?=some (.cells (cs.setIfInBounds o v) t (0,0)):=by
 have hlt:b<w.heap.size:=(Array.getElem?_eq_some_iff.1 h).1;have hv:w.heap[b]=.cells cs t (0,0):=(Array.getElem?_eq_some_iff.1 h).2;unfold World.setCell;rw [Array.getElem?_eq_getElem (by simpa using hlt),Array.getElem_modify];simp [hv]
theorem a53 (M:List (Slot×bj))(tb:Nat)(a p:Slot)(x y:bj)(w:World)(h:bg w tb M)(hgl:ev w)(hx:am a M=some x)(hp:x.parent=p)(hy:am p M=some y)(hpa:p≠a)(hin:a∈y.kids)(hnd:y.kids.Nodup)
 (hkids:∀c∈x.kids,(∃z,am c M=some z)/\c≠a) (hsum:y.kids.length+x.kids.length<=1000000) :
 Calls Tryz.prog 110 #[.map (some tb),.agg #[.int .i64 a.node,.int .i64 a.index]] w fun e w'=>e=.returned (.tuple #[])/\
  ∃M',bg w' tb M'/\cx M'=fm (cx M) a/\Fr w w' (br tb M)/\(∀k,br tb M' k->br tb M k\/w.heap.size<=k):=by
 have hlt:=h.map.lt;obtain ⟨i0,hi0,hz0,hz1,hz2⟩:=info_parts ol;obtain ⟨A,cap,hsv⟩:=cz (h.own a x hx);obtain ⟨xp,xk,xs⟩:=x;dsimp only at hsv hp hkids hsum;subst hsv hp;have hxf:iy bj.val (.agg #[.int .i64 0,.int .i64 0,.slice none 0 0]) (am a M)=.agg #[.int .i64 xp.node,.int .i64 xp.index,.slice A xk.length cap]:=by rw [hx];rfl
 go_enter Tryz.func110,Tryz.ntmps110
 go_wp2_with (first
  |(at_lookup;go_must (refine ij _ rfl _ _ 61 false rfl em Tryz.underlying61 (ka _) (m:=M) (enc:=bj.val) rfl (h.map.frame ((Fr.refl _ (fun _=>False)).alloc _) id) a rfl ?_);simp only [Bool.false_eq_true,if_false];rw [hxf])
  |(at_delete;go_must (refine zo _ rfl _ _ 61 71 rfl em Tryz.underlying61 (m:=M) (enc:=bj.val) rfl (h.map.frame (((Fr.refl _ (fun _=>False)).alloc _).alloc _) id) a rfl ?_)))
 generalize hW0:World.alloc _ _=W0;obtain ⟨hf0,hs0,hba,hbx⟩:=xr hW0;clear hW0;intro W1 hm1 hf1 hs1;have h0:=h.frame hf0 (fun _ _=>id);have h1:=h0.del hm1 hf1;have hba1:=hf1.same hba (by omega);have hbx1:=hf1.same hbx (by omega);have a0:=aa (o:=0) hba1 rfl;have a1:=aa (o:=1) hba1 rfl;have x0:=aa (o:=0) hbx1 rfl;have x1:=aa (o:=1) hbx1 rfl;have hF1:Fr w W1 (fun k=>k=tb):=(hf0.mono (fun _=>False.elim)).step hf1 (fun k hk=>.inl hk);have hd1:∀s,s≠a->am s (j3 a M)=am s M:=fun s hs=>by rw [j9 a s M h.map.nodup,if_neg (Ne.symm hs)]
 have hd2:am a (j3 a M)=none:=by rw [j9 a a M h.map.nodup,if_pos rfl]
 have hkey:∀s z,am s (j3 a M)=some z->s≠a/\am s M=some z:=fun s z hz=>by
  by_cases e:s=a
  ·subst e;rw [hd2] at hz;cases hz
  ·exact ⟨e,by rw [<- hd1 s e];exact hz⟩
 have hst1:cx (j3 a M)=upd (cx M) a none:=a02 _ _ h.map.nodup;have hyp:am xp (j3 a M)=some y:=by rw [hd1 _ hpa];exact hy
 generalize j3 a M=M1 at hm1 h1 hd1 hd2 hkey hst1 hyp;have hyl:0<y.kids.length:=List.length_pos_of_mem hin;obtain ⟨g,gc,hsv,hgc,hgm,hglt⟩:=ep (h1.own xp y hyp) hyl;obtain ⟨yp,yk,ys⟩:=y;dsimp only at hsv hin hnd hyl hgc hsum;subst hsv;have hyf:iy bj.val (.agg #[.int .i64 0,.int .i64 0,.slice none 0 0]) (am xp M1)=.agg #[.int .i64 yp.node,.int .i64 yp.index,.slice (some ⟨g,0,none⟩) yk.length gc]:=by rw [hyp];rfl
 obtain ⟨i,hi,hidx,hia⟩:=a20 hin;have hgw:g<w.heap.size:=h.fpLt (.inr ⟨xp,_,hy,rfl⟩);have hyl2:=h1.len xp _ hyp;dsimp only at hyl2;have htb0:¬(0=tb):=fun e=>by
  obtain ⟨es,clock,hb,_⟩:=h.map.blk;have:=hgl.n0;rw [<- e] at hb;simp [World.cell?,hb] at this
 have n0:=hF1.cell hgl.n0 htb0;have n1:=hF1.cell hgl.n1 htb0;go_upto_region 4 with (at_lookup;go_must (refine ij _ rfl _ _ 61 false rfl em Tryz.underlying61 (ka _) (m:=M1) (enc:=bj.val) rfl h1.map xp rfl ?_);simp only [Bool.false_eq_true,if_false];rw [hyf])
 generalize hW2:World.alloc _ _=W2;have hf2:Fr W1 W2 (fun _=>False):=by rw [<- hW2];exact (Fr.refl _ _).alloc _
 have hby2:W2.heap[w.heap.size+1+1]?=some (.cells #[.int .i64 yp.node,.int .i64 yp.index,.slice (some ⟨g,0,none⟩) yk.length gc] 98 (0,0)):=by rw [<- hW2,<- hs1];exact heap_alloc_new _ _
 have hs2:W2.heap.size=w.heap.size+3:=by rw [<- hW2];simp [hs1]
 clear hW2;have h2:bg W2 tb M1:=h1.frame hf2 (fun _ _=>id);have hba2:=hf2.same hba1 id;have hbx2:=hf2.same hbx1 id;have hF2:Fr w W2 (fun k=>k=tb):=hF1.step hf2 (fun _=>False.elim);have hlies:sh W2 Slot.vals 2 (.slice (some ⟨g,0,none⟩) yk.length gc) yk:=bm Slot.vals_len (h2.own xp _ hyp);clear a0 a1 x0 x1 n0 n1 hyf hxf hf0 hf1 hba hbx h0 hm1 hglt;have a0:=aa (o:=0) hba2 rfl;have a1:=aa (o:=1) hba2 rfl;have y2:=aa (o:=2) hby2 rfl;go_upto_region 5 with (go_at_call 99;refine (as3 yk _ a _ hlies hyl2).mono ?_;rintro e W3 ⟨rfl,hf3⟩;rw [hidx])
 have h3:bg W3 tb M1:=h2.frame hf3 (fun _ _=>id);have hF3:Fr w W3 (fun k=>k=tb):=hF2.step hf3 (fun _=>False.elim);have hba3:=hf3.same hba2 id;have hbx3:=hf3.same hbx2 id;have hby3:=hf3.same hby2 id;have hs3:w.heap.size+3<=W3.heap.size:=by have:=hf3.size;omega
 clear a0 a1 y2 hlies hba1 hbx1 hba2 hbx2 hby2 hf2 hf3 h1 h2 hF1 hF2 hidx;have n0:=hF3.cell hgl.n0 htb0;have n1:=hF3.cell hgl.n1 htb0;have x0:=aa (o:=0) hbx3 rfl;have x1:=aa (o:=1) hbx3 rfl;have x2:=aa (o:=2) hbx3 rfl;have y2:=aa (o:=2) hby3 rfl;have z2:W3.frozen? ⟨w.heap.size+1+1,2,none⟩=false:=ab hby3;have heq:=a25 xp.node xp.index (-1) (-1);have hown:=h3.own xp _ hyp;dsimp only at hown;have hwi:IntKind.i64.wrap ((i:Int)+1)=(i:Int)+1:=by rw [IntKind.wrap_i64];omega
 have hxo:W3.ownsRow 0 71 2 (.slice A xk.length cap) xk.length (bo xk):=hF3.owns (h.own a _ hx) (fun k hk e=>h.ne hx (e▸hk))
 have hxl:xk.length<=1000000:=h.len a _ hx;have hxg:(Value.slice A xk.length cap).ownBlock≠some g:=fun e=>h.apart a _ xp _ hx hy (Ne.symm hpa) g e rfl
 have q1:¬(w.heap.size+1=g):=by omega
 have q2:¬(w.heap.size+1+1=g):=by omega
 have hnk:xp=nowhere->yk.erase a++xk=if xp=nowhere then yk.erase a++xk else Fo.spl a xk yk:=fun e=>by rw [if_pos e]
 have hnk2:¬xp=nowhere->Fo.spl a xk yk=if xp=nowhere then yk.erase a++xk else Fo.spl a xk yk:=fun e=>by rw [if_neg e]
 have hbytes:(yk.length-1+xk.length)*16<=140737488355328:=by omega
 have hml:yk.length-1+xk.length<=maxLen:=by unfold maxLen;omega
 have hiz:(0:Int)<=(i:Int):=by omega
 have hbig:Fr W3 W3.drew (fun _=>False):=(Fr.refl _ _).drew;by_cases hnw:xp=nowhere
 ·have HNW:Hid (xp=nowhere):=hnw;have c0:xp.node=-1:=by rw [hnw];rfl
  have c1:xp.index=-1:=by rw [hnw];rfl
  have hE:(decide (xp.node=-1) && decide (xp.index=-1))=true:=by rw [c0,c1];rfl
  clear hnw c0 c1;go_upto_region 6 with fail
  have hbd:W3.drew.ownsRow 0 71 2 (.slice (some ⟨g,0,none⟩) yk.length gc) yk.length (bo yk):=hbig.owns hown (fun _ _=>id);obtain ⟨nk,HNK⟩:∃nk,Hid (nk=yk.erase a++xk):=⟨_,rfl⟩;go_region_law
   (first
   |(go_simp;go_at_call 116;refine (a85 W3.drew g gc i yk hbd hi hyl2).mono ?_;rintro e W9 ⟨rfl,hown9,hF9⟩
     have hF9':Fr W3 W9 (fun k=>k=g):=(hbig.mono (fun _=>False.elim)).step hF9 (fun _ h=>.inl h);have r2:=hF9'.cell x2 q1;have hxo9:=hF9'.owns hxo (fun k hk e=>hxg (e▸hk)))
   |((refine ah5 _ rfl _ _ 96 rfl 71 i0 _ 2 16 Tryz.underlying96 hi0 hz0 hz1 hz2 rfl (by decide) g (yk.length-1) gc _ rfl hown9 (.slice A xk.length cap) xk.length (bo xk) rfl hxo9 (oa _) hml hbytes ?_);intro g' c' W4 hown4 hF4' hg4'
     have hF4:Fr W3 W4 (fun k=>k=g):=hF9'.step hF4' (fun _ h=>.inl h);have z4:W4.frozen? ⟨w.heap.size+1+1,2,none⟩=false:=ab (hF4.same hby3 q2);have y4:=hF4.cell y2 q2))
  all_goals
   have hnl:nk.length=yk.length-1+xk.length:=by rw [HNK.out,<- ar9 hnd hi hia];simp;omega
   rw [ar9 hnd hi hia,<- ff,<- HNK.out] at hown4;have hg4:g'=g\/W3.heap.size<=g':=hg4'.imp id (fun e=>by have:=hF9'.size;omega);clear r2 z4 y4 hown9 hxo9 hF9' hF9 hF4' hg4';go_upto_region 8 with fail
   have hnkE:Hid (nk=if xp=nowhere then yk.erase a++xk else Fo.spl a xk yk):=HNK.out.trans (hnk HNW.out);clear hnk hnk2;generalize hW5:W4.setCell _ _=W5;have hf5:Fr W4 W5 (fun k=>k=w.heap.size+2):=by rw [<- hW5];exact Fr.set1 _ _ _ _
   have hby5:W5.heap[w.heap.size+1+1]?=some (.cells #[.int .i64 yp.node,.int .i64 yp.index,.slice (some ⟨g',0,none⟩) (yk.length-1+xk.length) c'] 98 (0,0)):=by
    rw [<- hW5];exact bg8 (hF4.same hby3 q2) 2 _
   clear hW5;have hx5:=hf5.same (hF4.same hbx3 q1) (by omega);have hgn:g'≠w.heap.size+2:=by rcases hg4 with e | e<;>omega
   have hgt:g'≠tb:=by
    rcases hg4 with e | e
    ·rw [e];exact fun e2=>h3.ne hyp (by rw [<- e2];rfl)
    ·have:=hF3.size;omega
   have hown5:W5.ownsRow 0 71 2 (.slice (some ⟨g',0,none⟩) (yk.length-1+xk.length) c') nk.length (bo nk):=by
    rw [hnl];exact hf5.owns hown4 (fun k hk e=>hgn (by have:g'=k:=by simpa [Value.ownBlock] using hk
                                                       omega))
   have hgtb:¬g=tb:=fun e2=>h3.ne hyp (by rw [<- e2];rfl)
   have hm5:ei W5 tb Slot.val bj.val M1:=(h3.map.frame hF4 (Ne.symm hgtb)).frame hf5 (by omega);clear x0 x1 x2 y2 z2 n0 n1 hE;have x0:=aa (o:=0) hx5 rfl;have x1:=aa (o:=1) hx5 rfl;have x2:=aa (o:=2) hx5 rfl;have v0:=aa (o:=0) hby5 rfl;have v1:=aa (o:=1) hby5 rfl;have v2:=aa (o:=2) hby5 rfl;go_upto_region 9 with (at_mapUpdate;go_must (refine ls _ rfl _ _ _ 61 rfl em Tryz.underlying61 (m:=M1) (enc:=bj.val) rfl hm5 xp rfl ⟨yp,nk,.slice (some ⟨g',0,none⟩) (yk.length-1+xk.length) c'⟩ rfl ?_);intro W6 hm6 hf6 hs6)
   have hF5:Fr W3 W5 (fun k=>k=g\/k=w.heap.size+2):=(hF4.mono (fun _=>.inl)).step hf5 (fun _ hk=>.inl (.inr hk))
   have h6:bg W6 tb (putM xp ⟨yp,nk,.slice (some ⟨g',0,none⟩) (yk.length-1+xk.length) c'⟩ M1):=by
    refine bg.put hm6 hf6 ?_ h3.apart hown5 (by dsimp only;omega) ?_ ?_
    ·intro s z hz hne;refine ⟨hF5.owns (h3.own s z hz) (fun k hk e=>?_),h3.len s z hz,h3.ne hz⟩;rcases e with e | e
     ·exact h3.apart s z xp _ hz hyp hne k hk (by rw [e];rfl)
     ·have:=h.fpLt (.inr ⟨s,z,(hkey s z hz).2,hk⟩);omega
    ·intro s z hz hne k hk;have hk':g'=k:=by simpa [Value.ownBlock] using hk
     subst hk';rcases hg4 with e | e
     ·exact fun e2=>h3.apart s z xp _ hz hyp hne g' e2 (by rw [e];rfl)
     ·intro e2;have:=h.fpLt (.inr ⟨s,z,(hkey s z hz).2,e2⟩);omega
    ·exact fun e=>hgt (by simpa [Value.ownBlock] using e)
   have hst6:cx (putM xp ⟨yp,nk,.slice (some ⟨g',0,none⟩) (yk.length-1+xk.length) c'⟩ M1)=upd (upd (cx M) a none) xp (some ⟨yp,nk⟩):=by rw [ru,hst1];rfl
   have hl6:∀s,am s (putM xp ⟨yp,nk,.slice (some ⟨g',0,none⟩) (yk.length-1+xk.length) c'⟩ M1)=if xp=s then some ⟨yp,nk,.slice (some ⟨g',0,none⟩) (yk.length-1+xk.length) c'⟩ else am s M1:=fun s=>g_ _ _ _ _
   generalize putM xp ⟨yp,nk,.slice (some ⟨g',0,none⟩) (yk.length-1+xk.length) c'⟩ M1=M6 at hm6 h6 hst6 hl6;have hex6:∀c∈xk,∃z,am c M6=some z:=by
    intro c hc;obtain ⟨⟨z,hz⟩,hca⟩:=hkids c hc;rw [hl6];split
    ·exact ⟨_,rfl⟩
    ·exact ⟨z,by rw [hd1 c hca];exact hz⟩
   have hF6:Fr w W6 (br tb M):=by
    refine ((hF3.mono (fun k hk=>.inl hk)).step hF5 (fun k hk=>?_)).step hf6 (fun k hk=>.inl (.inl hk))
    rcases hk with e | e
    ·exact .inl (.inr ⟨xp,_,hy,by rw [e];rfl⟩)
    ·exact .inr (by omega)
   have hfp6:∀k,br tb M6 k->br tb M k\/w.heap.size<=k:=by
    rintro k (e | ⟨s,z,hz,e⟩)
    ·exact .inl (.inl e)
    ·rw [hl6] at hz;split at hz
     ·cases hz
      have hk':g'=k:=by simpa [Value.ownBlock] using e
      rcases hg4 with e2 | e2
      ·exact .inl (.inr ⟨xp,_,hy,by rw [<- hk',e2];rfl⟩)
      ·exact .inr (by omega)
     ·exact .inl (.inr ⟨s,z,(hkey s z hz).2,e⟩)
   have hx6:=hf6.same hx5 (by omega);have hA6:sh W6 Slot.vals 2 (.slice A xk.length cap) xk:=bm Slot.vals_len (hf6.owns (hF5.owns hxo (fun k hk e=>by
    rcases e with e | e
    ·exact hxg (e▸hk)
    ·have:=h.fpLt (.inr ⟨a,_,hx,hk⟩);omega)) (fun k hk e=>h.ne hx (e▸hk)))
   clear x0 x1 x2 v0 v1 v2;have x0:=aa (o:=0) hx6 rfl;have x1:=aa (o:=1) hx6 rfl;have x2:=aa (o:=2) hx6 rfl;go_wp2_with (go_at_call 100;refine (tx M6 tb xk _ xp W6 h6 hA6 hxl (h.ne hx) hex6).mono ?_;rintro e W7 ⟨rfl,M7,h7,hst7,hsr7,hf7⟩)
   have hst:cx M7=fm (cx M) a:=by
    rw [hst7,hst6];have e1:cx M a=some ⟨xp,xk⟩:=by simp [cx,hx,bj.std]
    have e2:upd (cx M) a none xp=some ⟨yp,yk⟩:=by rw [ae _ _ hpa];simp [cx,hy,bj.std]
    simp only [fm,e1,e2];rw [hnkE.out]
   have hF7:Fr w W7 (br tb M):=hF6.step hf7 (fun k hk=>.inl (.inl hk))
   clear x0 x1 x2 hst7 hst6 hst1;go_end0;exact ⟨rfl,M7,h7,hst,hF7,fun k hk=>hfp6 k (hsr7.fp hk)⟩
 ·have HNW:Hid (¬xp=nowhere):=hnw;have hE:(decide (xp.node=-1) && decide (xp.index=-1))=false:=by
   cases hq:(decide (xp.node=-1) && decide (xp.index=-1)) with
   | false=>rfl
   | true=>
    simp at hq;exact absurd (show xp=nowhere by cases xp;simp at hq;simp [nowhere,hq]) hnw
  clear hnw;go_upto_region 8 with (go_at_call 117;refine (a3_ W3 g gc i (.slice A xk.length cap) yk xk hown hi hyl2 hxo hxg hxl).mono ?_;rintro e W4 ⟨g',c',rfl,hown4,hF4,hg4⟩;have z4:W4.frozen? ⟨w.heap.size+1+1,2,none⟩=false:=ab (hF4.same hby3 q2);have y4:=hF4.cell y2 q2)
  obtain ⟨nk,HNK⟩:∃nk,Hid (nk=Fo.spl a xk yk):=⟨_,rfl⟩;have hnl:nk.length=yk.length-1+xk.length:=by rw [HNK.out,<- av5 hnd hi hia,b10 hi]
  rw [av5 hnd hi hia,<- HNK.out] at hown4;have hnkE:Hid (nk=if xp=nowhere then yk.erase a++xk else Fo.spl a xk yk):=HNK.out.trans (hnk2 HNW.out);clear hnk hnk2;generalize hW5:W4.setCell _ _=W5;have hf5:Fr W4 W5 (fun k=>k=w.heap.size+2):=by rw [<- hW5];exact Fr.set1 _ _ _ _
  have hby5:W5.heap[w.heap.size+1+1]?=some (.cells #[.int .i64 yp.node,.int .i64 yp.index,.slice (some ⟨g',0,none⟩) (yk.length-1+xk.length) c'] 98 (0,0)):=by
   rw [<- hW5];exact bg8 (hF4.same hby3 q2) 2 _
  clear hW5;have hx5:=hf5.same (hF4.same hbx3 q1) (by omega);have hgn:g'≠w.heap.size+2:=by rcases hg4 with e | e<;>omega
  have hgt:g'≠tb:=by
   rcases hg4 with e | e
   ·rw [e];exact fun e2=>h3.ne hyp (by rw [<- e2];rfl)
   ·have:=hF3.size;omega
  have hown5:W5.ownsRow 0 71 2 (.slice (some ⟨g',0,none⟩) (yk.length-1+xk.length) c') nk.length (bo nk):=by
   rw [hnl];exact hf5.owns hown4 (fun k hk e=>hgn (by have:g'=k:=by simpa [Value.ownBlock] using hk
                                                      omega))
  have hgtb:¬g=tb:=fun e2=>h3.ne hyp (by rw [<- e2];rfl)
  have hm5:ei W5 tb Slot.val bj.val M1:=(h3.map.frame hF4 (Ne.symm hgtb)).frame hf5 (by omega);clear x0 x1 x2 y2 z2 n0 n1 hE;have x0:=aa (o:=0) hx5 rfl;have x1:=aa (o:=1) hx5 rfl;have x2:=aa (o:=2) hx5 rfl;have v0:=aa (o:=0) hby5 rfl;have v1:=aa (o:=1) hby5 rfl;have v2:=aa (o:=2) hby5 rfl;go_upto_region 9 with (at_mapUpdate;go_must (refine ls _ rfl _ _ _ 61 rfl em Tryz.underlying61 (m:=M1) (enc:=bj.val) rfl hm5 xp rfl ⟨yp,nk,.slice (some ⟨g',0,none⟩) (yk.length-1+xk.length) c'⟩ rfl ?_);intro W6 hm6 hf6 hs6)
  have hF5:Fr W3 W5 (fun k=>k=g\/k=w.heap.size+2):=(hF4.mono (fun _=>.inl)).step hf5 (fun _ hk=>.inl (.inr hk))
  have h6:bg W6 tb (putM xp ⟨yp,nk,.slice (some ⟨g',0,none⟩) (yk.length-1+xk.length) c'⟩ M1):=by
   refine bg.put hm6 hf6 ?_ h3.apart hown5 (by dsimp only;omega) ?_ ?_
   ·intro s z hz hne;refine ⟨hF5.owns (h3.own s z hz) (fun k hk e=>?_),h3.len s z hz,h3.ne hz⟩;rcases e with e | e
    ·exact h3.apart s z xp _ hz hyp hne k hk (by rw [e];rfl)
    ·have:=h.fpLt (.inr ⟨s,z,(hkey s z hz).2,hk⟩);omega
   ·intro s z hz hne k hk;have hk':g'=k:=by simpa [Value.ownBlock] using hk
    subst hk';rcases hg4 with e | e
    ·exact fun e2=>h3.apart s z xp _ hz hyp hne g' e2 (by rw [e];rfl)
    ·intro e2;have:=h.fpLt (.inr ⟨s,z,(hkey s z hz).2,e2⟩);omega
   ·exact fun e=>hgt (by simpa [Value.ownBlock] using e)
  have hst6:cx (putM xp ⟨yp,nk,.slice (some ⟨g',0,none⟩) (yk.length-1+xk.length) c'⟩ M1)=upd (upd (cx M) a none) xp (some ⟨yp,nk⟩):=by rw [ru,hst1];rfl
  have hl6:∀s,am s (putM xp ⟨yp,nk,.slice (some ⟨g',0,none⟩) (yk.length-1+xk.length) c'⟩ M1)=if xp=s then some ⟨yp,nk,.slice (some ⟨g',0,none⟩) (yk.length-1+xk.length) c'⟩ else am s M1:=fun s=>g_ _ _ _ _
  generalize putM xp ⟨yp,nk,.slice (some ⟨g',0,none⟩) (yk.length-1+xk.length) c'⟩ M1=M6 at hm6 h6 hst6 hl6;have hex6:∀c∈xk,∃z,am c M6=some z:=by
   intro c hc;obtain ⟨⟨z,hz⟩,hca⟩:=hkids c hc;rw [hl6];split
   ·exact ⟨_,rfl⟩
   ·exact ⟨z,by rw [hd1 c hca];exact hz⟩
  have hF6:Fr w W6 (br tb M):=by
   refine ((hF3.mono (fun k hk=>.inl hk)).step hF5 (fun k hk=>?_)).step hf6 (fun k hk=>.inl (.inl hk))
   rcases hk with e | e
   ·exact .inl (.inr ⟨xp,_,hy,by rw [e];rfl⟩)
   ·exact .inr (by omega)
  have hfp6:∀k,br tb M6 k->br tb M k\/w.heap.size<=k:=by
   rintro k (e | ⟨s,z,hz,e⟩)
   ·exact .inl (.inl e)
   ·rw [hl6] at hz;split at hz
    ·cases hz
     have hk':g'=k:=by simpa [Value.ownBlock] using e
     rcases hg4 with e2 | e2
     ·exact .inl (.inr ⟨xp,_,hy,by rw [<- hk',e2];rfl⟩)
     ·exact .inr (by omega)
    ·exact .inl (.inr ⟨s,z,(hkey s z hz).2,e⟩)
  have hx6:=hf6.same hx5 (by omega);have hA6:sh W6 Slot.vals 2 (.slice A xk.length cap) xk:=bm Slot.vals_len (hf6.owns (hF5.owns hxo (fun k hk e=>by
   rcases e with e | e
   ·exact hxg (e▸hk)
   ·have:=h.fpLt (.inr ⟨a,_,hx,hk⟩);omega)) (fun k hk e=>h.ne hx (e▸hk)))
  clear x0 x1 x2 v0 v1 v2;have x0:=aa (o:=0) hx6 rfl;have x1:=aa (o:=1) hx6 rfl;have x2:=aa (o:=2) hx6 rfl;go_wp2_with (go_at_call 100;refine (tx M6 tb xk _ xp W6 h6 hA6 hxl (h.ne hx) hex6).mono ?_;rintro e W7 ⟨rfl,M7,h7,hst7,hsr7,hf7⟩)
  have hst:cx M7=fm (cx M) a:=by
   rw [hst7,hst6];have e1:cx M a=some ⟨xp,xk⟩:=by simp [cx,hx,bj.std]
   have e2:upd (cx M) a none xp=some ⟨yp,yk⟩:=by rw [ae _ _ hpa];simp [cx,hy,bj.std]
   simp only [fm,e1,e2];rw [hnkE.out]
  have hF7:Fr w W7 (br tb M):=hF6.step hf7 (fun k hk=>.inl (.inl hk))
  clear x0 x1 x2 hst7 hst6 hst1;go_end0;exact ⟨rfl,M7,h7,hst,hF7,fun k hk=>hfp6 k (hsr7.fp hk)⟩
end Go.Proofs.YtdpjgflemddekaaGreatDoor
