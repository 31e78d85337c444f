import PyProof.Rows.All
import Wide.All
import OpenK.AllK
import Wide.FinOn
import Lean
import PyProof.EqAt
import PyProof.EqKinds
import PyProof.TupleCall
import PyProof.CollectIter
import PyProof.JoinWalk
import PyProof.StrOps
import PyProof.ListOps
import PyProof.StrLawsJoin
import KE.KRevIter
import PyProof.StrLawsFirst
import PyProof.Rows.StrNews2
import PyProof.StrLawsTight
import PyProof.StrLawsChain
import KE.KIntText
import KE.IntTextLaws
import PyProof.ListStr
import KE.KDictLaws
import KE.KDictList
import PyProof.Rows.SetFrom
import PyProof.FitsReplace
import KE.KEqDict
import PyProof.Rows.SumAny
import PyProof.Rows.CallKwBuiltin
import PyProof.EnumMake
import PyProof.TupleIter
import PyProof.Rows.TupIter
import PyProof.FactsAll.range_2
import PyProof.AutoSeq1
import PyProof.Rows.Range3
import PyProof.ZipIter
import PyProof.Rows.SortRuns
import PyProof.Rows.SortPure
import PyProof.Rows.SortShell
import PyProof.Rows.SortStr
import PyProof.MeetsSeq3
import KE.KSortTup
import KE.KSortKey
import PySem.Challenge.RW_quiltlaw_k56_whole_table_in_a_table
local macro_rules|`($m:declModifiers def $i:declId $s:optDeclSig $v:declVal)=>do
 if m.raw != (<-`(def x:=0)).raw[0]then Lean.Macro.throwUnsupported
 `(noncomputable def $i $s $v:declVal)
local macro_rules|`($m:declModifiers abbrev $i:declId $s:optDeclSig $v:declVal)=>do
 if m.raw != (<-`(def x:=0)).raw[0]then Lean.Macro.throwUnsupported
 `(noncomputable abbrev $i $s $v:declVal)
local macro_rules|`(command|set_option $o:ident $s:str)=>do
 if o.getId != `tw then Lean.Macro.throwUnsupported
 let n:=s.getString.toList.toArray.map λc=>if c.toNat<64 then c.toNat-35 else if c.toNat<92 then c.toNat-36 else c.toNat-37
 let a<-(List.range (n.size/10)).toArray.mapM λi=>let x:=(List.range 10).foldl (λa j=>a*90+n[10*i+j]!) 0;let y:=Lean.mkIdent (.mkSimple s!"tw{x}");`(command|theorem $y:ident:True:=⟨⟩)
 return Lean.mkNullNode a
namespace PySem.W.Fast
set_option tw "Mq#{2#n9r1.qf{1xK6,F/j7_SGdVMk$#VM5:0W4FO+][izjyt5N{Z*_GXU]a0CT=N:R6_3N;Ml}rnw>%$s[bn2qIo}PO<pNASpRDLWqtFpMLlw<9Kb8S&31/Mm8Oyi<{r1$6bX>p1'W%0Bvv`/INGGS95/s;$TxpMb'Q_44Sk44BW?rZ9e.W6'5tcjPKr&FTxV17dDKx.%*]it|?qv-F&~?tPfaY$/i{jc>$dC._Zf'a>Tb:G-)#Ru;&1MDhQs(FkrI>+hX|db+;Qd6*Q]~v-;|pD7WzLInk*`)mf'Rc^?&>J#G1eP0'h`>L=:hAPX>H+:1YnkKC_o<8FCNw<T&/LPrNv*3D&i50SHRx,05F.`b2'O}A)g4vthab%fsw=#7()60;OPFLytcj=4|L5o~ko.35iFOa~J}aibC+&lpXhocz7{'nE^v&E%eFEJ]Y{Rg~M'.yEn(Pe0%_PK8LEh(9bf8:z6&z+o^f3ZUNE7wb7|Hk^>#^.Y{p1Yxe+TWur^1tE9:h>jB>):h9'gwoSj0n>lxGvsLhOS>q9>TcbMDKA3[`&<]lR%T=F#W&X:%?Hb*Yo_wKPU_$11f`nJ14%;%s=FD/&VXQ6'1Z:)DG%ho:g$##Rnsle5$+SZ<Vc%3}Y/.1N8Wc[_nLN;Fc.X=.I#kTDjs&{m,/TP,5*EK<*vu}>`v+Ls;8q}=:i&e+*.|o8a&,e4Q4qT#Dh[N.t)~=M>$i:?lCrB%CV,mjDpkq9Dp~E;5G,c#Vmi.gqtZ/A%8fl_W(rJ)KVtxkQdq+Lj8p>;;Koi>]=NOG&S=a9PG]XlzD2JBrknlvsys+0(.z3.{i0F.3:s_TNm{}(tW/YuHZV],XHM$N0#ea+qQP{IH{h1R;,nfHQM%')P+d(7diFL8Jnz|^Q#xB%&b<JPLlqT4{jFEn4H;Q*s)dkhi8lpEBR}6k#==^(5{m5gS7~6ALg/w,1n|pJZhUjip*NrPw7}k#a}ar:Z;dYa(154Q|:m*E;UztL`Hf{>IWk(H~LqyF0q/YA~L|Y;K*wA:E%_KN3c_nH{Jc6x-UId(_H`fzlQ4S)UoSXNDh_8Gc1/''8Ni0Df?7whgogM3720]CP6KW0u;7},GDpdBX#zA^iBEh1p*vBs|83~+M#Xa'Z%e0>&6]4b{P~p.O'dN=CFUpLCO[t]qF'8&/7*G4jck^4;4pzcIqSmQRs#ZY_|v3+$$q(qqn[P8Sz+r&T5niEie-OO(%aRQphc6x4q<y4'w'B=P2aVLbXo>eS.L5:_3/qBRk.D:lgscCz#8P=`0^7&-O`aR4R1>_d)M/?-)Lj8%k_-11g^/5<,QLEMptE_3TDJ3+T}UOKem1KdP#lb8Rac/bs~d0$h19OIavqc5`z+M1:x4E>:Q346}C8Uh=;k0Zz]F5hhK/I_h*4u`M0}S,xU8(A,|yFx;3nW*+E(&or*)D>r&Q'95yPT/cjQOziK]yoW[8E^G>y%P'PdALb/2dWPEY5r^$VoeCw:PHqiARaL[43bg24zu^cKH9D*^?g%CnDqZ)YO`)zj15+SeAs9oO3n}/-FKX)&Dn)8#}A<;OM2o5:fKwXS.A$ZnDa&|j.x?zTP:},IJ9Q3Ii&DMI#v&,uO}(q.:+GxhZqKf4R-|Rs[wIT6+MG`?F7fNdF5s7<6W+PL6FKye7:B+LBM'0Ifcy^RFw0Nu:qu8{IC'5Z^5*l{$F(TC+jROo9z7$F6nqRXN#,Liy'933:ga/V6(ZO_?nG#O%-,k}0`sKqx7<xJP)SRUNsyHD*xQvz=;O(_+q-obk?v*1Ijq%_uvY<g3VRx-Lu`29H987W^Yd7/+fwk]FhqNa:lunp_2_A{%=.Fjb~Ho?,0y,^}-;MR.WR7(:Y0rN3f_WBVs=nK#.q-5hUQV,MNkd3+qwH~2h.oTm/tEW;z:89z0jo^1{`Ps9%Cz`/y{,~PK+H,>$F<H{W$0`*+iSR1iY.[BAn7nIF&aj3`(1:0=Xm,;xN?b)6_YlGFMK0O,J-Y*M4CfcJCJE:Dk>E.D'2h-j6Xgb?8c^${Uk|3t,$WO(snEVj'`x3#ox|nA-tGPeF.xqQwkAQ=&nR3_qf20V1V-=:9Pf>m_6(pM/{(Jt6<wIeTO`'8158J;8ovPbDMgc.*,p,4-iL](4{g)gIX%^_>d}6=]`>2sGaJ?AED)[*I;BAohw(53>5N%_=jeX(Z/5C#KhlaIiBJGe{iht|${g,.)eIn7IVV?^;F[_nQ9w8(YbqO;ppTIwL+J<dW}J4;dfSWLc~;FKjmxc]I4a-AYp00mFP_P]0A[Z*|I736:DD{Y?p7;z)zz}cXU3&9$pW;2;Xo5qFc]05S;c'nRczjL{YeD`-y?AfGSeQ;dZ%S[#uF2>e94>3$vaI'`.4JaG0/N*#RMwB)ze=S=y#|hm-CI<KI:jK]&z)?eY9W|mqp7m^7I(U(^8+B|xot,V7&FuN^0^(Qal*t}rHDN}/&IrIFFfu6+CCTe__IM0br;FI1SJ]gD&A+,WP[k+epJO$NWc2YedAPLR/0/wiO6{;n81z7NS1S[6C`aq8,>%tS#TO2]KGAyR]710Y(CJx.}GliXp2+]wAp0-}`4y=HAtwdil1ewK>1PFuhGdfMenrc(~4KpZY%fS3l6o(jDl]s8$D~dxWO1Q/dEV',M-lq'>Co}Pz}~(hg<-sv$ki##qGaRlA,rd?e8[qsnN7qN];CG+9'gK`F+G#K+40Tk;=$F*B'LJJ}DP7#D3FxhF+-o)}fWW/e=*~mV$>zrc'8>ftx;Jc;N{kT8r+|`%$|Cd$IVs^-.yY8:1&9gLA(fTH81KZ7%yYi'`+[eDB^l$gXF=;i?93Nx?HeZTL[wRuG2Iq;1e_+a*xllVK8nWdPhMmeCjJ<%ARR]'B13s]g<{$w4DmDP<~ur%69*ufwT$_H&t}LUO(2HU#p/tIYY5-,K8BE6BQIE|KV>P<L+6d>B7vKJoxyjhQ~-y?5TZ+IJ^FSkwN=]jPODxN_}:Qd.-%G3[x9b>Q/|$YX-'xCDy+R<g'WTf9pKm>2(I/nK4g+UWXfxO#?7P>N[cPj40<?qt5TUx+u3Y+q^SJr<n}.0YNlq~,Jxojj&ewv(pc.ElKHb&(,NcM1k12C(|QjN|`PeZ**A)Lj`Ik9M=~BJ%n___K.><:,]+'Z8iOoh#xp43=2_skJq-2e94v58L{8#o1x;1BM4b6X7<5zrB&-)VDei-nm3_Ma),LJT8%R_w4ga$K>m7.3;kDVE[YiHB*:eczboH]1#8[{-lK`nT-$1ZbuzS>/3UN3}(kEl7?E?(3k$1?{)-Ex}WUuk_Lh9KI.uh]%MlW5|n3#Oe0FPx;z_ICz<(/UI>AHwWE1}>0~=19`Fr+'&1{M%l:,gcYwZ_1pP^KId.Gn&8)wOnmUU_F>QYtOq.NB(zHrzKA;b|nE3ZsC|Kx7>^/%26~z-UDO:O]Ir`yT(ANjfmu3|cn88(xNEe>w<j2YLr?WgXH:>[}R$Y9iBx*<[~%:ndXxDQ|s*c`hA~38xf*beRJ.IpqRT1RTmSLZVX<>rB4).D61C2cG;XNC<H(FE:qX'LiWaM/B3LAX.*U*w?ki9xhqvt*[#q6O4Z&qfx1TBTIxTS's];S4*M:3],f5LC9AdL]3;#%>/P=%LWJ+':SQ_QvUOZ?]_{?[oP;u+9Hx(t{QY_JbMPmRo</'?*Ar1.s1}+)LIv<M-e-q=Nde<NU;x=>o=OtK2mQ{Do-hX=3{J?M'`1uZmHvJ;tw?,e<B~)4~/yx#/uVa0`mSgZPw%yA|Zn*FL.QWJGkHIXmyBYE]/rON>99(PzPeei;,H(G&h9k[&R/^DvGl+V^>^W3Jb~/gD%kQ*c#);#bd&C3?z=6m%)vt(c2.XXjJ>xG7BtouFy$[Eg<VVBb0.|FA&hCYGx`dGI<<JbhG5nJ,B/ME0Jr2CuD1T;?B,2Ol&bDcE%^|24e#O,?2|uMYDTxv^UsN=dX-K<>Q6m.VEWck-u0u/[k9+]fm>P3%+j<[[Fda36u::PHH?o3To7TWFPO'Am*AP>r6X)Ltq7hO,~YX#mC]X+#u|a8(USP:z7-kPBbFQ-K:9FR=PEW%;*$aPeiL-lx9FcP3,`).8j}9EL1Ic{a`a1Rty6Ck?5xaDL8RKDc>tUHfQ|9th*=pLx<m>12|=>4h9q<Vt59[$Xr1c~aN-:9Mb}4rrLQ,/|Y9p~xEfQ*U8+~jiAXl*Sed]-Gov<4i>31,Kjp~9KJc,JV?+hA6+7i]vo<<9|l`+$`},$'~;ZNj^sL6-ccimLT#mh,im/6DyWXC%=-nGmCqXG0Vm0S*A-'p9^]7&`w|}K#&gbCbtghY5*MgrTyNr^Cs2Jf,qs>0>~dz:-$Ym*H=jk:[KYM0KW8+&Mu.mm=L)C3c6M`_P44^uxLOi3CN9^a>q=ZD4Ry'/Ejc2cFlHI~AkCe}8b#dl%AhP+%z|;GX;tPe4Gw?r8TvTe3Ch:O#N3FTH=gXI^x4zJD?pup+>*LT09y,wVe4ym3<'7{R3Bcu3jkbOts&2%=)Q9{),_j%1-c)H)Z0+#C~/g=FsoGR;0(PMa`EAJA*X>VRX&TLLdv*y/6lUkQp+**Ay:Q{HeV|DKzcVUQIdVOQR-~&7qBdj5jGNb0Q6UeTvxYC/g_g]:X8DU.{&69g3P4pAu7MPSG^:6;L~Xk$3z}E7nAql+bKzSHzj.V#N:w80TR+a*Dqu8S:zAT9j9xlGD|{eJqCyvC[E-F9q.8KA^Bc+RgyE>1}~-~u6o|d:3Sa(tf&JY7m,[[6DyA&(b~0C3qi2CS2<15^C_K2L=3<E-joI&2y<vIo%kK[?&dZamisC:9{1IQe)FBvSOZZx-Ng<x:LUMspGDSLSIO9^gqPmZJmGNj`v?P99c':b'BD=%2kMK{bk]>}Oyr^&q([R)Jg;bkl_Wt'Bl8e#>EV-w>#o?_`z6]g5}L?si9acoRX(H.0ZrWX0N_$m~qBUyCSUR.xRA|/%^<HF2sbS?Myg*jq{Gu_+km`G;9$H=5tO,pf#D#K/EUIpaQ7ln2j=d];oKL>';gc{9$gyC(U~8POmJz021SgR0&Qtz(6*4uy]C.AEx|ryt4=0IL|z?I%$)>^7X*<g`8<MU,g|L:J%`lj(Jxy&lpAQn1j_mGW?N)h+L-U4Hi-P:.~fnWwF`qh8/n&{TVY4<00Bx<4y?Kg-3`ol>#`mq/EZc5VS)IkJ)9w_*C+ZyJiIHWvD~PP#/:MDexmL3RTh|23THR?RVxZ8e4_U1%&?[7WtiBXEz&jCtz`,oCmL4$`FTyTJbV}s$h6bwFA<lP,2t&JCJWSlq#5h&ETiOE[JNc($uL8),o&pS=1kT|rqnN$(n2p%#[7dOKuGhJ9L/yEOa>T>>x+Rj5*)MinGs},*v2Au^HMQWSR8vlX)an2#uoiId9DV(3),'P%F,3(RU6Ies]A<>F8erhg[4hS7jvF'MGU3rMo$c2(kZ^:21_Ko*E9=(7.y0`RKbH(>KjDnDrmN0Rf&=+0u#Rb,J[~C_;||*/5sMm+G7sIS2hLSm=EM>LvPGZDv/El4d_9Ln_dt|Em>P1-c>0p:a>PyMB#2WNi*']sZW/(*kgS};H2A.E:>ar}29vt%WQ)%'gQp}FRAbxE/q:HP.iw5r~*lu;_A>JlxZG/J/M7{Ut-S'0f|Bgc&/2P'l6|b<U`>;-&lod3jKYX%G=`IT=gugG*a}77LEw%I[*53&f{CH-7}P%6Pa/FDm#{JQsls5(v7PC:QE0PSR)fjoTeQ+J2W?qm,:_5549RvEt&q19N8%5Mp'ze0xT9aw,4w=)q94vj$DM]2b[&+DVTCiN.^V9wg'e=;07(ekHMKD+<2p?7Q{G/(p;&CtjepiHeZ+u:NH.QQb(:J9G=&0DR3>4b6FcC4v+fq^yCNpJ)1Ngcrd1.JQ~=o(1U-WA'p|OXCv_>1mB5BD/7ol-b|$ou<:R.2QJDL6-37x.`-OOHu#^4$M'9CF0$P:>:sYOn1#4$1rnPd?rladM;sXY3Yzh4CM4c3eGgY<=1Dh4nSv80DAKtSg1$DK9Cu4c+6S.MS6'0D;]_'p9&~aNah&Yz.Ker/j_,O~(V^g2skg~^4.pp~,A24sEmP)S{bNIo5FJYn*XDUw?lB^*KPk.{*Dx`<1'OX+*omAh*#IO=P?lNublRsT.5rTpMVE*g(:Y.nlWapkFzi5Y6`B'7I-$DmojGjJG~MIwaOa%e=o?4FN7nxN$Dutj^~gLP>03sHV?:X;Rq<hM':,]3.83L+'k5,=6$z2d?fsXXQDIvSQ2%e/9Zh*([XS<)JhWIc1%RhJ:bpudD%..&/'1u.7H*u$,YfaC0m*nl'0|cbyKx$dI{6L5RI~BjJ=a6i+|o0.#+<J$Knt*xIXd0l:VJ|SAly.3ozlHU$NJ/bbnQ.6F;,W]i2p{A.A50|&m>xWB6aky;lbk8N+L*K_[yxKL3D|)eF/yzSUqnJ]XNyrOXKXucQ]*CRV%`ic7?$6(N'v]^0)MhHEkrD_gR.|$hJS?4Nm6SN$I243_J]kNJ8GB=EZ2}0kQ]t+,^D5;2%*rA}`+w%b|jZIt}E?H[8EvOWq>+;lpA#_xzQ#,OW?%]h{z/%YNEu#NV/s/#bE||I,9JRIa[UN4XoFB874Ej|PL9G'b5e&&PmZLVuVr#$#K#7FT1DH>-kFPvK{__L&f^$2?T_/G-nY=,0:U8vTv0(Y~c^'DEQ,/0?P_7tCn$LYE=T,|%o.6>5|s%N.H`8a#*=*YnLxH4C*4SSF.ULMV<uBe0#p2a[f8J+S8$&D5ibqJr0n&1*j,SJ==6DefClR7O3xPB2_&;Ay.M=g$f0v-)#KKuajX=~hoK.>^5K?v<SQ4DpV-V54_*Bc4Om~%Tl,IN*6lGcbjMHP}cW%d),V"
end PySem.W.Fast
abbrev q04:=@PySem.wpAny_bind
abbrev q05:=@PySem.wpAny_pure
abbrev q06:=@if_neg
abbrev q07:=@if_pos
abbrev q08:=@decide_eq_false
abbrev q09:=@decide_eq_true
abbrev q0A:=@List.getD_eq_getElem?_getD
abbrev q0B:=@List.mem_cons_self
abbrev q0C:=@List.mem_append_right
abbrev q0D:=@List.mem_append_left
abbrev q0E:=@List.take_add_one
abbrev q0F:=@List.take_of_length_le
abbrev q0G:=@Array.getElem?_toList
abbrev q0H:=@List.mem_of_mem_take
abbrev q0I:=@List.mem_of_mem_drop
abbrev q0J:=@List.length_range
abbrev q0K:=@List.map_congr_left
abbrev q0L:=@Option.getD_some
abbrev q0M:=@List.range_succ
abbrev q0N:=@List.length_zip
abbrev q0O:=@Bool.and_eq_true
abbrev q0P:=@Nat.le_of_lt
abbrev q0Q:=@absurd
abbrev q0R:=@congrArg
abbrev q0S:=@Option.some.inj
abbrev q0T:=@List.drop_eq_getElem_cons
abbrev q0U:=@List.filterMap_cons
abbrev q0V:=@Array.toList_append
abbrev q0W:=@PySem.sizeLine_eq
abbrev q0X:=@PySem.wpAny_mono
abbrev q0Y:=@PySem.wpAny_holding
abbrev q0Z:=@List.length_singleton
abbrev q0a:=@Bool.false_eq_true
abbrev q0b:=@decide_eq_true_eq
abbrev q0c:=@List.nodup_cons
theorem zzl(h:1=1:=by exact Or.inl rfl):1=1:=h
theorem zz0(h:1=1:=by rfl):1=1:=h
theorem zz1(h:1=1:=by decide):1=1:=h
theorem zz2(h:1=1:=by first | exact .inl rfl | exact .inr rfl | assumption):1=1:=h
theorem zz3(h:1=1:=by decide +kernel):1=1:=h
theorem zz4(h:1=1:=by intro _;rfl):1=1:=h
theorem zz5(h:1=1:=by first | exact Or.inl rfl | exact Or.inr (Or.inl rfl) | exact Or.inr (Or.inr rfl)):1=1:=h
local macro_rules|`(tactic|omega)=>`(tactic|first|lia|omega +splitDisjunctions)
set_option linter.all false
set_option Elab.async false
set_option maxRecDepth 100000
abbrev KQ:=PySem.Value->PySem.Shared->Prop
abbrev KR:=PySem.W.Frag
abbrev KS:=List (PySem.Addr×PySem.Obj)
abbrev KU:=List Nat
abbrev KW:=PySem.Shared
abbrev KY:=List PySem.Value
abbrev KZ:=List PySem.Addr
abbrev K0:=PySem.Str->Option PySem.Value
abbrev K1:=PySem.FuncData
abbrev K2:=PySem.Program
abbrev K3:=List PySem.Str
abbrev K4:=PySem.Around
abbrev K5:=PySem.World
abbrev K6:=Option PySem.Addr
abbrev K7:=List PySem.Expr
local macro_rules|`(term|⋯)=>`(by omega)
abbrev JT:=@List.getElem?_eq_getElem
abbrev JU:=@List.getElem?_eq_some_iff
abbrev JV:=@PySem.Heap.get?_push_of_some
abbrev JW:=@List.length_map
abbrev JX:=@List.mem_singleton
abbrev JY:=@List.getElem?_map
abbrev JZ:=@List.mem_of_getElem?
abbrev J0:=@PySem.Heap.get?_update_other
abbrev J1:=@PySem.Heap.get?_push_size
abbrev J2:=@List.size_toArray
abbrev J3:=@List.getElem_mem
abbrev J4:=@Int.toNat_natCast
abbrev J5:=@PySem.Heap.get?_update_self
abbrev J6:=@List.length_cons
abbrev J7:=@List.map_append
abbrev J8:=@List.mem_append
abbrev J9:=@List.map_map
abbrev J_:=@List.mem_cons
abbrev J':=@List.mem_cons_of_mem
abbrev Ka:=@List.length_reverse
abbrev Kb:=@Nat.lt_of_lt_of_le
abbrev Kc:=@Nat.ne_of_lt
abbrev Kd:=@List.getElem?_append_right
abbrev Ke:=@List.getElem?_append_left
abbrev Kf:=@List.length_append
abbrev Kg:=@Nat.le_refl
abbrev Kh:=@Nat.zero_le
abbrev Ki:=@Bool.false_ne_true
abbrev Kj:=@PySem.Heap.lt_size
abbrev Kk:=@Option.map_eq_some_iff
abbrev Kl:=@List.getElem?_cons_succ
abbrev Km:=@List.map_cons
abbrev Kn:=@Nat.le_trans
abbrev Ko:=@Nat.lt_irrefl
abbrev Kq:=@Nat.lt_succ_self
abbrev Ks:=@List.append_nil
abbrev Kt:=@List.append_assoc
abbrev Ku:=@List.getElem?_set_self
abbrev Kv:=@List.take_length
abbrev Kw:=@List.length_take
abbrev Kx:=@List.length_drop
abbrev Kz:=@List.reverse_append
abbrev KA:=@List.reverse_reverse
abbrev KC:=@Nat.lt_of_le_of_lt
abbrev KD:=@List.length_eq_zero_iff
abbrev KF:=@List.mem_map
abbrev KG:=@List.all_eq_true
abbrev KH:=@Nat.add_le_add_left
abbrev KI:=@List.getElem_toArray
abbrev KJ:=@List.nil_append
abbrev KL:=@Int.emod_nonneg
abbrev KM:=@Int.emod_lt_of_pos
abbrev KN:=@Int.toNat_of_nonneg
abbrev KO:=@Nat.min_eq_left
abbrev KP:=@List.drop_zero
namespace L2
open PySem PySem.Spec PyProof.Rows
abbrev cP:=Sum Int Str
def ot:cP->Value->Bool
 | .inl k,v=>Value.isInt k v
 | .inr x,v=>Value.isStrOf x v
def Gu(w:K5):cP->Int
 | .inl k=>hashInt k
 | .inr x=>hashStr w x
theorem cF:∀{k:cP} {v:Value},ot k v=true->(∃i t,k=Sum.inl i/\v=Value.int i t)\/(∃x t,k=Sum.inr x/\v=Value.str x t)
 | .inl i,v,h=>by
  obtain⟨t,e⟩:=Value.isInt_shape (k:=i) (v:=v) h;exact .inl ⟨i,t,rfl,e⟩
 | .inr x,v,h=>by
  obtain⟨t,e⟩:=Value.isStrOf_shape (x:=x) (v:=v) h;exact .inr ⟨x,t,rfl,e⟩
theorem zj(i:Int)(t:Tok):ot (.inl i) (.int i t)=true:=by simp[ot,Value.isInt]
theorem zF(x:Str)(t:Tok):ot (.inr x) (.str x t)=true:=by simp[ot,Value.isStrOf]
theorem EX(a b:Int):decide ((Sum.inl a:cP)=Sum.inl b)=(a==b):=by
 by_cases e:a=b
 ·subst e;simp
 ·have h:¬ (Sum.inl a:cP)=Sum.inl b:=λq=>e (Sum.inl.inj q)
  rw[q08 h];exact(beq_eq_false_iff_ne.mpr e).symm
theorem Ev(a b:Str):decide ((Sum.inr a:cP)=Sum.inr b)=decide (a=b):=by
 by_cases e:a=b
 ·subst e;simp
 ·have h:¬ (Sum.inr a:cP)=Sum.inr b:=λq=>e (Sum.inr.inj q)
  rw[q08 h,q08 e]
theorem D'(a:Int)(b:Str):decide ((Sum.inl a:cP)=Sum.inr b)=false:=q08 (λq=>nomatch q)
theorem EA(a:Str)(b:Int):decide ((Sum.inr a:cP)=Sum.inl b)=false:=q08 (λq=>nomatch q)
def cz(prog:K2)(w:K5):PySem.KeyKind prog w cP where
 is:=ot
 hash:=Gu w
 inj:=λv a b ha hb=>by
  rcases cF ha with⟨i,t,rfl,rfl⟩ | ⟨x,t,rfl,rfl⟩
  ·rcases cF hb with⟨j,u,rfl,e⟩ | ⟨y,u,rfl,e⟩
   ·injection e with e1 _;rw[e1]
   ·exact nomatch e
  ·rcases cF hb with⟨j,u,rfl,e⟩ | ⟨y,u,rfl,e⟩
   ·exact nomatch e
   ·injection e with e1 _;rw[e1]
 byValue:=λk v h=>by
  rcases cF h with⟨i,t,rfl,rfl⟩ | ⟨x,t,rfl,rfl⟩<;>rfl
 pyHash:=λhv h=>by
  rcases cF hv with⟨i,t,rfl,rfl⟩ | ⟨x,t,rfl,rfl⟩
  ·exact wpAny_pyHash_int h
  ·exact wpAny_pyHash_str h
 eqBool:=λhu hv h=>by
  rcases cF hu with⟨i,t,rfl,rfl⟩ | ⟨x,t,rfl,rfl⟩
  ·rcases cF hv with⟨j,u,rfl,rfl⟩ | ⟨y,u,rfl,rfl⟩
   ·rw[EX]at h;exact wpAny_eqBool_int h
   ·rw[D']at h;exact SeqAt.EqAt.int_str i t y u _ _ _ _ h
  ·rcases cF hv with⟨j,u,rfl,rfl⟩ | ⟨y,u,rfl,rfl⟩
   ·rw[EA]at h;exact SeqAt.EqAt.str_int x t j u _ _ _ _ h
   ·rw[Ev]at h;exact wpAny_eqBool_str h
 «strs»:=λk x t v h=>by
  rcases cF h with⟨i,u,rfl,e⟩ | ⟨y,u,rfl,e⟩
  ·exact nomatch e
  ·injection e with e1 _
   subst e1;cases v<;>rfl
theorem uD(prog:K2)(w:K5)(i:Int)(t:Tok):(cz prog w).is (.inl i) (.int i t)=true:=zj i t
theorem uE(prog:K2)(w:K5)(x:Str)(t:Tok):(cz prog w).is (.inr x) (.str x t)=true:=zF x t
inductive V where
 |non | bl (b:Bool) | int (i:Int) | str (x:Str) | byt (b:Array UInt8) | flt (b:UInt64) | ref (a:Addr) | ty (n:String)
 deriving DecidableEq
def bK:V->Value->Prop
 | .non,u=>u=Value.none
 | .bl b,u=>u=Value.bool b
 | .int i,u=>∃t,u=Value.int i t
 | .str x,u=>∃t,u=Value.str x t
 | .byt b,u=>∃t,u=Value.bytes b t
 | .flt b,u=>∃t,u=Value.float b t
 | .ref a,u=>u=Value.ref a
 | .ty n,u=>u=Value.type n
abbrev bv:List V->List Value->Prop:=Paired bK
theorem bv.length{xs:List V}{us:KY}(r:bv xs us):xs.length=us.length:=Paired.length r
theorem bv.get:∀{xs:List V} {us:KY} {i:Nat} {x:V},bv xs us->xs[i]?=some x->∃u,us[i]?=some u/\bK x u
 |_,_,_,_,.nil,e=>by simp at e
 |_,_,0,_,.cons r _,e=>by simp at e;subst e;exact⟨_,rfl,r⟩
 |_,_,i+1,x,.cons _ t,e=>by
  obtain⟨u,h1,h2⟩:=bv.get (i:=i) (x:=x) t (by simpa using e);exact⟨u,by simpa using h1,h2⟩
theorem bv.set{x:V}{u:Value}(r:bK x u):∀{xs:List V} {us:KY} (i:Nat),bv xs us->bv (xs.set i x) (us.set i u)
 |_,_,_,.nil=>.nil
 |_,_,0,.cons _ t=>.cons r t
 |_,_,i+1,.cons q t=>.cons q (bv.set r i t)
theorem bv.append:∀{xs ys:List V} {us ws:KY},bv xs us->bv ys ws->bv (xs++ys) (us++ws)
 |_,_,_,_,.nil,s=>s
 |_,_,_,_,.cons r t,s=>.cons r (bv.append t s)
theorem bv.take:∀{xs:List V} {us:KY} (n:Nat),bv xs us->bv (xs.take n) (us.take n)
 |_,_,0,_=>.nil
 |_,_,_+1,.nil=>.nil
 |_,_,n+1,.cons r t=>.cons r (bv.take n t)
theorem bv.drop:∀{xs:List V} {us:KY} (n:Nat),bv xs us->bv (xs.drop n) (us.drop n)
 |_,_,0,r=>r
 |_,_,_+1,.nil=>.nil
 |_,_,n+1,.cons _ t=>bv.drop n t
def jc:Option V->Option Value->Prop
 |some v,some u=>bK v u
 |none,none=>True
 |_,_=>False
def KV{κ:Type}:List (κ×V)->List (κ×Value)->Prop:=Paired fun(p:κ×V) (q:κ×Value)=>p.1=q.1/\bK p.2 q.2
def kV:cP->V
 | .inl i=>.int i
 | .inr x=>.str x
inductive HO where
  |lst (xs:List V)
  |tup (xs:List V)
  |dK (kvs:List (cP×V)) | dT (kvs:List (List cP×V))
  |set(S:Int->Bool) (n:Nat)
  |ins (C dx:Addr) (fs:List (Str×V))
  |own (x:Addr)
  |xd (fs:List (Str×V))
  |met (f x:Addr)
  |rng (lo hi:Int)
  |frz (o:Obj) (u:HO)
  |tbl (ps:Array Value)
  |ext (φ:Heap->Prop)
abbrev Hp:=Addr->Option HO
def aE(H:Hp)(a:Addr)(o:HO):Hp:=λb=>if b=a then some o else H b
theorem ag{H:Hp}{a:Addr}{o:HO}:aE H a o a=some o:=by unfold aE;rw[q07 rfl]
theorem av{H:Hp}{a b:Addr}{o:HO}(h:b≠a):aE H a o b=H b:=by unfold aE;rw[q06 h]
theorem kD{H:Hp}{a:Addr}{o u:HO}:aE (aE H a o) a u=aE H a u:=by
 funext b;unfold aE;split<;>rfl
theorem nV{H:Hp}{a b:Addr}{o u:HO}(h:H a=some o)(h':H b=some u)(d:o≠u):a≠b:=by
 intro e;subst e;rw[h]at h';exact d (q0S h')
theorem aJ{H:Hp}{a b:Addr}{o:HO}(h:H a=some o)(h':H b=none):a≠b:=by
 intro e;subst e;rw[h]at h';cases h'
section
variable (P:K2)(w:K5)
def ci(H:Hp)(h:Heap)(a:Addr):HO->Prop
 | .lst xs=>xs.length<=sizeLine/\∃(its:KY) (n:Nat),bv xs its/\h.get? a=some {cls:=.type "list",data:=.seq its.toArray n}
 | .tup xs=>xs.length<=sizeLine/\∃its:List Value,bv xs its/\IsTup h a its.toArray
 | .dK kvs=>kvs.length<=sizeLine/\(a==sysModules)=false/\∃vs,KV kvs vs/\h.DictOf (cz P w) a vs
 | .dT kvs=>kvs.length<=sizeLine/\(a==sysModules)=false/\∃xs:List (List cP×Addr×Value),
   Paired (fun(p:List cP×V) (q:List cP×Addr×Value)=>p.1=q.1/\H q.2.1=some (.tup (p.1.map kV))/\bK p.2 q.2.2) kvs xs /\
   ∃o es ep,h.get? a=some o/\o.ExactDict/\o.data=.dict es ep/\es.toList=xs.map (entryOfKey (tupleKind (cz P w)))/\(xs.map (·.1)).Nodup
 | .set S n=>h.SetOf (intKind P w) a S n
 | .ins C dx fs=>H dx=some (.own a)/\fs.length<=1000/\dx≠a/\h.get? a=some (PySem.W.instObj C dx) /\
   ∃mA,h.Ns1 dx mA/\(∀f,jc (fs.lookup f) (mA f))/\PySem.Within mA (fs.map (·.1))
 | .own _=>∃o,h.get? a=some o
 | .xd fs=>∃mA,h.Ns1 a mA/\∀f,jc (fs.lookup f) (mA f)
 | .rng lo hi=>∃t u v,h.get? a=some {cls:=.type "range",data:=.fields #[.int lo t,.int hi u,.int 1 v]}
 | .frz o u=>h.get? a=some o/\ci H h a u
 | .tbl ps=>h.get? a=some {cls:=.none,data:=.fields ps}
 | .met f x=>h.get? a=some (PySem.W.methodObj (.ref f) (.ref x))
 | .ext φ=>φ h/\(∃o,h.get? a=some o)/\∀h1 h2:Heap,φ h1->(∀o,h1.get? a=some o->h2.get? a=some o)->φ h2
def jf(H:Hp)(h:Heap):Prop:=∀a o,H a=some o->ci P w H h a o
end
section
variable {P:K2}{w:K5}{H H':Hp}{h h':Heap}{a:Addr}{o:HO}
theorem ci.lt(x:ci P w H h a o):a<h.objs.size:=by
 cases o with
 |lst xs=>obtain⟨_,_,_,_,e⟩:=x;exact Kj e
 |tup xs=>obtain⟨_,_,_,p⟩:=x;exact p.lt
 |dK kvs=>obtain⟨_,_,_,_,o,_,_,e,_⟩:=x;exact Kj e
 |dT kvs=>obtain⟨_,_,_,_,o,_,_,e,_⟩:=x;exact Kj e
 |set S n=>obtain⟨o,_,_,_,e,_⟩:=x;exact Kj e
 |ins C dx fs=>obtain⟨_,_,_,e,_⟩:=x;exact Kj e
 |own y=>obtain⟨_,e⟩:=x;exact Kj e
 |xd fs=>obtain⟨_,⟨_,_,_,e,_⟩,_⟩:=x;exact Kj e
 |rng lo hi=>obtain⟨_,_,_,e⟩:=x;exact Kj e
 |frz ob u=>obtain⟨e,_⟩:=x;exact Kj e
 |tbl ps=>exact Kj (show h.get? a=some _ from x)
 |met f y=>exact Kj (show h.get? a=some _ from x)
 |ext φ=>obtain⟨_,⟨_,e⟩,_⟩:=x;exact Kj e
theorem Paired.mapP{α β:Type}{F G:α->β->Prop}:∀{l₁:List α} {l₂:List β},Paired F l₁ l₂->(∀a b,F a b->G a b)->Paired G l₁ l₂
 |_,_,.nil,_=>.nil
 |_,_,.cons r t,f=>.cons (f _ _ r) (Paired.mapP t f)
theorem ci.stay(x:ci P w H h a o)(k:∀b u,(b=a\/H b=some (.own a))->h.get? b=some u->h'.get? b=some u)
  (ho:∀b,H b=some (.own a)->H' b=some (.own a)) (ht:∀b xs,H b=some (.tup xs)->H' b=some (.tup xs)):ci P w H' h' a o:=by
 induction o with
 |lst xs=>obtain⟨z,l,n,r,e⟩:=x;exact⟨z,l,n,r,k _ _ (.inl rfl) e⟩
 |tup xs=>obtain⟨z,l,r,g,e,c⟩:=x;exact⟨z,l,r,g,k _ _ (.inl rfl) e,c⟩
 |dK kvs=>obtain⟨z,y,vs,r,g,i,j,e,c⟩:=x;exact⟨z,y,vs,r,g,i,j,k _ _ (.inl rfl) e,c⟩
 |dT kvs=>
  obtain⟨z,y,xs,r,g,i,j,e,c⟩:=x;exact⟨z,y,xs,Paired.mapP r λp q z=>⟨z.1,ht _ _ z.2.1,z.2.2⟩,g,i,j,k _ _ (.inl rfl) e,c⟩
 |set S n=>obtain⟨g,i,j,t,e,c⟩:=x;exact⟨g,i,j,t,k _ _ (.inl rfl) e,c⟩
 |ins C dx fs=>
  obtain⟨d,z,G,e,B,⟨m,i,j,I,c⟩,r⟩:=x;exact⟨ho _ d,z,G,k _ _ (.inl rfl) e,B,⟨m,i,j,k _ _ (.inr d) I,c⟩,r⟩
 |own y=>obtain⟨g,e⟩:=x;exact⟨g,k _ _ (.inl rfl) e⟩
 |xd fs=>obtain⟨B,⟨m,i,j,e,c⟩,r⟩:=x;exact⟨B,⟨m,i,j,k _ _ (.inl rfl) e,c⟩,r⟩
 |rng lo hi=>obtain⟨t,u,v,e⟩:=x;exact⟨t,u,v,k _ _ (.inl rfl) e⟩
 |frz g u ih=>obtain⟨e,q⟩:=x;exact⟨k _ _ (.inl rfl) e,ih q⟩
 |tbl ps=>
  have e:h.get? a=some {cls:=.none,data:=.fields ps}:=x;show h'.get? a=some {cls:=.none,data:=.fields ps};exact k a _ (.inl rfl) e
 |met f y=>
  have e:h.get? a=some (PySem.W.methodObj (.ref f) (.ref y)):=x;show h'.get? a=some (PySem.W.methodObj (.ref f) (.ref y));exact k a _ (.inl rfl) e
 |ext φ=>obtain⟨p,⟨o,e⟩,D⟩:=x;exact⟨D _ _ p λo q=>k _ _ (.inl rfl) q,⟨o,k _ _ (.inl rfl) e⟩,D⟩
theorem jf.lt(x:jf P w H h)(e:H a=some o):a<h.objs.size:=(x a o e).lt
theorem jf.fresh(x:jf P w H h)(e:h.objs.size<=a):H a=none:=by
 cases q:H a with
 |none=>rfl
 |some u=>exact q0Q (Kb (x.lt q) e) (Ko _)
theorem jf.kept(x:jf P w H h)(k:∀b u,h.get? b=some u->h'.get? b=some u):jf P w H h':=λa o e=>
 (x a o e).stay (λb u _ q=>k b u q) (λ_ q=>q) λ_ _ q=>q
theorem jf.laid(x:jf P w H h)(k:∀b u,h.get? b=some u->h'.get? b=some u)(hp:h.objs.size<=a)(new:ci P w (aE H a o) h' a o):jf P w (aE H a o) h':=λb u e=>by
 have hn:=x.fresh hp
 by_cases hb:b=a
 ·subst hb;rw[ag]at e;cases e;exact new
 ·rw[av hb]at e
  exact(x b u e).stay (λc v _ q=>k c v q) (λc q=>by rw[av (aJ q hn)];exact q) λc xs q=>by rw[av (aJ q hn)];exact q
end
def Rd(H:Hp)(a:Addr)(u:HO):Prop:=H a=some u\/∃o,H a=some (.frz o u)
theorem Rd.ok{P:K2}{w:K5}{H:Hp}{h:Heap}{a:Addr}{u:HO}(r:Rd H a u)(x:jf P w H h):ci P w H h a u:=by
 rcases r with r | ⟨o,r⟩
 ·exact x a u r
 ·obtain⟨_,q⟩:=x a _ r
  exact q
def FH:Option HO->Prop
 |some (.lst _)=>True
 |some (.dK _)=>True
 |some (.dT _)=>True
 |some (.set _ _)=>True
 |some (.ins _ _ _)=>True
 |some (.ext _)=>True
 |_=>False
section
variable {P:K2}{w:K5}{H:Hp}{h h':Heap}{x e:Addr}{o':HO}
theorem jf.write(ok:jf P w H h)(mu:FH (H x))(he:e=x\/H e=some (.own x))(k:∀b u,b≠e->h.get? b=some u->h'.get? b=some u)(heo:∃u,h'.get? e=some u)
  (new:ci P w (aE H x o') h' x o'):jf P w (aE H x o') h':=λb u q=>by
 have nown:∀c y,H c=some (.own y)->c≠x:=λc y r z=>by subst z;rw[r]at mu;exact mu
 have ntup:∀c xs,H c=some (.tup xs)->c≠x:=λc xs r z=>by subst z;rw[r]at mu;exact mu
 by_cases hb:b=x
 ·subst hb;rw[ag]at q;cases q;exact new
 ·rw[av hb]at q
  by_cases hbe:b=e
  ·have q':H b=some (.own x):=by
    rcases he with z | z
    ·exact q0Q (hbe.trans z) hb
    ·rw[hbe];exact z
   rw[q]at q';cases q'
   obtain⟨v,a⟩:=heo;exact⟨v,by rw[hbe];exact a⟩
  ·refine(ok b u q).stay (λc v hc r=>k c v ?_ r) (λc r=>by rw[av (nown c b r)];exact r) λc xs r=>by rw[av (ntup c xs r)];exact r
   rcases hc with rfl | hc
   ·exact hbe
   ·rintro rfl
    rcases he with z | z
    ·exact nown c b hc z
    ·rw[hc]at z;cases z;exact hb rfl
end
structure Un(fs ex:KZ)(H H':Hp)(h h':Heap):Prop where
 keep:∀b o,h.get? b=some o->H b=none->b∉fs->b∉ex->h'.get? b=some o
 slot:∀b o,h.get? b=some o->H b=none->b∈fs->b∉ex->∃sl,h'.get? b=some {o with slots:=sl}
 free:∀b o,h.get? b=some o->H b=none->b∉ex->H' b=none
 there:∀b o,h.get? b=some o->b∉ex->∃o',h'.get? b=some o'
 tups:∀b xs,H b=some (.tup xs)->H' b=some (.tup xs)
 frzs:∀b o u,H b=some (.frz o u)->H' b=some (.frz o u)
 tbls:∀b ps,H b=some (.tbl ps)->∃more,H' b=some (.tbl (ps++more))
section
variable {fs fs' ex ex':KZ}{H H1 H2:Hp}{h h1 h2 h':Heap}{a x e:Addr}{o:HO}
theorem Un.any(u:Un fs ex H H1 h h1){b:Addr}{ob:Obj}(q:h.get? b=some ob)(n:H b=none)(hx:b∉ex):∃sl,h1.get? b=some {ob with slots:=sl}:=by
 by_cases a:b∈fs
 ·exact u.slot b ob q n a hx
 ·exact⟨ob.slots,u.keep b ob q n a hx⟩
theorem Un.kept(k:∀b u,h.get? b=some u->h'.get? b=some u):Un fs ex H H h h':=
 ⟨λb ob q _ _ _=>k b ob q,λb ob q _ _ _=>⟨ob.slots,k b ob q⟩,λ_ _ _ n _=>n,λb ob q _=>⟨ob,k b ob q⟩,λ_ _ q=>q,λ_ _ _ q=>q,λ_ ps q=>⟨#[],by rw[q];simp⟩⟩
theorem Un.refl:Un fs ex H H h h:=Un.kept λ_ _ q=>q
theorem Un.laid(k:∀b u,h.get? b=some u->h'.get? b=some u)(hp:h.objs.size<=a)(hn:H a=none):Un fs ex H (aE H a o) h h' where
 keep:=λb u q _ _ _=>k b u q
 slot:=λb u q _ _ _=>⟨u.slots,k b u q⟩
 free:=λb u q n _=>by rw[av (Kc (Kb (Kj q) hp))];exact n
 there:=λb u q _=>⟨u,k b u q⟩
 tups:=λb xs q=>by rw[av (aJ q hn)];exact q
 frzs:=λb u xs q=>by rw[av (aJ q hn)];exact q
 tbls:=λb ps q=>⟨#[],by rw[av (aJ q hn),q];simp⟩
theorem Un.write(mu:FH (H x))(he:e=x\/H e=some (.own x))(k:∀b u,b≠e->h.get? b=some u->h'.get? b=some u)(heo:∃u,h'.get? e=some u):Un fs ex H (aE H x o) h h':=by
 have d:∀b,H b=none->b≠x:=λb n z=>by subst z;rw[n]at mu;exact mu
 have g:∀b,H b=none->b≠e:=λb n z=>by
  subst z;rcases he with r | r
  ·exact d b n r
  ·rw[n]at r;cases r
 have c:∀b u,H b=some u->¬ FH (some u)->b≠x:=λb u q j z=>by subst z;rw[q]at mu;exact j mu
 refine⟨λb u q n _ _=>k b u (g b n) q,λb u q n _ _=>⟨u.slots,k b u (g b n) q⟩,λb u q n _=>by rw[av (d b n)];exact n,λb u q _=>?_,
  λb i q=>by rw[av (c b _ q λz=>z)];exact q,λb u i q=>by rw[av (c b _ q λz=>z)];exact q,λb ps q=>⟨#[],by rw[av (c b _ q λz=>z),q];simp⟩⟩
 by_cases a:b=e
 ·subst a;exact heo
 ·exact⟨u,k b u a q⟩
end
def F'(h:Heap)(H:Hp):List Addr:=(List.range h.objs.size).filter λa=>(H a).isSome
def tm(h:Heap)(H:Hp):Heap:=PySem.W.hideAll h (F' h H)
theorem zf(h:Heap)(H:Hp):(tm h H).objs.size=h.objs.size:=PySem.W.hideAll_size _ _
theorem BM{h:Heap}{H:Hp}{b:Addr}{o:Obj}(e:h.get? b=some o)(n:H b=none):(tm h H).get? b=some o:=
 PySem.W.hideAll_get _ e λhm=>by
  have q:(H b).isSome=true:=(List.mem_filter.mp hm).2;rw[n]at q;simp at q
theorem Ci{h:Heap}{H:Hp}{b:Addr}{o:Obj}(e:(tm h H).get? b=some o):h.get? b=some o/\H b=none:=by
 have a:h.get? b=some o:=PySem.W.of_hideAll (F' h H) e;refine⟨a,?_⟩;cases q:H b with
 |none=>rfl
 |some x=>
  have c:b∈F' h H:=List.mem_filter.mpr ⟨List.mem_range.mpr (Kj a),by simp[q]⟩;have z:(tm h H).get? b=none:=PySem.W.hideAll_none (F' h H) c;rw[z]at e;cases e
def Dp(g h:Heap)(L:Addr):List (Addr×Obj):=(List.range h.objs.size).filterMap λa=>if a=L\/(g.get? a).isSome=true then none else(h.get? a).map λo=>(a,o)
def bU(g h:Heap)(L d:Addr):List (Addr×Obj):=(Dp g h L).filter λp=>decide (p.1≠d)
structure Mod(K:KR)(mg:K0)(base:Heap):Prop where
 kin:K.In base
 glob:base.Ns mainGlobals mg
 blt:∃mb,base.Ns builtinsNs mb/\∀x:Str,x≠"__name__"->mb x=bootBuiltins x
 nolimit:base.NoLimit
structure Cx where
 prog:Program
 w:World
 K:PySem.W.Frag
 mg:Str->Option Value
 base:Heap
 A:Around
 N:List Str
 s₀:Shared
 H₀:Hp
 env:Env
 outer:List Env
 stack:List Env
 ex:List Addr
 fn:Str->Bool
 calm:Bool
 pn:List (Addr×Obj)
 xe:Value->Shared->Prop
def wH(l:List Env):List Addr:=l.filterMap (·.frame)
abbrev Cx.fs(X:Cx):List Addr:=wH X.outer
def F5(sc:Scope)(x:Str):Prop:=sc.names.lookup x=some .local\/sc.names.lookup x=some .cell\/sc.names.lookup x=some .free
def Loc(sc:Scope)(x:Str):Prop:=sc.names.lookup x=some .local\/sc.names.lookup x=some .cell
def GF(env:Env)(h:Heap)(m:K0)(x:Str)(u:Value):Prop:=
 (env.kindOf x=some .local/\m x=some u)\/((env.kindOf x=some .cell\/env.kindOf x=some .free)/\∃c,env.cells.lookup x=some c/\h.IsCell c (some u))
structure Cx.Ok(X:Cx):Prop where
 mod:Mod X.K X.mg X.base
 kind:X.env.scope.kind=.function
 glob:X.env.globals=mainGlobals
 blt:X.env.builtins=builtinsNs
 above:X.s₀.heap.objs.size<=X.env.locals
 inj:∀x y c,X.env.cells.lookup x=some c->X.env.cells.lookup y=some c->x=y
 has:∀x,(X.env.kindOf x=some .cell\/X.env.kindOf x=some .free)->∃c,X.env.cells.lookup x=some c
 cab:∀x c,X.fn x=true->X.env.cells.lookup x=some c->X.s₀.heap.objs.size<=c
 hd:X.calm=true->X.A.handled=none
 frames:X.A.frames=some X.stack
 stk:X.stack=X.outer\/(X.stack=X.env::X.outer/\X.env.frame=some X.env.locals)
 exf:∀b∈X.ex,b≠X.env.locals/\∀x c,X.env.cells.lookup x=some c->c≠b
 bs:∀b o,X.base.get? b=some o->X.s₀.heap.get? b=some o/\X.H₀ b=none
 bsz:X.base.objs.size<=X.s₀.heap.objs.size
 noex:∀b o,X.base.get? b=some o->b∉X.ex
 exfs:∀b∈X.ex,b∉X.fs
 funs:X.s₀.heap.FunFrames X.base X.outer
 frf:∀b∈X.fs,X.H₀ b=none
structure Inv(X:Cx)(pins:KS)(σ:List (Option V))(H:Hp)(s:KW):Prop where
 ok:X.Ok
 os:s.os=X.s₀.os
 bare:AllBare s.gens
 base:Un X.fs X.ex X.H₀ H X.s₀.heap s.heap
 loc:∃m,s.heap.Ns X.env.locals m/\∀(i:Nat) (x:Str) (v:V),X.N[i]?=some x->σ[i]?=some (some v)->F5 X.env.scope x->∃u,bK v u/\GF X.env s.heap m x u
 cell:∀x c,X.env.cells.lookup x=some c->∃v,s.heap.IsCell c v
 free:H X.env.locals=none
 freeC:∀x c,X.env.cells.lookup x=some c->H c=none
 pin:∀p∈X.pn++pins,s.heap.get? p.1=some p.2/\H p.1=none/\p.1≠X.env.locals/\p.1∉X.fs/\∀v,p.2.data≠.cell v
 hok:jf X.prog X.w H s.heap
 len:σ.length=X.N.length
section
variable {X:Cx}{pins:KS}{σ:List (Option V)}{H H':Hp}{s:KW}{h':Heap}
theorem Cx.Ok.nofr(ok:X.Ok){b:Addr}{o:Obj}(e:X.base.get? b=some o):b∉X.fs:=λhb=>by
 have:=(ok.funs.mem hb).1;rw[e]at this;cases this
theorem Inv.bs(I:Inv X pins σ H s):∀b o,X.base.get? b=some o->s.heap.get? b=some o/\H b=none:=λb o e=>
 ⟨I.base.keep b o (I.ok.bs b o e).1 (I.ok.bs b o e).2 (I.ok.nofr e) (I.ok.noex b o e),I.base.free b o (I.ok.bs b o e).1 (I.ok.bs b o e).2 (I.ok.noex b o e)⟩
theorem Inv.bk(I:Inv X pins σ H s):∀b o,X.base.get? b=some o->s.heap.get? b=some o:=λb o e=>(I.bs b o e).1
theorem Inv.mod(I:Inv X pins σ H s):Mod X.K X.mg X.base:=I.ok.mod
theorem Inv.kIn(I:Inv X pins σ H s):X.K.In s.heap:=I.ok.mod.kin.keeps I.bk
theorem Inv.lt(I:Inv X pins σ H s):X.env.locals<s.heap.objs.size:=let ⟨_,hn,_⟩:=I.loc;hn.lt
theorem Inv.sz(I:Inv X pins σ H s):X.s₀.heap.objs.size<=s.heap.objs.size:=Kn I.ok.above (q0P I.lt)
theorem Inv.nofs(I:Inv X pins σ H s){a:Addr}(h:s.heap.objs.size<=a):a∉X.fs:=λhb=>by
 obtain⟨_,o,ho,_⟩:=I.ok.funs.mem hb;exact q0Q (Kb (Kj ho) (Kn I.sz h)) (Ko _)
theorem Inv.cne(I:Inv X pins σ H s):∀x c,X.env.cells.lookup x=some c->c≠X.env.locals:=λx c e z=>by
 obtain⟨v,o,ho,hd⟩:=I.cell x c e;obtain⟨m,⟨o',es,ep,ho',hd',_⟩,_⟩:=I.loc;rw[z,ho']at ho;cases ho;rw[hd']at hd;cases hd
theorem Inv.funs(I:Inv X pins σ H s):s.heap.FunFrames X.base X.outer:=by
 have all:∀(l:List Env),(∀b∈wH l,b∈X.fs)->X.s₀.heap.FunFrames X.base l->s.heap.FunFrames X.base l:=by
  intro l
  induction l with
  |nil=>intro _ _;trivial
  |cons env r ih=>
   intro g k;obtain⟨m,⟨L,o,a,j,i,n⟩,hr⟩:=k;have d:L∈X.fs:=g L (by unfold wH;rw[q0U,a];exact q0B);obtain⟨sl,e⟩:=I.base.slot L o i (I.ok.frf L d) d λz=>I.ok.exfs L z d;exact⟨m,⟨L,_,a,j,e,n⟩,ih (λb c=>g b (by unfold wH;rw[q0U,a];exact J' _ c)) hr⟩
 exact all X.outer (λ_ c=>c) I.ok.funs
theorem Inv.stack(I:Inv X pins σ H s):s.heap.FunFrames X.base X.stack:=by
 rcases I.ok.stk with e | ⟨e,b⟩
 ·rw[e];exact I.funs
 ·rw[e]
  obtain⟨m,a,_⟩:=I.loc;refine .cons (by rw[I.ok.kind];decide) b a ?_ I.funs;exact Heap.get?_none_of_le (Kn I.ok.bsz I.ok.above)
theorem Inv.stkSub(I:Inv X pins σ H s):∀b∈wH X.stack,b∈X.env.locals::X.fs:=λb hb=>by
 rcases I.ok.stk with e | ⟨e,hf⟩
 ·rw[e]at hb;exact J' _ hb
 ·rw[e]at hb
  unfold wH at hb;rw[q0U,hf]at hb;exact hb
theorem Inv.stkFree(I:Inv X pins σ H s):∀b∈wH X.stack,H b=none:=λb hb=>by
 rcases J_.mp (I.stkSub b hb) with e | hb
 ·rw[e];exact I.free
 ·obtain⟨_,o,ho,_⟩:=I.ok.funs.mem hb
  exact I.base.free b o ho (I.ok.frf b hb) λz=>I.ok.exfs b z hb
theorem Inv.step{g':Array GenState}{t':Nat}{d':Drawn}{ch:KZ}(I:Inv X pins σ H s)
  (hch:∀b∈ch,(b∈X.ex\/X.s₀.heap.objs.size<=b)/\b≠X.env.locals/\(∀x c,X.env.cells.lookup x=some c->c≠b)/\∀p∈X.pn++pins,p.1≠b)
  (keep:∀b o,b≠X.env.locals->b∉X.fs->b∉ch->s.heap.get? b=some o->H b=none->h'.get? b=some o)
  (slot:∀b o,b≠X.env.locals->b∈X.fs->b∉ch->s.heap.get? b=some o->H b=none->∃sl,h'.get? b=some {o with slots:=sl}) (free:∀b o,b∉ch->s.heap.get? b=some o->H b=none->H' b=none)
  (there:∀b o,b∉ch->s.heap.get? b=some o->∃o',h'.get? b=some o')
  (tups:∀b xs,H b=some (.tup xs)->H' b=some (.tup xs)) (frzs:∀b o u,H b=some (.frz o u)->H' b=some (.frz o u)) (tbls:∀b ps,H b=some (.tbl ps)->∃more,H' b=some (.tbl (ps++more)))
  (ns:∀m,s.heap.Ns X.env.locals m->h'.Ns X.env.locals m) (hok:jf X.prog X.w H' h') (hg:AllBare g') :
  Inv X pins σ H' {s with heap:=h',gens:=g',drawn:=d',toks:=t' }:=by
 have D:∀b o,X.s₀.heap.get? b=some o->b≠X.env.locals:=λb o e=>Kc (Kb (Kj e) I.ok.above);have w:∀b o,X.s₀.heap.get? b=some o->b∉X.ex->b∉ch:=λb o e a B=>by
  rcases(hch b B).1 with z | z
  ·exact a z
  ·exact q0Q (Kb (Kj e) z) (Ko _)
 have j:∀x c,X.env.cells.lookup x=some c->∀v,s.heap.IsCell c v->h'.IsCell c v:=λx c e v ⟨o,C,L⟩=>by
  have g:c∉ch:=λz=>(hch c z).2.2.1 x c e rfl
  by_cases S:c∈X.fs
  ·obtain⟨sl,q⟩:=slot c o (I.cne x c e) S g C (I.freeC x c e)
   exact⟨_,q,L⟩
  ·exact⟨o,keep c o (I.cne x c e) S g C (I.freeC x c e),L⟩
 refine⟨I.ok,I.os,hg,⟨λb o e n B a=>?_,λb o e n B a=>?_,λb o e n a=>?_,λb o e a=>?_,λb xs e=>tups b xs (I.base.tups b xs e),λb o xs e=>frzs b o xs (I.base.frzs b o xs e),λb ps e=>?_⟩,?_,λx c e=>?_,?_,λx c e=>?_,λp R=>?_,hok,I.len⟩
 ·exact keep b o (D b o e) B (w b o e a) (I.base.keep b o e n B a) (I.base.free b o e n a)
 ·obtain⟨sl,y⟩:=I.base.slot b o e n B a
  obtain⟨J,G⟩:=slot b _ (D b o e) B (w b o e a) y (I.base.free b o e n a);exact⟨J,G⟩
 ·obtain⟨o',y⟩:=I.base.there b o e a
  exact free b o' (w b o e a) y (I.base.free b o e n a)
 ·obtain⟨o',y⟩:=I.base.there b o e a
  exact there b o' (w b o e a) y
 ·obtain⟨m1,y⟩:=I.base.tbls b ps e
  obtain⟨T,G⟩:=tbls b _ y;exact⟨m1++T,by rw[G,Array.append_assoc]⟩
 ·obtain⟨m,U,Y⟩:=I.loc
  refine⟨m,ns m U,λi x v y G Z=>?_⟩;obtain⟨u,r,l⟩:=Y i x v y G Z;refine⟨u,r,?_⟩;rcases l with l | ⟨k,c,e,z⟩
  ·exact .inl l
  ·exact .inr ⟨k,c,e,j x c e _ z⟩
 ·obtain⟨v,z⟩:=I.cell x c e
  exact⟨v,j x c e v z⟩
 ·obtain⟨m,⟨o,_,_,C,_⟩,_⟩:=I.loc
  exact free _ o (λz=>(hch _ z).2.1 rfl) C I.free
 ·obtain⟨v,o,C,L⟩:=I.cell x c e
  exact free c o (λz=>(hch c z).2.2.1 x c e rfl) C (I.freeC x c e)
 ·obtain⟨e,n,O,M,d⟩:=I.pin p R
  have g:p.1∉ch:=λz=>(hch p.1 z).2.2.2 p R rfl;exact⟨keep p.1 p.2 O M g e n,free p.1 p.2 g e n,O,M,d⟩
theorem Inv.un{t':Nat}(I:Inv X pins σ H s)(u:Un X.fs [] H H' s.heap h')(hok:jf X.prog X.w H' h'):Inv X pins σ H' {s with heap:=h',toks:=t' }:=by
 obtain⟨m,⟨o,es,ep,i,r⟩,_⟩:=id I.loc;obtain⟨sl,l⟩:=u.any i I.free (by simp);exact I.step (g':=s.gens) (d':=s.drawn) (ch:=[]) (λ_ z=>nomatch z) (λb o _ c _ e n=>u.keep b o e n c (by simp)) (λb o _ c _ e n=>u.slot b o e n c (by simp)) (λb o _ e n=>u.free b o e n (by simp)) (λb o _ e=>u.there b o e (by simp)) u.tups u.frzs u.tbls (λm' k=>by
  obtain⟨o',d,g,a,j⟩:=k;rw[i]at a;cases a
  exact⟨_,d,g,l,j⟩) hok I.bare
theorem Inv.call{g':Array GenState}{t':Nat}{d':Drawn}{ch:KZ}(I:Inv X pins σ H s)(u:Un (wH X.stack) ch H H' s.heap h')(hok:jf X.prog X.w H' h')(hg:AllBare g')
  (hch:∀b∈ch,(b∈X.ex\/X.s₀.heap.objs.size<=b)/\b≠X.env.locals/\(∀x c,X.env.cells.lookup x=some c->c≠b)/\∀p∈X.pn++pins,p.1≠b) :
  Inv X pins σ H' {s with heap:=h',gens:=g',drawn:=d',toks:=t' }:=by
 obtain⟨m,⟨o,es,ep,k,r⟩,_⟩:=id I.loc;obtain⟨sl,g⟩:=u.any k I.free λz=>(hch _ z).2.1 rfl;exact I.step (ch:=ch) hch (λb o g v a e n=>u.keep b o e n (λz=>(J_.mp (I.stkSub b z)).elim g v) a) (λb o _ _ a e n=>u.any e n a) (λb o a e n=>u.free b o e n a) (λb o a e=>u.there b o e a) u.tups u.frzs u.tbls (λm' q=>by
  obtain⟨o',i,j,d,l⟩:=q;rw[k]at d;cases d
  exact⟨_,i,j,g,l⟩) hok hg
theorem Inv.turned{t':Nat}{it:Addr}(I:Inv X pins σ H s)(k:∀b o,b≠it->s.heap.get? b=some o->h'.get? b=some o)(hn:H it=none)(hL:it≠X.env.locals)
  (h1:it∈X.ex\/X.s₀.heap.objs.size<=it) (h2:∀x c,X.env.cells.lookup x=some c->c≠it) (h3:∀p∈X.pn++pins,p.1≠it):Inv X pins σ H {s with heap:=h',toks:=t' }:=by
 have d:∀b u,H b=some u->b≠it:=λb u e z=>by rw[z,hn]at e;cases e
 refine I.step (g':=s.gens) (d':=s.drawn) (ch:=[it]) (λb j=>?_) (λb o _ _ a e _=>k b o (λz=>a (by simp[z])) e) (λb o _ _ a e _=>⟨o.slots,k b o (λz=>a (by simp[z])) e⟩) (λ_ _ _ _ n=>n)
  (λb o a e=>⟨o,k b o (λz=>a (by simp[z])) e⟩) (λ_ _ e=>e) (λ_ _ _ e=>e) (λb ps e=>⟨#[],by rw[e];simp⟩) (λm i=>?_) (λb u e=>?_) I.bare
 ·have e:b=it:=by simpa using j
  subst e;exact⟨h1,hL,h2,h3⟩
 ·obtain⟨o,l,w,g,r⟩:=i
  exact⟨o,l,w,k _ o (Ne.symm hL) g,r⟩
 ·refine(I.hok b u e).stay (λc v a q=>k c v ?_ q) (λ_ q=>q) λ_ _ q=>q
  rcases a with z | z
  ·rw[z];exact d b u e
  ·exact d c _ z
theorem Inv.tok(I:Inv X pins σ H s)(t:Nat):Inv X pins σ H {s with toks:=t}:=I.un (h':=s.heap) (t':=t) Un.refl I.hok
theorem Inv.kept{t':Nat}(I:Inv X pins σ H s)(k:∀b u,s.heap.get? b=some u->h'.get? b=some u):Inv X pins σ H {s with heap:=h',toks:=t' }:=I.un (Un.kept k) (I.hok.kept k)
theorem Inv.laid{a:Addr}{o:HO}{t':Nat}(I:Inv X pins σ H s)(k:∀b u,s.heap.get? b=some u->h'.get? b=some u)(hp:s.heap.objs.size<=a)(new:ci X.prog X.w (aE H a o) h' a o) :
  Inv X pins σ (aE H a o) {s with heap:=h',toks:=t' }:=I.un (Un.laid k hp (I.hok.fresh hp)) (I.hok.laid k hp new)
theorem Inv.write{x e:Addr}{o:HO}{t':Nat}(I:Inv X pins σ H s)(mu:FH (H x))(he:e=x\/H e=some (.own x))(k:∀b u,b≠e->s.heap.get? b=some u->h'.get? b=some u)(heo:∃u,h'.get? e=some u)
  (new:ci X.prog X.w (aE H x o) h' x o):Inv X pins σ (aE H x o) {s with heap:=h',toks:=t' }:=I.un (Un.write mu he k heo) (I.hok.write mu he k heo new)
theorem Inv.pins_of{pins':KS}(I:Inv X pins σ H s)(h:∀p∈pins',s.heap.get? p.1=some p.2/\H p.1=none/\p.1≠X.env.locals/\p.1∉X.fs/\∀v,p.2.data≠.cell v):Inv X pins' σ H s:=
 ⟨I.ok,I.os,I.bare,I.base,I.loc,I.cell,I.free,I.freeC,λp hp=>(J8.mp hp).elim (λz=>I.pin p (q0D _ z)) (h p),I.hok,I.len⟩
theorem tW{N:K3}(hN:N.Nodup){i j:Nat}{x:Str}(a:N[i]?=some x)(b:N[j]?=some x):i=j:=by
 obtain⟨h1,d⟩:=JU.mp a;obtain⟨h2,c⟩:=JU.mp b;exact(List.getElem_inj hN).mp (d.trans c.symm)
theorem qc{M:Model}{A:K4}{E:KQ}{i:Nat}{x:Str}{v:V}{u:Value}{Q:Unit->Shared->Prop}(I:Inv X pins σ H s)(hN:X.N.Nodup)(hi:X.N[i]?=some x)(hx:Loc X.env.scope x)(r:bK v u)
  (h:∀s',Inv X pins (σ.set i (some v)) H s'->(∃a,Heap.SameBut a s.heap s'.heap/\(a=X.env.locals\/X.env.cells.lookup x=some a))->Q () s') (hf:autoParam (X.fn x=true\/X.env.scope.names.lookup x=some .local) zz2._auto_1):wpAny M A (storeName X.env x u) Q E s:=by
 obtain⟨m,hn,hl⟩:=id I.loc;have U:(X.env.scope.kind==.class||(X.env.scope.kind==.module&&X.env.locals != X.env.globals))=false:=by rw[I.ok.kind];rfl
 have T:i<σ.length:=by rw[I.len];exact(JU.mp hi).1
 have cne:=I.cne;have l:∀{a:Addr} {O:Heap},(∃o,s.heap.get? a=some o/\H a=none)->Heap.SameBut a s.heap O->jf X.prog X.w H O:=fun{a O} ha g b ob e=>by
  obtain⟨_,_,C⟩:=ha;refine(I.hok b ob e).stay (λc w' hc q=>(g.2 c ?_).trans q) (λ_ q=>q) λ_ _ q=>q;rintro rfl;rcases hc with rfl | hc
  ·rw[C]at e;cases e
  ·rw[C]at hc;cases hc
 rcases hx with hk | hk
 ·refine wpAny_storeName_local hk hn (λO a1 g=>?_) U
  obtain⟨oL,_,_,a0,_⟩:=id hn;refine h _ ⟨I.ok,I.os,I.bare,⟨λb o e n L hx=>?_,λb o e n L hx=>?_,I.base.free,λb o e hx=>?_,I.base.tups,I.base.frzs,I.base.tbls⟩,⟨_,a1,λj y v' B D e3=>?_⟩,λy c e=>?_,I.free,I.freeC,λp hp=>?_,l ⟨oL,a0,I.free⟩ g,by simpa using I.len⟩ ⟨_,g,.inl rfl⟩
  ·exact(g.2 b (Kc (Kb (Kj e) I.ok.above))).trans (I.base.keep b o e n L hx)
  ·obtain⟨sl,B⟩:=I.base.slot b o e n L hx
   exact⟨sl,(g.2 b (Kc (Kb (Kj e) I.ok.above))).trans B⟩
  ·obtain⟨o',B⟩:=I.base.there b o e hx
   exact⟨o',(g.2 b (Kc (Kb (Kj e) I.ok.above))).trans B⟩
  ·by_cases G:j=i
   ·subst G
    rw[hi]at B;cases B
    rw[Ku T]at D;cases D;exact⟨u,r,.inl ⟨hk,by simp⟩⟩
   ·rw[List.getElem?_set_ne (Ne.symm G)]at D
    obtain⟨u',r',q⟩:=hl j y v' B D e3;refine⟨u',r',?_⟩;rcases q with⟨k,e⟩ | ⟨k,c,e,z⟩
    ·refine .inl ⟨k,?_⟩
     have:y≠x:=λe=>G (tW hN B (e▸hi));simp[this,e]
    ·exact .inr ⟨k,c,e,z.sameBut g (cne y c e)⟩
  ·obtain⟨w',z⟩:=I.cell y c e
   exact⟨w',z.sameBut g (cne y c e)⟩
  ·obtain⟨e,n,ne,nf,d⟩:=I.pin p hp
   exact⟨(g.2 p.1 ne).trans e,n,ne,nf,d⟩
 ·have J:X.fn x=true:=by
   rcases hf with z | z
   ·exact z
   ·rw[z]at hk;cases hk
  obtain⟨c,hc⟩:=I.ok.has x (.inl hk);obtain⟨w',z⟩:=I.cell x c hc;refine wpAny_storeName_cell I.ok.kind hk hc z (λO Z g=>?_);obtain⟨oc,S,R⟩:=id z;refine h {s with heap:=O } ⟨I.ok,I.os,I.bare,⟨λb o e n L hx=>?_,λb o e n L hx=>?_,I.base.free,λb o e hx=>?_,I.base.tups,I.base.frzs,I.base.tbls⟩,⟨m,hn.sameBut g (Ne.symm (cne x c hc)),λj y v' B D e3=>?_⟩,λy c' e=>?_,I.free,I.freeC,λp hp=>?_,l ⟨oc,S,I.freeC x c hc⟩ g,by simpa using I.len⟩ ⟨c,g,.inr hc⟩
  ·exact(g.2 b (Kc (Kb (Kj e) (I.ok.cab x c J hc)))).trans (I.base.keep b o e n L hx)
  ·obtain⟨sl,B⟩:=I.base.slot b o e n L hx
   exact⟨sl,(g.2 b (Kc (Kb (Kj e) (I.ok.cab x c J hc)))).trans B⟩
  ·obtain⟨o',B⟩:=I.base.there b o e hx
   exact⟨o',(g.2 b (Kc (Kb (Kj e) (I.ok.cab x c J hc)))).trans B⟩
  ·by_cases G:j=i
   ·subst G
    rw[hi]at B;cases B
    rw[Ku T]at D;cases D;exact⟨u,r,.inr ⟨.inl hk,c,hc,Z⟩⟩
   ·rw[List.getElem?_set_ne (Ne.symm G)]at D
    obtain⟨u',r',q⟩:=hl j y v' B D e3;refine⟨u',r',?_⟩;rcases q with q | ⟨k,c',e,z'⟩
    ·exact .inl q
    ·refine .inr ⟨k,c',e,z'.sameBut g ?_⟩
     rintro rfl;exact G (tW hN B (I.ok.inj _ _ _ e hc▸hi))
  ·by_cases Y:c'=c
   ·subst Y;exact⟨_,Z⟩
   ·obtain⟨w2,z2⟩:=I.cell y c' e
    exact⟨w2,z2.sameBut g Y⟩
  ·obtain⟨e,n,ne,nf,d⟩:=I.pin p hp
   refine⟨(g.2 p.1 ?_).trans e,n,ne,nf,d⟩;intro q;rw[q,S]at e;have q':oc=p.2:=q0S e;exact d w' (by rw[<- q'];exact R)
theorem uP{M:Model}{A:K4}{E:KQ}{i:Nat}{x:Str}{v:V}{u:Value}{Q:Unit->Shared->Prop}(I:Inv X pins σ H s)(hN:X.N.Nodup)(hi:X.N[i]?=some x)(hx:Loc X.env.scope x)(r:bK v u)
  (h:∀s',Inv X pins (σ.set i (some v)) H s'->Q () s') (hf:autoParam (X.fn x=true\/X.env.scope.names.lookup x=some .local) zz2._auto_1):wpAny M A (storeName X.env x u) Q E s:=
 qc I hN hi hx r (λs' I' _=>h s' I') hf
theorem Inv.call'{s':KW}{ch:KZ}(I:Inv X pins σ H s)(ho:s'.os=s.os)(u:Un (wH X.stack) ch H H' s.heap s'.heap)(hok:jf X.prog X.w H' s'.heap)(hg:AllBare s'.gens)
  (hch:∀b∈ch,(b∈X.ex\/X.s₀.heap.objs.size<=b)/\b≠X.env.locals/\(∀x c,X.env.cells.lookup x=some c->c≠b)/\∀p∈X.pn++pins,p.1≠b):Inv X pins σ H' s':=by
 obtain⟨h',g',d',t',a⟩:=s';have e:a=s.os:=ho;subst e;exact I.call (g':=g') (t':=t') (d':=d') u hok hg hch
end
abbrev XK:=Value->Option Addr->Hp->Prop
abbrev St:=List (Option V)
abbrev VK:=V->Hp->Prop
abbrev TE:=St->Hp->VK->Prop
abbrev TT:=St->Hp->(Bool->Hp->Prop)->Prop
abbrev TA:=St->Hp->(List V->Hp->Prop)->Prop
structure gu where
 nx:St->Hp->Prop
 rt:VK
 bk:St->Hp->Prop:=λ_ _=>False
 ct:St->Hp->Prop:=λ_ _=>False
abbrev TS:=gu->St->Hp->Prop
def EP(X:Cx)(pins:KS)(σ:St)(Q:VK)(u:Value)(s':KW):Prop:=∃v H',Inv X pins σ H' s'/\bK v u/\Q v H'
def TP(X:Cx)(pins:KS)(σ:St)(Q:Bool->Hp->Prop)(b:Bool)(s':KW):Prop:=∃H',Inv X pins σ H' s'/\Q b H'
def AP(X:Cx)(pins:KS)(σ:St)(Q:List V->Hp->Prop)(us:KY)(s':KW):Prop:=∃vs H',Inv X pins σ H' s'/\bv vs us/\Q vs H'
def SP(X:Cx)(pins:KS)(D:gu)(f:Flow)(s':KW):Prop:=
 match f with
 | .next=>∃σ' H',Inv X pins σ' H' s'/\D.nx σ' H'
 | .brk=>∃σ' H',Inv X pins σ' H' s'/\D.bk σ' H'
 | .cont=>∃σ' H',Inv X pins σ' H' s'/\D.ct σ' H'
 | .ret u=>∃v σ' H',Inv X pins σ' H' s'/\bK v u/\D.rt v H'
def PE(X:Cx)(e:Expr)(t:TE):Prop:=
 ∀(pins:KS) (s:KW) (σ:St) (H:Hp) (Q:VK),Inv X pins σ H s->t σ H Q->wpAny (model X.prog X.w) X.A (eval e X.env) (EP X pins σ Q) X.xe s
def PT(X:Cx)(e:Expr)(t:TT):Prop:=
 ∀(pins:KS) (s:KW) (σ:St) (H:Hp) (Q:Bool->Hp->Prop),Inv X pins σ H s->t σ H Q->wpAny (model X.prog X.w) X.A (isTrue e X.env (eval e X.env)) (TP X pins σ Q) X.xe s
def PW(X:Cx)(e:Expr)(t:TT):Prop:=
 ∀(whole:Sem Value) (pins:KS) (s:KW) (σ:St) (H:Hp) (Q:Bool->Hp->Prop),Inv X pins σ H s->t σ H Q->wpAny (model X.prog X.w) X.A (isTrue e X.env whole) (TP X pins σ Q) X.xe s
theorem PW.pt{X:Cx}{e:Expr}{t:TT}(h:PW X e t):PT X e t:=h _
def PA(X:Cx)(es:K7)(t:TA):Prop:=
 ∀(pos:Pos) (pins:KS) (s:KW) (σ:St) (H:Hp) (Q:List V->Hp->Prop),Inv X pins σ H s->t σ H Q->wpAny (model X.prog X.w) X.A (spliced (backTo pos (starEach es X.env))) (AP X pins σ Q) X.xe s
def PS(X:Cx)(st:Stmt)(t:TS):Prop:=
 ∀(pins:KS) (s:KW) (σ:St) (H:Hp) (D:gu),Inv X pins σ H s->t D σ H->wpAny (model X.prog X.w) X.A (exec st X.env) (SP X pins D) X.xe s
def vB(X:Cx)(st:List Stmt)(t:TS):Prop:=
 ∀(pins:KS) (s:KW) (σ:St) (H:Hp) (D:gu),Inv X pins σ H s->t D σ H->wpAny (model X.prog X.w) X.A (execs st X.env) (SP X pins D) X.xe s
theorem cD{α:Type}{t:Sem α}{Q Q':α->Shared->Prop}{M:Model}{A:K4}{E:KQ}{s:KW}(h:wpAny M A t Q E s)(hQ:∀a s,Q a s->Q' a s):wpAny M A t Q' E s:=q0X h hQ λ_ _ x=>x
section
variable {X:Cx}
def BH(i:Nat):TE:=λσ H Q=>∃v,σ[i]?=some (some v)/\Q v H
def tC(v:V):TE:=λ_ H Q=>Q v H
theorem Ex{i:Nat}{x:Str}{pos:Pos}(hN:X.N[i]?=some x)(hv:F5 X.env.scope x)(hd:autoParam ((x==("__debug__":Str))=false) zz1._auto_1)(hcd:autoParam ((x==("__classdict__":Str))=false) zz1._auto_1):PE X (.Name x pos) (BH i):=by
 intro b s σ H Q I h;obtain⟨v,e,h⟩:=h;obtain⟨m,g,k⟩:=I.loc;obtain⟨u,r,l⟩:=k i x v hN e hv;have fin:EP X b σ Q u s:=⟨v,H,I,r,h⟩;rcases l with⟨hk,j⟩ | ⟨hk,c,d,a⟩
 ·exact wpAny_Name (wpAny_loadName_local I.ok.kind hk g j fin) hd
 ·rcases hk with hk | hk
  ·exact wpAny_Name (wpAny_loadName_cell I.ok.kind hk d a fin) hd
  ·exact wpAny_Name (wpAny_loadName_free I.ok.kind hk d a fin hcd) hd
theorem af{i j pos}:PE X (.Constant (.int i) j pos) (tC (.int i)):=λ_ _ _ H _ I h=>wpAny_Constant_int ⟨.int i,H,I.tok _,⟨_,rfl⟩,h⟩
theorem iG{b j pos}:PE X (.Constant (.bool b) j pos) (tC (.bl b)):=λ_ _ _ H _ I h=>Constant_bool ⟨.bl b,H,I,rfl,h⟩
theorem ly{j pos}:PE X (.Constant .none j pos) (tC .non):=λ_ _ _ H _ I h=>Constant_none ⟨.non,H,I,rfl,h⟩
theorem lB{x j pos}:PE X (.Constant (.str x) j pos) (tC (.str x)):=λ_ _ _ H _ I h=>Calls.Constant_str ⟨.str x,H,I.tok _,⟨_,rfl⟩,h⟩
def Gl(X:Cx)(x:Str):Prop:=X.env.kindOf x=some .globalImplicit
theorem mX{E:KQ}{pins:KS}{s:KW}{σ:St}{H:Hp}{x:Str}{u:Value}{pos:Pos}{Q:KQ}(I:Inv X pins σ H s)(hg:Gl X x)(hm:X.mg x=some u)(h:Q u s)
  (hd:autoParam ((x==("__debug__":Str))=false) zz1._auto_1):wpAny (model X.prog X.w) X.A (eval (.Name x pos) X.env) Q E s:=
 Calls.Name_function_global I.ok.kind hg (Calls.loadGlobal_global (by rw[I.ok.glob];exact I.mod.glob.keeps I.bk) hm h) hd
theorem eS{E:KQ}{pins:KS}{s:KW}{σ:St}{H:Hp}{x:Str}{u:Value}{pos:Pos}{Q:KQ}(I:Inv X pins σ H s)(hg:Gl X x)(hm:X.mg x=none)(hv:bootBuiltins x=some u)(h:Q u s)
  (hn:autoParam (x≠"__name__") zz1._auto_1) (hd:autoParam ((x==("__debug__":Str))=false) zz1._auto_1):wpAny (model X.prog X.w) X.A (eval (.Name x pos) X.env) Q E s:=by
 obtain⟨mb,h1,h2⟩:=I.mod.blt;exact Calls.Name_function_global I.ok.kind hg (Calls.loadGlobal_builtin (by rw[I.ok.glob];exact I.mod.glob.keeps I.bk) hm (by rw[I.ok.blt];exact h1.keeps I.bk) ((h2 x hn).trans hv) h) hd
theorem dq{x:Str}{v:V}{u:Value}{pos:Pos}(hg:Gl X x)(hm:X.mg x=some u)(r:bK v u)(hd:autoParam ((x==("__debug__":Str))=false) zz1._auto_1):PE X (.Name x pos) (tC v):=
 λ_ _ _ H _ I h=>mX I hg hm ⟨v,H,I,r,h⟩ hd
theorem i_{x:Str}{v:V}{u:Value}{pos:Pos}(hg:Gl X x)(hm:X.mg x=none)(hv:bootBuiltins x=some u)(r:bK v u)(hn:autoParam (x≠"__name__") zz1._auto_1)(hd:autoParam ((x==("__debug__":Str))=false) zz1._auto_1):PE X (.Name x pos) (tC v):=
 λ_ _ _ H _ I h=>eS I hg hm hv ⟨v,H,I,r,h⟩ hn hd
variable {a b:Expr}{ta tb:TE}{pos:Pos}
def PC(X:Cx)(op:CmpOp)(a b:Expr)(t:TE):Prop:=
 ∀(pins:KS) (s:KW) (σ:St) (H:Hp) (Q:VK),Inv X pins σ H s->t σ H Q ->
  wpAny (model X.prog X.w) X.A (eval a X.env) (λv s₁=>wpAny (model X.prog X.w) X.A (eval b X.env) (λu s₂=>wpAny (model X.prog X.w) X.A (compareOp op v u) (EP X pins σ Q) X.xe s₂) X.xe s₁) X.xe s
theorem BY(b:Expr){op:CmpOp}(h:op≠.In)(h2:op≠.NotIn):behindInMarks op b=false:=by
 have c:(op==CmpOp.In)=false:=by cases op<;>first | rfl | exact q0Q rfl h
 have a:(op==CmpOp.NotIn)=false:=by cases op<;>first | rfl | exact q0Q rfl h2
 cases b<;>simp[behindInMarks,c,a]
def tB(t:TE):TT:=λσ H Q=>t σ H λx H1=>∃c,x=.bl c/\Q c H1
theorem oy{op:CmpOp}{t:TE}(h:PC X op a b t)(h1:behindInMarks op b=false:=by first | exact BY _ (by decide) (by decide) | rfl):PT X (.Compare a [op] [b] pos) (tB t):=by
 intro e s σ H Q I hw;refine wpAny_isTrue_Compare1 (cD (h e s σ H _ I hw) λv s1 h1=>cD h1 λu s2 h2=>cD h2 λc s3 ⟨x,H1,j,g,i⟩=>?_) h1;obtain⟨d,rfl,q⟩:=i;cases g;exact wpAny_truthy_bool ⟨H1,j,q⟩
variable {tA tB':TT}{bU:K7}
def Et(t u:TT):TT:=λσ H Q=>t σ H λc H1=>if c=true then u σ H1 Q else Q false H1
def Gw(t u:TT):TT:=λσ H Q=>t σ H λc H1=>if c=true then Q true H1 else u σ H1 Q
def E8(t:TT):TT:=λσ H Q=>t σ H λc H1=>Q (!c) H1
theorem eC(ha:PT X a tA):PW X (.BoolOp .And [a] pos) tA:=by
 intro wh b s σ H Q I h;refine isTrue_and (cD (ha b s σ H Q I h) λc s1 e=>?_);cases c with
 |true=>exact isTrue_and_nil e
 |false=>exact e
theorem jA(ha:PT X a tA):PW X (.BoolOp .Or [a] pos) tA:=by
 intro wh b s σ H Q I h;refine isTrue_or (cD (ha b s σ H Q I h) λc s1 e=>?_);cases c with
 |false=>exact isTrue_or_nil e
 |true=>exact e
theorem fM(ha:PT X a tA)(hb:PW X (.BoolOp .And (b::bU) pos) tB'):PW X (.BoolOp .And (a::b::bU) pos) (Et tA tB'):=by
 intro i d s σ H Q I h;refine isTrue_and (cD (ha d s σ H _ I h) λc j ⟨H1,g,e⟩=>?_);cases c with
 |true=>exact hb i d j σ H1 Q g e
 |false=>exact⟨H1,g,e⟩
theorem lV(ha:PT X a tA)(hb:PW X (.BoolOp .Or (b::bU) pos) tB'):PW X (.BoolOp .Or (a::b::bU) pos) (Gw tA tB'):=by
 intro i d s σ H Q I h;refine isTrue_or (cD (ha d s σ H _ I h) λc j ⟨H1,g,e⟩=>?_);cases c with
 |true=>exact⟨H1,g,e⟩
 |false=>exact hb i d j σ H1 Q g e
theorem eX(ha:PT X a tA):PT X (.UnaryOp .Not a pos) (E8 tA):=by
 intro b s σ H Q I h;exact isTrue_not (ha b s σ H (λc H1=>Q (!c) H1) I h)
def BA(ta tb:TE):TE:=λσ H Q=>ta σ H λx H1=>∃c,x=.bl c/\if c=true then tb σ H1 Q else Q (.bl false) H1
def Bt(ta:TE):TE:=λσ H Q=>ta σ H λx H1=>∃c,x=.bl c/\Q (.bl (!c)) H1
theorem wW{op}{t:TE}(h:PE X a t):PE X (.BoolOp op [a] pos) t:=λpins s σ H Q I hw=>BoolOp_one (h pins s σ H Q I hw)
theorem rS(ha:PE X a ta)(hb:PE X (.BoolOp .And (b::bU) pos) tb):PE X (.BoolOp .And (a::b::bU) pos) (BA ta tb):=by
 intro d s σ H Q I h;refine BoolOp_and (cD (ha d s σ H _ I h) λv i ⟨x,H1,g,j,e⟩=>?_);obtain⟨c,rfl,e⟩:=e;cases j;refine wpAny_truthy_bool ?_;cases c with
 |true=>exact hb d i σ H1 Q g e
 |false=>exact⟨.bl false,H1,g,rfl,e⟩
theorem Eg(ha:PE X a ta):PE X (.UnaryOp .Not a pos) (Bt ta):=by
 intro b s σ H Q I h;refine UnaryOp_ (cD (ha b s σ H _ I h) λv s1 ⟨x,H1,g,e,d⟩=>?_);obtain⟨c,rfl,d⟩:=d;cases e;exact not_of (wpAny_truthy_bool ⟨.bl (!c),H1,g,rfl,d⟩)
def GM(t:TT)(ta tb:TE):TE:=λσ H Q=>t σ H λc H1=>if c=true then ta σ H1 Q else tb σ H1 Q
theorem AU{c:Expr}(hc:PT X c tA)(ha:PE X a ta)(hb:PE X b tb):PE X (.IfExp c a b pos) (GM tA ta tb):=by
 intro e s σ H Q I h;refine wpAny_IfExp (cD (hc e s σ H _ I h) λd g ⟨H1,j,i⟩=>?_);cases d with
 |true=>exact ha e g σ H1 Q j i
 |false=>exact hb e g σ H1 Q j i
end
def aM(K:KR)(H:Hp)(a:Addr)(xs:List V):Prop:=
 Rd H a (.lst xs) \/
  ∃(o:Obj) (its:Array Value) (n:Nat),K.lookup a=some o/\o.cls=.type "list"/\o.dict=none/\o.data=.seq its n/\its.size<=sizeLine/\bv xs its.toList
def dZ(K:KR)(H:Hp)(a:Addr)(xs:List V):Prop:=
 Rd H a (.tup xs) \/
  ∃(o:Obj) (its:Array Value) (n:Nat),K.lookup a=some o/\o.cls=.type "tuple"/\o.data=.seq its n/\its.size<=sizeLine/\bv xs its.toList
def GJ:Value->Option V
 | .none=>some .non
 | .bool b=>some (.bl b)
 | .int i _=>some (.int i)
 | .str x _=>some (.str x)
 | .bytes b _=>some (.byt b)
 | .float b _=>some (.flt b)
 | .ref a=>some (.ref a)
 | .type n=>some (.ty n)
 |_=>none
theorem bK.abs{x:V}{u:Value}(r:bK x u):GJ u=some x:=by
 cases x with
 |non=>cases r;rfl
 |bl _=>cases r;rfl
 |int _=>obtain⟨t,rfl⟩:=r;rfl
 |str _=>obtain⟨t,rfl⟩:=r;rfl
 |byt _=>obtain⟨t,rfl⟩:=r;rfl
 |flt _=>obtain⟨t,rfl⟩:=r;rfl
 |ref _=>cases r;rfl
 |ty _=>cases r;rfl
theorem bK.inj{x y:V}{u:Value}(r:bK x u)(q:bK y u):x=y:=q0S (r.abs.symm.trans q.abs)
theorem bv.inj:∀{xs ys:List V} {us:KY},bv xs us->bv ys us->xs=ys
 |_,_,_,.nil,.nil=>rfl
 |_,_,_,.cons r t,.cons r' t'=>by rw[r.inj r',bv.inj t t']
section
variable {X:Cx}{pins:KS}{σ:St}{H:Hp}{s:KW}{a:Addr}{xs ys:List V}
theorem aM.of{K:KR}(h:H a=some (.lst xs)):aM K H a xs:=.inl (.inl h)
theorem dZ.of{K:KR}(h:H a=some (.tup xs)):dZ K H a xs:=.inl (.inl h)
theorem Inv.list(I:Inv X pins σ H s)(h:aM X.K H a xs):∃its:List Value,bv xs its/\PlainL s.heap a its.toArray/\xs.length<=sizeLine:=by
 rcases h with h | ⟨o,its,n,c,g,d,b,hz,r⟩
 ·obtain⟨z,its,n,r,e⟩:=h.ok I.hok
  exact⟨its,r,⟨_,n,e,rfl,rfl,rfl⟩,z⟩
 ·refine⟨its.toList,r,⟨o,n,I.kIn a o c,g,d,by simpa using b⟩,?_⟩
  have e:=r.length;simp only[Array.length_toList]at e;omega
theorem Inv.tuple(I:Inv X pins σ H s)(h:dZ X.K H a xs):∃its:List Value,bv xs its/\IsTup s.heap a its.toArray/\xs.length<=sizeLine:=by
 rcases h with h | ⟨o,its,n,c,d,b,hz,r⟩
 ·obtain⟨z,its,r,p⟩:=h.ok I.hok
  exact⟨its,r,p,z⟩
 ·refine⟨its.toList,r,⟨o,I.kIn a o c,d,n,by simpa using b⟩,?_⟩
  have e:=r.length;simp only[Array.length_toList]at e;omega
theorem Inv.list_inj(I:Inv X pins σ H s)(h:aM X.K H a xs)(h':aM X.K H a ys):xs=ys:=by
 obtain⟨c,r,⟨o,n,e,_,_,d⟩,_⟩:=I.list h;obtain⟨b,j,⟨o',n',g,_,_,i⟩,_⟩:=I.list h';rw[e]at g;cases g
 rw[d]at i
 injection i with d1 _
 have:c=b:=by simpa using q0R Array.toList d1
 subst this;exact r.inj j
end
abbrev Cx.wish(X:Cx)(E:KQ):Cx:={X with xe:=E}
abbrev Cx.nox(X:Cx):Cx:=X.wish λ_ _=>False
theorem Cx.Ok.wish{X:Cx}(ok:X.Ok)(E:KQ):(X.wish E).Ok:=
 ⟨ok.mod,ok.kind,ok.glob,ok.blt,ok.above,ok.inj,ok.has,ok.cab,ok.hd,ok.frames,ok.stk,ok.exf,ok.bs,ok.bsz,ok.noex,ok.exfs,ok.funs,ok.frf⟩
theorem Cx.Ok.unwish{X:Cx}{E:KQ}(ok:(X.wish E).Ok):X.Ok:=
 ⟨ok.mod,ok.kind,ok.glob,ok.blt,ok.above,ok.inj,ok.has,ok.cab,ok.hd,ok.frames,ok.stk,ok.exf,ok.bs,ok.bsz,ok.noex,ok.exfs,ok.funs,ok.frf⟩
section
variable {X:Cx}{pins:KS}{σ:St}{H:Hp}{s:KW}{E:KQ}
theorem Inv.wish(I:Inv X pins σ H s)(E:KQ):Inv (X.wish E) pins σ H s:=⟨I.ok.wish E,I.os,I.bare,I.base,I.loc,I.cell,I.free,I.freeC,I.pin,I.hok,I.len⟩
theorem Inv.unwish(I:Inv (X.wish E) pins σ H s):Inv X pins σ H s:=⟨I.ok.unwish,I.os,I.bare,I.base,I.loc,I.cell,I.free,I.freeC,I.pin,I.hok,I.len⟩
theorem SP.unwish{D:gu}{f:Flow}{s':KW}(h:SP (X.wish E) pins D f s'):SP X pins D f s':=by
 cases f with
 |next=>obtain⟨σ',a,I,q⟩:=h;exact⟨σ',a,I.unwish,q⟩
 |brk=>obtain⟨σ',a,I,q⟩:=h;exact⟨σ',a,I.unwish,q⟩
 |cont=>obtain⟨σ',a,I,q⟩:=h;exact⟨σ',a,I.unwish,q⟩
 |ret u=>obtain⟨v,σ',a,I,r,q⟩:=h;exact⟨v,σ',a,I.unwish,r,q⟩
theorem vB.nox{st:List Stmt}{t:TS}(h:vB X.nox st t):vB X st t:=λpins s σ H D I hw=>
 q0X (h pins s σ H D (I.wish _) hw) (λ_ _ q=>q.unwish) λ_ _ z=>False.elim z
end
section
variable {X:Cx}{st:Stmt}{bU:List Stmt}{t u:TS}{e:Expr}{te:TE}{pos:Pos}
def A2:TS:=λD σ H=>D.nx σ H
def zA(t u:TS):TS:=λD σ H=>t {D with nx:=u D} σ H
theorem bh:vB X [] A2:=λ_ _ σ H _ I h=>wpAny_execs_nil ⟨σ,H,I,h⟩
theorem ae(h1:PS X st t)(h2:vB X bU u):vB X (st::bU) (zA t u):=by
 intro a s σ H D I h;refine wpAny_execs_cons (cD (h1 a s σ H {D with nx:=u D} I h) λf b q=>?_);cases f with
 |next=>
  obtain⟨σ',d,c,q⟩:=q;exact h2 a b σ' d D c q
 |ret v=>exact q
 |brk=>exact q
 |cont=>exact q
theorem ai(h1:PS X st t):vB X [st] t:=by
 intro a s σ H D I h;refine wpAny_execs_cons (cD (h1 a s σ H D I h) λf s1 q=>?_);cases f with
 |next=>exact wpAny_execs_nil q
 |ret v=>exact q
 |brk=>exact q
 |cont=>exact q
theorem Inv.quiet{pins:KS}{σ:St}{H:Hp}{s:KW}(I:Inv X pins σ H s):interactive X.env=false:=by simp[interactive,I.ok.kind]
def xF(te:TE):TS:=λD σ H=>te σ H λ_ H1=>D.nx σ H1
theorem bi(he:PE X e te)(hs:autoParam (swapsWith e none pos.line X.env=pure false) zz0._auto_1):PS X (.Expr e pos) (xF te):=by
 intro a s σ H D I h;exact wpAny_Expr_any (cD (he a s σ H _ I h) λv s1 ⟨x,H1,c,r1,b⟩=>⟨σ,H1,c,b⟩) I.quiet hs
def Eu(te:TE):TS:=λD σ H=>te σ H D.rt
theorem aO(he:PE X e te):PS X (.Return (some e) pos) (Eu te):=by
 intro a s σ H D I h;exact wpAny_Return_some (cD (he a s σ H _ I h) λv s1 ⟨x,H1,d,b,c⟩=>⟨x,σ,H1,d,b,c⟩)
def pR(c:TT)(t u:TS):TS:=λD σ H=>c σ H λb H1=>if b=true then t D σ H1 else u D σ H1
theorem bT{c:Expr}{a b:List Stmt}{tc:TT}(hc:PT X c tc)(ha:vB X a t)(hb:vB X b u):PS X (.If c a b pos) (pR tc t u):=by
 intro e s σ H D I h;refine wpAny_If (cD (hc e s σ H _ I h) λd g ⟨H1,j,i⟩=>?_);cases d with
 |true=>exact ha e g σ H1 D j i
 |false=>exact hb e g σ H1 D j i
end
abbrev TG:=V->St->Hp->(St->Hp->Prop)->Prop
abbrev DU:=List V->St->Hp->(St->Hp->Prop)->Prop
def PG(X:Cx)(target:Expr)(t:TG):Prop:=
 ∀(pins:KS) (s:KW) (σ:St) (H:Hp) (v:V) (u:Value) (Q:St->Hp->Prop),Inv X pins σ H s->bK v u->t v σ H Q ->
  wpAny (model X.prog X.w) X.A (assign target X.env u) (λ_ s'=>∃σ' H',Inv X pins σ' H' s'/\Q σ' H') X.xe s
def FW(X:Cx)(ts:K7)(t:DU):Prop:=
 ∀(pins:KS) (s:KW) (σ:St) (H:Hp) (vs:List V) (us:KY) (Q:St->Hp->Prop),Inv X pins σ H s->bv vs us->t vs σ H Q ->
  wpAny (model X.prog X.w) X.A (assignInOrder ((assignEach ts X.env).map (·.2)) us) (λ_ s'=>∃σ' H',Inv X pins σ' H' s'/\Q σ' H') X.xe s
section
variable {X:Cx}{pos:Pos}
def iP(i:Nat):TG:=λv σ H Q=>Q (σ.set i (some v)) H
theorem aB{i:Nat}{x:Str}(hN:X.N.Nodup)(hi:X.N[i]?=some x)(hx:Loc X.env.scope x)(hf:autoParam (X.fn x=true\/X.env.scope.names.lookup x=some .local) zz2._auto_1):PG X (.Name x pos) (iP i):=by
 intro pins s σ H v u Q I r h;exact wpAny_assign_Name (uP I hN hi hx r (λs' a=>⟨_,H,a,h⟩) hf)
theorem q02(i:Nat){x:Str}(hN:X.N.Nodup)(hi:autoParam (X.N[i]?=some x) zz0._auto_1)(hx:autoParam (Loc X.env.scope x) zzl._auto_1)(hf:autoParam (X.fn x=true\/X.env.scope.names.lookup x=some .local) zz2._auto_1):PG X (.Name x pos) (iP i):=aB hN hi hx hf
def Dk:DU:=λvs σ H Q=>vs=[]/\Q σ H
def xO(t:TG)(u:DU):DU:=λvs σ H Q=>∃v r,vs=v::r/\t v σ H λσ' H'=>u r σ' H' Q
theorem dB:FW X [] Dk:=by
 intro pins s σ H vs us Q I r h;obtain⟨e,h⟩:=h;subst e;cases r;exact assignInOrder_nil ⟨σ,H,I,h⟩
theorem bp{e:Expr}{es:K7}{t:TG}{u:DU}(h1:PG X e t)(h2:FW X es u)
  (hs:autoParam ((assignEach (e::es) X.env).map (·.2)=assign e X.env::(assignEach es X.env).map (·.2)) zz0._auto_1):FW X (e::es) (xO t u):=by
 intro a s σ H vs us Q I r h;obtain⟨v,vr,d,h⟩:=h;subst d;cases r with
 |cons r rr=>
  rw[hs];refine assignInOrder_cons (cD (h1 a s σ H _ _ _ I r h) λ_ b ⟨σ1,H1,g,c⟩=>?_);exact h2 a b σ1 H1 _ _ Q g rr c
def AZ(K:KR)(n:Nat)(t:DU):TG:=λv σ H Q=>∃a xs,v=.ref a/\dZ K H a xs/\xs.length=n/\t xs σ H Q
theorem ic{es:K7}{k:Nat}{t:DU}{n:Nat}(hc:X.calm=true)(h:FW X es t)
  (hn:autoParam ((assignEach es X.env).length=n) zz0._auto_1) (hst:autoParam ((assignEach es X.env).findIdx? (·.1)=none) zz0._auto_1):PG X (.Tuple es k pos) (AZ X.K n t):=by
 intro c s σ H v u Q I r d;obtain⟨a,i,w,m,p,d⟩:=d;subst w;cases r;obtain⟨its,g,l,hz⟩:=I.tuple m;refine assign_Tuple_tuple (I.ok.hd hc) l (by simp[hn,<- p,g.length]) hst λq j=>?_;have x:Inv X c σ H {s with heap:=q }:=I.kept (t':=s.toks) λb o e=>j b o (Kc (Kj e)) e;exact h c _ σ H i _ Q x (by simpa using g) d
def zi(te:TE)(g:TG):TS:=λD σ H=>te σ H λx H1=>g x σ H1 D.nx
theorem En{tg e:Expr}{te:TE}{g:TG}(he:PE X e te)(hg:PG X tg g)(hs:autoParam (swapsWithSole [tg] e pos.line X.env=pure false) zz0._auto_1)(hw:autoParam (swappedStores [tg] e X.env=pure none) zz0._auto_1)
  (h1:autoParam ((assignEach [tg] X.env).map (·.2)=[assign tg X.env]) zz0._auto_1):PS X (.Assign [tg] e pos) (zi te g):=by
 intro a s σ H D I h;refine wpAny_Assign_stores (cD (he a s σ H _ I h) λv b ⟨x,H1,i,c,d⟩=>?_) hs hw;rw[h1];exact cD (hg a b σ H1 x v _ i c d) λ_ s2 q=>q
theorem aC{i:Nat}{x:Str}{e:Expr}{te:TE}{pos':Pos}(hN:X.N.Nodup)(hi:X.N[i]?=some x)(hx:Loc X.env.scope x)(he:PE X e te)(hs:autoParam (swapsWith e (some (.Name x pos')) pos.line X.env=pure false) zz0._auto_1)(hf:autoParam (X.fn x=true\/X.env.scope.names.lookup x=some .local) zz2._auto_1) :
  PS X (.Assign [.Name x pos'] e pos) (zi te (iP i)):=by
 intro a s σ H D I h;refine wpAny_Assign_Name (cD (he a s σ H _ I h) λv s1 ⟨y,H1,g,b,c⟩=>?_) hs;exact uP g hN hi hx b (λs2 d=>⟨_,H1,d,c⟩) hf
theorem q01(i:Nat){x:Str}{e:Expr}{te:TE}{pos':Pos}(hN:X.N.Nodup)(he:PE X e te)(hi:autoParam (X.N[i]?=some x) zz0._auto_1)(hx:autoParam (Loc X.env.scope x) zzl._auto_1)(hs:autoParam (swapsWith e (some (.Name x pos')) pos.line X.env=pure false) zz0._auto_1)(hf:autoParam (X.fn x=true\/X.env.scope.names.lookup x=some .local) zz2._auto_1):
  PS X (.Assign [.Name x pos'] e pos) (zi te (iP i)):=aC hN hi hx he hs hf
def vT(c:TT)(tb:TS):TS:=λD σ H=>∃W:Nat->St->Hp->Prop,(∃m,W m σ H)/\∀m σ H,W m σ H ->
 c σ H λb H1=>if b=true then ∃N:St->Hp->Prop,(∀σ' H',N σ' H'->∃m',m'<m/\W m' σ' H')/\tb {D with nx:=N,ct:=N,bk:=D.nx} σ H1 else D.nx σ H1
theorem AC{c:Expr}{body:List Stmt}{tc:TT}{tb:TS}(hp:PassesOwn (model X.prog X.w) X.A X.env X.xe)(hc:PT X c tc)(hb:vB X body tb):PS X (.While c body [] pos) (vT tc tb):=by
 intro a s σ H D I h;obtain⟨W,⟨m0,r⟩,turn⟩:=h;refine wpAny_While (codeAny_whileLoop (λn x=>∃σ' H',Inv X a σ' H' x/\W n σ' H') ?_ m0 ⟨σ,H,I,r⟩);rintro n w ⟨σ1,H1,y,q⟩;refine wpAny_passesOwn hp (cD (hc a w σ1 H1 _ y (turn n σ1 H1 q)) λb u ⟨H2,p,g⟩=>?_);cases b with
 |true=>
  obtain⟨N,o,g⟩:=g;rw[q07 rfl];refine wpAny_passesOwn hp (cD (hb a u σ1 H2 _ p g) λf s3 e=>?_);cases f with
  |next=>
   obtain⟨σ3,d,m,j⟩:=e;obtain⟨k,l,i⟩:=o σ3 d j;exact⟨k,l,σ3,d,m,i⟩
  |cont=>
   obtain⟨σ3,d,m,j⟩:=e;obtain⟨k,l,i⟩:=o σ3 d j;exact⟨k,l,σ3,d,m,i⟩
  |brk=>exact e
  |ret v=>exact e
 |false=>
  rw[q06 Ki];exact wpAny_execs_nil ⟨σ1,H2,p,g⟩
end
structure It where
 go:Nat->Hp->Prop
 yld:Nat->Hp->V->Hp->Prop
 stop:Nat->Hp->Prop
def mw(X:Cx)(pins:KS)(H:Hp)(b:Addr):Prop:=
 H b=none/\b≠X.env.locals/\b∉X.fs/\(b∈X.ex\/X.s₀.heap.objs.size<=b)/\(∀x c,X.env.cells.lookup x=some c->c≠b)/\∀p∈X.pn++pins,p.1≠b
theorem Inv.fpOk{X:Cx}{pins:KS}{σ:St}{H H':Hp}{s:KW}{b:Addr}(I:Inv X pins σ H s)(hb:s.heap.objs.size<=b)(hn:H' b=none):mw X pins H' b:=by
 refine⟨hn,Nat.ne_of_gt (Kb I.lt hb),I.nofs hb,.inr (Kn I.sz hb),λx c e z=>?_,λp a z=>?_⟩
 ·obtain⟨v,q⟩:=I.cell x c e
  exact q0Q (Kb q.lt (by rw[z];exact hb)) (Ko _)
 ·exact q0Q (Kb (Kj (I.pin p a).1) (by rw[z];exact hb)) (Ko _)
structure sR(P:K2)(w:K5)(K:KR)(tg:Expr)(J:It)(fp:KZ)(it:Addr)(tn:Nat->Heap->Prop):Prop where
 mem:it∈fp
 obj:∀i h,tn i h->∀b∈fp,∃o,h.get? b=some o/\∀v,o.data≠.cell v
 keep:∀i h h',tn i h->(∀b∈fp,∀o,h.get? b=some o->h'.get? b=some o)->tn i h'
 item:∀(X:Cx),X.prog=P->X.w=w->X.K=K->X.calm=true->∀(i:Nat) (pins:KS) (s:KW) (σ:St) (H:Hp) (E:KQ),Inv X pins σ H s->(∀b∈fp,mw X pins H b)->tn i s.heap->J.go i H ->
  wpAny (model P w) X.A (pyNext (.ref it)) (λr s1=>∃u,r=some u /\
   wpAny (model P w) X.A (letOwnedTupleGo tg (.ref it) u) (λ_ s2=>∃x H',Inv X pins σ H' s2/\bK x u/\J.yld i H x H'/\tn (i+1) s2.heap/\∀b∈fp,H' b=none) E s1) E s
 done:∀(X:Cx),X.prog=P->X.w=w->X.K=K->X.calm=true->∀(i:Nat) (pins:KS) (s:KW) (σ:St) (H:Hp) (E:KQ),Inv X pins σ H s->(∀b∈fp,mw X pins H b)->tn i s.heap->J.stop i H ->
  wpAny (model P w) X.A (pyNext (.ref it)) (λr s1=>r=none/\Inv X pins σ H s1) E s
 self:∀(A:K4) (i:Nat) (s:KW) (Q:KQ) (E:KQ),tn i s.heap->Q (.ref it) s->wpAny (model P w) A (pyIter (.ref it)) Q E s
abbrev TI:=St->Hp->(It->Hp->Prop)->Prop
def G4(X:Cx)(pins:KS)(σ:St)(tg:Expr)(R:It->Hp->Prop)(itv:Value)(s2:KW):Prop:=
 ∃(it:Addr) (fp:KZ) (tn:Nat->Heap->Prop) (J:It) (H':Hp),itv=.ref it/\Inv X pins σ H' s2/\sR X.prog X.w X.K tg J fp it tn/\tn 0 s2.heap/\(∀b∈fp,mw X pins H' b)/\R J H'
def PI(X:Cx)(tg iter:Expr)(wi:TI):Prop:=
 ∀(pins:KS) (s:KW) (σ:St) (H:Hp) (R:It->Hp->Prop),Inv X pins σ H s->wi σ H R ->
  wpAny (model X.prog X.w) X.A (eval iter X.env) (λv s1=>wpAny (model X.prog X.w) X.A (pyIter v) (G4 X pins σ tg R) X.xe s1) X.xe s
theorem vp{M:Model}{A:K4}{E:KQ}{s:KW}{tg:Expr}{it:Addr}{u:Value}{o:Obj}{n:String}{vs:Array Value}{Q:Unit->Shared->Prop}(ho:s.heap.get? it=some o)(hc:o.cls=.type n)(hd:o.data=.fields vs)
  (hn:["enumerate","zip","dict_itemiterator","dict_reverseitemiterator","odict_iterator","itertools.zip_longest","itertools.pairwise"].contains n=false) (hQ:Q () s):wpAny M A (letOwnedTupleGo tg (.ref it) u) Q E s:=by
 unfold letOwnedTupleGo;cases tg<;>first
  |exact q05 hQ
  | (cases u<;>first
    |exact q05 hQ
    | (refine q04 (wpAny_load ho ?_)
       rw[hc,hd];show wpAny M A (if(["enumerate","zip","dict_itemiterator","dict_reverseitemiterator","odict_iterator","itertools.zip_longest","itertools.pairwise"].contains n&&vs[0]?==some (rawInt _))=true then _ else _) Q E s;rw[q06 (by intro h;rw[hn,Bool.false_and]at h;cases h)];exact q05 hQ))
def By(K:KR)(a:Addr):It:=
 ⟨λi H=>∃xs x,aM K H a xs/\xs[i]?=some x,λi H x H'=>H'=H/\∀xs,aM K H a xs->xs[i]?=some x,λi H=>∃xs,aM K H a xs/\xs.length<=i⟩
def wo(lo:Int)(n:Nat):It:=⟨λi _=>i<n,λi H x H'=>H'=H/\x=.int (lo+i),λi _=>n<=i⟩
theorem y3{P:K2}{w:K5}{K:KR}{tg:Expr}(a it:Addr):sR P w K tg (By K a) [it] it (λi h=>h.IsListIter it a i) where
 mem:=by simp
 obj:=λi h g b l=>by
  have e:b=it:=by simpa using l
  subst e;obtain⟨o,e,c,d⟩:=g;exact⟨o,e,λv z=>by rw[d]at z;cases z⟩
 keep:=λi h q g k=>g.at λo e=>k it (by simp) o e
 item:=by
  intro X D C G S i j s σ H E I hf g hg;subst D C G;obtain⟨T,x,n,B⟩:=hg;obtain⟨y,r,p,Z⟩:=I.list n;obtain⟨u,hu,Y⟩:=r.get B;obtain⟨R,O,f2,M,L,J⟩:=hf it (by simp);refine wpAny_pyNext_list_item g p.isList (x:=u) (by simpa using hu) λq m U=>?_;have I1:Inv X j σ H {s with heap:=q }:=I.turned (t':=s.toks) (λb o l e=>(U.2 b l).trans e) R O M L J;obtain⟨o,e,c,d⟩:=id m;exact⟨u,rfl,vp (s:={s with heap:=q }) e c d (by decide) ⟨x,H,I1,Y,⟨rfl,λys hy=>by rw[I.list_inj hy n];exact B⟩,m,λb l=>(hf b l).1⟩⟩
 done:=by
  intro X D C G S i j s σ H E I hf g hg;subst D C G;obtain⟨T,n,B⟩:=hg;obtain⟨y,r,p,Z⟩:=I.list n;obtain⟨R,O,f2,M,L,J⟩:=hf it (by simp);have hl:=r.length;exact wpAny_pyNext_list_end (I.ok.hd S) g p.isList (by simp;omega) λq eb=>⟨rfl,I.turned (t':=s.toks) (λb o l e=>eb b o l e) R O M L J⟩
 self:=λ_ _ _ _ _ g h=>wpAny_pyIter_listiter g h
theorem wJ{P:K2}{w:K5}{K:KR}{tg:Expr}(it:Addr)(lo:Int)(n:Nat):sR P w K tg (wo lo n) [it] it (λi h=>IsRangeIter h it (lo+(i:Nat)*1) ((n:Int)-(i:Nat)) 1) where
 mem:=by simp
 obj:=λi h a b d=>by
  have e:b=it:=by simpa using d
  subst e;exact⟨_,a,λv z=>by
   have D:Data.fields _=Data.cell v:=z;cases D⟩
 keep:=λi h j a k=>k it (by simp) _ a
 item:=by
  intro X p l q m i c s σ H E I hf a hg;subst p l q;obtain⟨B,y,f2,x,u,r⟩:=hf it (by simp);have W:=Walks.range (prog:=X.prog) (w:=X.w) (I.ok.hd m) it lo 1 n;refine W.item i s _ _ hg a λv j C J g G=>?_;obtain⟨t,rfl⟩:=J;have M:Inv X c σ H {s with heap:=j,toks:=C}:=I.turned (λb o d e=>G b o (by simpa using d) e) B y x u r;refine⟨_,rfl,vp (s:={s with heap:=j,toks:=C}) (n:="range_iterator") g rfl rfl (by decide) ⟨.int (lo+i),H,M,⟨t,?_⟩,⟨rfl,rfl⟩,g,λb d=>(hf b d).1⟩⟩;rw[Int.mul_one]
 done:=by
  intro X p l q m i c s σ H E I hf a hg;subst p l q;obtain⟨B,y,f2,x,u,r⟩:=hf it (by simp);exact wpAny_pyNext_range_end (I.ok.hd m) a (by have:n<=i:=hg;omega) λj L=>⟨rfl,I.turned (t':=s.toks) (λb o d e=>L b o d e) B y x u r⟩
 self:=λ_ _ _ _ _ a h=>wpAny_pyIter_rangeiter a h
section
variable {X:Cx}{tg:Expr}
def AS(K:KR)(tl:TE):TI:=λσ H R=>tl σ H λx H1=>∃a,x=.ref a/\(∃xs,aM K H1 a xs)/\R (By K a) H1
theorem bN{l:Expr}{tl:TE}(hl:PE X l tl):PI X tg l (AS X.K tl):=by
 intro c s σ H R I h;refine cD (hl c s σ H _ I h) λv d ⟨x,H1,g,i,j⟩=>?_;obtain⟨a,e,⟨xs,k⟩,q⟩:=j;subst e;cases i;obtain⟨its,rv,p,hz⟩:=g.list k;refine wpAny_pyIter_list p.isList ?_;refine⟨d.heap.objs.size,[d.heap.objs.size],_,_,H1,rfl,g.kept (t':=d.toks) λb o e=>JV _ e,y3 a _,⟨_,J1 _ rfl,rfl,rfl⟩,λb m=>?_,q⟩;have e:b=d.heap.objs.size:=by simpa using m
 subst e;exact g.fpOk (Kg _) (g.hok.fresh (Kg _))
theorem tY{pins:KS}{σ:St}{H:Hp}{s:KW}{R:It->Hp->Prop}{E:KQ}{lo hi:Int}{t u v:Tok}{tk:Nat}(I:Inv X pins σ H s)(h1:-(2 ^ 62)<=lo)(h2:lo<2 ^ 62)(h3:-(2 ^ 62)<=hi)(h4:hi<2 ^ 62)
  (q:R (wo lo (hi-lo).toNat) H):wpAny (model X.prog X.w) X.A (pyIter (.ref s.heap.objs.size)) (G4 X pins σ tg R) E {s with heap:=s.heap.push {cls:=.type "range",data:=.fields #[.int lo t,.int hi u,.int 1 v]},toks:=tk}:=by
 refine wpAny_pyIter_range (IsRange.new ..) (small_one h1 h2 h3 h4) ?_;have a:Inv X pins σ H {s with heap:=s.heap.push {cls:=.type "range",data:=.fields #[.int lo t,.int hi u,.int 1 v]},toks:=tk}:=I.kept λb o e=>JV _ e;refine⟨(s.heap.push {cls:=.type "range",data:=.fields #[.int lo t,.int hi u,.int 1 v]}).objs.size,[(s.heap.push {cls:=.type "range",data:=.fields #[.int lo t,.int hi u,.int 1 v]}).objs.size],_,_,H,rfl,
  a.kept (t':=tk) λb o e=>JV _ e,wJ _ lo (hi-lo).toNat,?_,λb c=>?_,q⟩
 ·have g:lo+((0:Nat):Int)*1=lo:=by simp
  have d:(((hi-lo).toNat:Nat):Int)-((0:Nat):Int)=Builtin.Range.rangeSize lo hi 1:=by rw[rangeSize_one];split<;>omega
  show IsRangeIter _ _ (lo+((0:Nat):Int)*1) ((((hi-lo).toNat:Nat):Int)-((0:Nat):Int)) 1;rw[g,d];exact J1 _ rfl
 ·have e:b=(s.heap.push {cls:=.type "range",data:=.fields #[.int lo t,.int hi u,.int 1 v]}).objs.size:=by simpa using c
  subst e;exact a.fpOk (Kg _) (a.hok.fresh (Kg _))
def Bg(ta:TA):TI:=λσ H R=>ta σ H λvs H1=>∃j:Int,vs=[.int j]/\-(2 ^ 62)<=j/\j<2 ^ 62/\R (wo 0 j.toNat) H1
def Bd(ta:TA):TI:=λσ H R=>ta σ H λvs H1=>∃i j:Int,vs=[.int i,.int j]/\(-(2 ^ 62)<=i/\i<2 ^ 62/\-(2 ^ 62)<=j/\j<2 ^ 62)/\R (wo i (j-i).toNat) H1
theorem bH{a:Expr}{ta:TA}{p pos:Pos}(hg:Gl X "range")(hm:X.mg "range"=none)(ha:PA X [a] ta)(hs:autoParam (starEach [a] X.env=[(false,eval a X.env)]) zz0._auto_1):PI X tg (.Call (.Name "range" p) [a] [] pos) (Bg ta):=by
 intro b s σ H R I h;refine Call_ (eS I hg hm boot_range (PyProof.Rows.callWith_type1 (cD (ha pos b s σ H _ I h) λus s1 ⟨vs,H1,i,d,c⟩=>?_) hs rfl));obtain⟨j,e,c,g,q⟩:=c;subst e;cases d with
 |cons r rr=>
  cases rr;obtain⟨t,rfl⟩:=r;exact call_range_1 (tY i ⋯ ⋯ c g (by simpa using q))
theorem gQ{a b:Expr}{ta:TA}{p pos:Pos}(hg:Gl X "range")(hm:X.mg "range"=none)(ha:PA X [a,b] ta)(hs:autoParam (starEach [a,b] X.env=[(false,eval a X.env),(false,eval b X.env)]) zz0._auto_1)(hs2:autoParam (starEach [b] X.env=[(false,eval b X.env)]) zz0._auto_1) :
  PI X tg (.Call (.Name "range" p) [a,b] [] pos) (Bd ta):=by
 intro c s σ H R I h;refine Call_ (eS I hg hm boot_range (PyProof.Rows.callWith_type1 (cD (ha pos c s σ H _ I h) λus s1 ⟨vs,H1,n,g,d⟩=>?_) (by rw[hs,hs2]) (by rw[hs2];rfl)));obtain⟨i,j,e,⟨d,m,l,k⟩,q⟩:=d;subst e;cases g with
 |cons r rr=>
  cases rr with
  |cons r' rr=>
   cases rr;obtain⟨t,rfl⟩:=r;obtain⟨t',rfl⟩:=r';exact call_range_2 (tY n d m l k q)
def GU(wi:TI)(g:TG)(tb:TS):TS:=λD σ H=>wi σ H λJ H1=>∃W:Nat->Nat->St->Hp->Prop,(∃m,W 0 m σ H1)/\∀i m σ H,W i m σ H ->
 (J.stop i H/\D.nx σ H)\/(J.go i H/\∃N:St->Hp->Prop,(∀σ' H',N σ' H'->∃m',m'<m/\W (i+1) m' σ' H')/\∀x H',J.yld i H x H'->g x σ H' λσ2 H2=>tb {D with nx:=N,ct:=N,bk:=D.nx} σ2 H2)
def oo(fp:KZ)(h:Heap):List (Addr×Obj):=fp.filterMap λb=>(h.get? b).map λo=>(b,o)
theorem im{fp:KZ}{h:Heap}{b:Addr}{o:Obj}(hb:b∈fp)(e:h.get? b=some o):(b,o)∈oo fp h:=List.mem_filterMap.mpr ⟨b,hb,by rw[e];rfl⟩
theorem zu{fp:KZ}{h:Heap}{p:Addr×Obj}(hp:p∈oo fp h):p.1∈fp/\h.get? p.1=some p.2:=by
 obtain⟨b,a,e⟩:=List.mem_filterMap.mp hp;cases q:h.get? b with
 |none=>rw[q]at e;cases e
 |some o=>
  rw[q]at e;have c:(b,o)=p:=q0S e;subst c;exact⟨a,q⟩
theorem Inv.pinned{pins:KS}{σ:St}{H:Hp}{s:KW}{fp:KZ}(I:Inv X pins σ H s)(hf:∀b∈fp,mw X pins H b)(ho:∀b∈fp,∃o,s.heap.get? b=some o/\∀v,o.data≠.cell v):Inv X (pins++oo fp s.heap) σ H s:=
 I.pins_of λp hp=>(J8.mp hp).elim (λz=>I.pin p (q0C _ z)) λz=>by
  obtain⟨hb,e⟩:=zu z;obtain⟨f0,f1,f2,_⟩:=hf p.1 hb;obtain⟨o,e',d⟩:=ho p.1 hb;rw[e]at e';cases e'
  exact⟨e,f0,f1,f2,d⟩
theorem Inv.unpinned{pins pl:KS}{σ:St}{H:Hp}{s:KW}(I:Inv X (pins++pl) σ H s):Inv X pins σ H s:=I.pins_of λp hp=>I.pin p (q0C _ (q0D _ hp))
theorem EN{iter:Expr}{body:List Stmt}{wi:TI}{g:TG}{tb:TS}{pos:Pos}(hp:PassesOwn (model X.prog X.w) X.A X.env X.xe)(hc:X.calm=true)(hi:PI X tg iter wi)(hg:PG X tg g)(hb:vB X body tb)
  (hs:autoParam (∀x,foldedSetIterable iter X.env x=pure x) zz4._auto_1):PS X (.For tg iter body [] pos) (GU wi g tb):=by
 intro a s σ H D I h;refine wpAny_For (cD (hi a s σ H _ I h) λv s1 h1=>cD h1 λitv s2 h2=>?_) hs;obtain⟨it,C,S,J,H2,e,I2,T,L,f2,W,⟨m0,w0⟩,turn⟩:=h2;subst e
 -- what stays true of the iterator's objects through the loop
 have c:∀{H':Hp},(∀b∈C,H' b=none)->∀b∈C,mw X a H' b:=λhn b hb=>⟨hn b hb,(f2 b hb).2⟩;refine codeAny_forLoop_any (λn Z=>∃i σ' H',Inv X a σ' H' Z/\S i Z.heap/\(∀b∈C,H' b=none)/\W i n σ' H') ?_ m0 ⟨0,σ,H2,I2,L,λb hb=>(f2 b hb).1,w0⟩;rintro n Y ⟨i,σ3,G,I3,y,B,w3⟩;rcases turn i n σ3 G w3 with⟨w,qn⟩ | ⟨go,N,hN,step⟩
 ·refine wpAny_passesOwn hp (cD (T.done X rfl rfl rfl hc i a Y σ3 G X.xe I3 (c B) y w) λr s4 ⟨hr,I4⟩=>?_)
  subst hr;exact wpAny_execs_nil ⟨σ3,G,I4,qn⟩
 ·refine wpAny_passesOwn hp (cD (T.item X rfl rfl rfl hc i a Y σ3 G X.xe I3 (c B) y go) λr s4 ⟨u,hr,h4⟩=>?_)
  subst hr;refine wpAny_passesOwn hp (cD h4 λ_ U ⟨x,H5,I5,r5,y5,q,O⟩=>?_);have R:=I5.pinned (c O) (T.obj _ _ q);refine wpAny_passesOwn hp (cD (hg _ U σ3 H5 x u _ R r5 (step x H5 y5)) λ_ s6 ⟨σ6,H6,I6,q6⟩=>?_);refine wpAny_passesOwn hp (cD (hb _ s6 σ6 H6 _ I6 q6) λf M p=>?_);have j:∀{σ7:St} {l:Hp},Inv X (a++oo C U.heap) σ7 l M->N σ7 l->∃m,m<n/\∃i σ' H',Inv X a σ' H' M/\S i M.heap/\(∀b∈C,H' b=none)/\W i m σ' H':=fun{σ7 l} k z=>by
   obtain⟨m',hm,w7⟩:=hN σ7 l z;refine⟨m',hm,i+1,σ7,l,k.unpinned,T.keep _ _ _ q λb hb o e=>(k.pin (b,o) (q0C _ (q0C _ (im hb e)))).1,λb hb=>?_,w7⟩;obtain⟨o,e,d⟩:=T.obj _ _ q b hb;exact(k.pin (b,o) (q0C _ (q0C _ (im hb e)))).2.1
  cases f with
  |next=>obtain⟨σ7,l,k,z⟩:=p;exact j k z
  |cont=>obtain⟨σ7,l,k,z⟩:=p;exact j k z
  |brk=>obtain⟨σ7,l,k,p⟩:=p;exact⟨σ7,l,k.unpinned,p⟩
  |ret v=>obtain⟨x7,σ7,l,k,r7,p⟩:=p;exact⟨x7,σ7,l,k.unpinned,r7,p⟩
end
theorem zP{K:KR}{a:Addr}{xs:List V}{g:TG}{tb:TS}{D:gu}{σ:St}{H:Hp}(Pv:Nat->St->Hp->Prop)(h0:Pv 0 σ H)(hl:∀i σ H,i<=xs.length->Pv i σ H->aM K H a xs)
  (hs:∀i x σ H,xs[i]?=some x->Pv i σ H->g x σ H λσ2 H2=>tb {D with nx:=Pv (i+1),ct:=Pv (i+1),bk:=D.nx} σ2 H2) (hd:∀σ H,Pv xs.length σ H->D.nx σ H) :
  ∃W:Nat->Nat->St->Hp->Prop,(∃m,W 0 m σ H)/\∀i m σ H,W i m σ H ->
   ((By K a).stop i H/\D.nx σ H)\/((By K a).go i H/\∃N:St->Hp->Prop,(∀σ' H',N σ' H'->∃m',m'<m/\W (i+1) m' σ' H')/\∀x H',(By K a).yld i H x H'->g x σ H' λσ2 H2=>tb {D with nx:=N,ct:=N,bk:=D.nx} σ2 H2):=by
 refine⟨λi m σ H=>m=xs.length-i/\i<=xs.length/\Pv i σ H,⟨xs.length,by simp,Kh _,h0⟩,?_⟩;rintro i m σ H ⟨rfl,c,p⟩;have q:=hl i σ H c p
 by_cases b:i<xs.length
 ·refine .inr ⟨⟨xs,xs[i],q,by simp[b]⟩,Pv (i+1),λσ' H' p'=>⟨xs.length-(i+1),⋯,rfl,b,p'⟩,λx H' y=>?_⟩
  obtain⟨e,y⟩:=y;subst e;exact hs i x σ _ (y xs q) p
 ·have e:i=xs.length:=by omega
  subst e;exact .inl ⟨⟨xs,q,Kg _⟩,hd σ H p⟩
theorem yv{lo:Int}{n:Nat}{g:TG}{tb:TS}{D:gu}{σ:St}{H:Hp}(Pv:Nat->St->Hp->Prop)(h0:Pv 0 σ H)
  (hs:∀i σ H,i<n->Pv i σ H->g (.int (lo+i)) σ H λσ2 H2=>tb {D with nx:=Pv (i+1),ct:=Pv (i+1),bk:=D.nx} σ2 H2) (hd:∀σ H,Pv n σ H->D.nx σ H) :
  ∃W:Nat->Nat->St->Hp->Prop,(∃m,W 0 m σ H)/\∀i m σ H,W i m σ H ->
   ((wo lo n).stop i H/\D.nx σ H)\/((wo lo n).go i H/\∃N:St->Hp->Prop,(∀σ' H',N σ' H'->∃m',m'<m/\W (i+1) m' σ' H')/\∀x H',(wo lo n).yld i H x H'->g x σ H' λσ2 H2=>tb {D with nx:=N,ct:=N,bk:=D.nx} σ2 H2):=by
 refine⟨λi m σ H=>m=n-i/\i<=n/\Pv i σ H,⟨n,by simp,Kh _,h0⟩,?_⟩;rintro i m σ H ⟨rfl,hi,p⟩
 by_cases a:i<n
 ·refine .inr ⟨a,Pv (i+1),λσ' H' p'=>⟨n-(i+1),⋯,rfl,a,p'⟩,λx H' y=>?_⟩
  obtain⟨e,y⟩:=y;subst e y;exact hs i σ _ a p
 ·have e:i=n:=by omega
  subst e;exact .inl ⟨Kg _,hd σ H p⟩
abbrev R2:=V->V->Hp->VK->Prop
def bd(X:Cx)(f:Value->Value->Sem Value)(r:R2):Prop:=
 ∀(pins:KS) (s:KW) (σ:St) (H:Hp) (x y:V) (v u:Value) (Q:VK),Inv X pins σ H s->bK x v->bK y u->r x y H Q ->
  wpAny (model X.prog X.w) X.A (f v u) (EP X pins σ Q) X.xe s
def eR(X:Cx)(f:Value)(r:List V->Hp->VK->Prop):Prop:=
 ∀(pins:KS) (s:KW) (σ:St) (H:Hp) (xs:List V) (us:KY) (Q:VK),Inv X pins σ H s->bv xs us->r xs H Q ->
  wpAny (model X.prog X.w) X.A (call f us) (EP X pins σ Q) X.xe s
def Cd(r:R2)(ta tb:TE):TE:=λσ H Q=>ta σ H λx H1=>tb σ H1 λy H2=>r x y H2 Q
def rI(C:Int->Int->Prop)(g:Int->Int->V):R2:=λx y H Q=>∃i j,x=.int i/\y=.int j/\C i j/\Q (g i j) H
def yM(g:Int->Int->V):R2:=λx y H Q=>∃i j,x=.int i/\y=.int j/\Q (g i j) H
section
variable {X:Cx}{a b c:Expr}{ta tb tc:TE}{pos:Pos}
theorem EZ(ha:PE X a ta)(hb:PE X b tb){pins:KS}{s:KW}{σ:St}{H:Hp}{R:V->V->Hp->Prop}(I:Inv X pins σ H s)
  (h:ta σ H λx H1=>tb σ H1 λy H2=>R x y H2) {Q:KQ} {f:Value->Value->Sem Value}
  (hf:∀v u s2 x y H2,Inv X pins σ H2 s2->bK x v->bK y u->R x y H2->wpAny (model X.prog X.w) X.A (f v u) Q X.xe s2) :
  wpAny (model X.prog X.w) X.A (eval a X.env) (λv s₁=>wpAny (model X.prog X.w) X.A (eval b X.env) (λu s₂=>wpAny (model X.prog X.w) X.A (f v u) Q X.xe s₂) X.xe s₁) X.xe s:=by
 refine cD (ha pins s σ H _ I h) λv c ⟨x,H1,k,e,i⟩=>?_;refine cD (hb pins c σ H1 _ k i) λu s2 ⟨y,H2,j,d,g⟩=>?_;exact hf v u s2 x y H2 j e d g
theorem au{op:Operator}{r:R2}(ho:bd X (binaryOp op) r)(ha:PE X a ta)(hb:PE X b tb):PE X (.BinOp a op b pos) (Cd r ta tb):=by
 intro c s σ H Q I h;exact wpAny_BinOp (EZ ha hb I h λv u d x y H2 i g e q=>ho c d σ H2 x y v u Q i g e q)
theorem Gv{f:Value->Value->Sem Value}{C:Int->Int->Prop}{g:Int->Int->Int}
  (rule:∀(i j:Int) (t u:Tok) (s:KW) (Q:KQ) (E:KQ),C i j->Q (.int (g i j) s.toks) {s with toks:=s.toks+1}->wpAny (model X.prog X.w) X.A (f (.int i t) (.int j u)) Q E s) :
  bd X f (rI C λi j=>.int (g i j)):=by
 intro pins s σ H x y v u Q I rx ry h;obtain⟨i,j,rfl,rfl,b,q⟩:=h;obtain⟨t,rfl⟩:=rx;obtain⟨a,rfl⟩:=ry;exact rule i j t a s _ _ b ⟨.int (g i j),H,I.tok _,⟨_,rfl⟩,q⟩
theorem Fk{f:Value->Value->Sem Value}{g:Int->Int->Int}
  (rule:∀(i j:Int) (t u:Tok) (s:KW) (Q:KQ) (E:KQ),Q (.int (g i j) s.toks) {s with toks:=s.toks+1}->wpAny (model X.prog X.w) X.A (f (.int i t) (.int j u)) Q E s) :
  bd X f (yM λi j=>.int (g i j)):=by
 intro pins s σ H x y v u Q I rx ry h;obtain⟨i,j,rfl,rfl,q⟩:=h;obtain⟨t,rfl⟩:=rx;obtain⟨a,rfl⟩:=ry;exact rule i j t a s _ _ ⟨.int (g i j),H,I.tok _,⟨_,rfl⟩,q⟩
theorem C_{f:Value->Value->Sem Value}{g:Int->Int->Bool}
  (rule:∀(i j:Int) (t u:Tok) (s:KW) (Q:KQ) (E:KQ),Q (.bool (g i j)) s->wpAny (model X.prog X.w) X.A (f (.int i t) (.int j u)) Q E s) :
  bd X f (yM λi j=>.bl (g i j)):=by
 intro pins s σ H x y v u Q I rx ry h;obtain⟨i,j,rfl,rfl,q⟩:=h;obtain⟨t,rfl⟩:=rx;obtain⟨a,rfl⟩:=ry;exact rule i j t a s _ _ ⟨.bl (g i j),H,I,rfl,q⟩
def AH(i j:Int):Prop:=(-(2 ^ 64)<i/\i<2 ^ 64)\/(-(2 ^ 64)<j/\j<2 ^ 64)
theorem AH.ok{i j:Int}(h:AH i j):IntMulOk i j:=by
 rcases h with⟨h1,h2⟩ | ⟨h1,h2⟩
 ·exact .of_left (intBits_le_64 h1 h2)
 ·exact .of_right (intBits_le_64 h1 h2)
theorem br:bd X (binaryOp .Add) (yM λi j=>.int (i+j)):=Fk λ_ _ _ _ _ _ _ q=>add_int q
theorem ii:bd X (binaryOp .Sub) (yM λi j=>.int (i-j)):=Fk λ_ _ _ _ _ _ _ q=>sub_int q
theorem eZ:bd X (binaryOp .Mult) (rI AH λi j=>.int (i*j)):=Gv λ_ _ _ _ _ _ _ hc q=>mul_int q hc.ok
theorem aR:bd X (binaryOp .Mod) (rI (λ_ j=>0<j) λi j=>.int (i%j)):=Gv λi j _ _ _ _ _ hc q=>by
 have h1:(0:Int)<j:=hc;exact mod_int' ⋯ (by rw[Int.fmod_eq_emod_of_nonneg i ⋯];exact q)
end
def AO:V->V->Bool
 | .non,.non=>true | .non,.int _=>true | .int _,.non=>true | .non,.bl _=>true | .bl _,.non=>true | .non,.str _=>true | .str _,.non=>true
 | .int _,.int _=>true | .bl _,.bl _=>true | .str _,.str _=>true | .byt _,.byt _=>true
 | .int _,.str _=>true | .str _,.int _=>true | .bl _,.str _=>true | .str _,.bl _=>true
 |_,_=>false
def Gn:R2:=λx y H Q=>AO x y=true/\Q (.bl (decide (x=y))) H
def GL:R2:=λx y H Q=>AO x y=true/\Q (.bl (!decide (x=y))) H
theorem xH{i j:Int}:decide (V.int i=V.int j)=(i==j):=by
 rw[Bool.eq_iff_iff];simp
theorem Aj{i j:Bool}:decide (V.bl i=V.bl j)=(i==j):=by
 rw[Bool.eq_iff_iff];simp
theorem xA{i j:Str}:decide (V.str i=V.str j)=(i==j):=by
 rw[Bool.eq_iff_iff];simp
theorem xK{i j:Array UInt8}:decide (V.byt i=V.byt j)=(i.toList==j.toList):=by
 rw[Bool.eq_iff_iff];cases i;cases j;simp
section
variable {X:Cx}{a b c:Expr}{ta tb tc:TE}{pos:Pos}
theorem bR{pins:KS}{σ:St}{H:Hp}{s:KW}{Q:VK}{k k':Bool}(I:Inv X pins σ H s)(q:Q (.bl k) H)(e:k=k'):EP X pins σ Q (.bool k') s:=by
 subst e;exact⟨.bl k,H,I,rfl,q⟩
theorem dQ:bd X (compareOp .Eq) Gn:=by
 intro pins s σ H x y v u Q I rx ry h;obtain⟨b,q⟩:=h;cases x with
 |non=>
  cases rx;cases y with
  |non=>cases ry;exact PySem.EqNone.eq_none_none (bR I q (by simp))
  |bl j=>cases ry;exact PySem.EqNone.eq_none_bool (bR I q (by simp))
  |int j=>obtain⟨a,rfl⟩:=ry;exact PySem.EqNone.eq_none_int (bR I q (by simp))
  |str j=>obtain⟨a,rfl⟩:=ry;exact PySem.EqNone.eq_none_str (bR I q (by simp))
  |_=>exact q0Q (show false=true from b) Ki
 |bl i=>
  cases rx;cases y with
  |non=>cases ry;exact PySem.EqNone.eq_bool_none (bR I q (by simp))
  |bl j=>cases ry;exact eq_bool (bR I q Aj)
  |str j=>obtain⟨a,rfl⟩:=ry;exact PySem.EqMixed.eq_bool_str (bR I q (by simp))
  |_=>exact q0Q (show false=true from b) Ki
 |int i=>
  obtain⟨t,rfl⟩:=rx;cases y with
  |non=>cases ry;exact PySem.EqNone.eq_int_none (bR I q (by simp))
  |int j=>obtain⟨a,rfl⟩:=ry;exact eq_int (bR I q xH)
  |str j=>obtain⟨a,rfl⟩:=ry;exact PySem.EqMixed.eq_int_str (bR I q (by simp))
  |_=>exact q0Q (show false=true from b) Ki
 |str i=>
  obtain⟨t,rfl⟩:=rx;cases y with
  |non=>cases ry;exact PySem.EqNone.eq_str_none (bR I q (by simp))
  |bl j=>cases ry;exact PySem.EqMixed.eq_str_bool (bR I q (by simp))
  |int j=>obtain⟨a,rfl⟩:=ry;exact PySem.EqMixed.eq_str_int (bR I q (by simp))
  |str j=>obtain⟨a,rfl⟩:=ry;exact eq_str (bR I q xA)
  |_=>exact q0Q (show false=true from b) Ki
 |byt i=>
  obtain⟨t,rfl⟩:=rx;cases y with
  |byt j=>obtain⟨a,rfl⟩:=ry;exact PySem.W.eq_bytes (bR I q xK)
  |_=>exact q0Q (show false=true from b) Ki
 |_=>cases y<;>exact q0Q (show false=true from b) Ki
theorem DK:bd X (compareOp .NotEq) GL:=by
 intro pins s σ H x y v u Q I rx ry h;obtain⟨b,q⟩:=h;cases x with
 |non=>
  cases rx;cases y with
  |non=>cases ry;exact PySem.EqNone.ne_none_none (bR I q (by simp))
  |bl j=>cases ry;exact PySem.EqNone.ne_none_bool (bR I q (by simp))
  |int j=>obtain⟨a,rfl⟩:=ry;exact PySem.EqNone.ne_none_int (bR I q (by simp))
  |str j=>obtain⟨a,rfl⟩:=ry;exact PySem.EqNone.ne_none_str (bR I q (by simp))
  |_=>exact q0Q (show false=true from b) Ki
 |bl i=>
  cases rx;cases y with
  |non=>cases ry;exact PySem.EqNone.ne_bool_none (bR I q (by simp))
  |bl j=>cases ry;exact ne_bool (bR I q (q0R not Aj))
  |str j=>obtain⟨a,rfl⟩:=ry;exact PySem.EqMixed.ne_bool_str (bR I q (by simp))
  |_=>exact q0Q (show false=true from b) Ki
 |int i=>
  obtain⟨t,rfl⟩:=rx;cases y with
  |non=>cases ry;exact PySem.EqNone.ne_int_none (bR I q (by simp))
  |int j=>obtain⟨a,rfl⟩:=ry;exact ne_int (bR I q (q0R not xH))
  |str j=>obtain⟨a,rfl⟩:=ry;exact PySem.EqMixed.ne_int_str (bR I q (by simp))
  |_=>exact q0Q (show false=true from b) Ki
 |str i=>
  obtain⟨t,rfl⟩:=rx;cases y with
  |non=>cases ry;exact PySem.EqNone.ne_str_none (bR I q (by simp))
  |bl j=>cases ry;exact PySem.EqMixed.ne_str_bool (bR I q (by simp))
  |int j=>obtain⟨a,rfl⟩:=ry;exact PySem.EqMixed.ne_str_int (bR I q (by simp))
  |str j=>obtain⟨a,rfl⟩:=ry;exact ne_str (bR I q (q0R not xA))
  |_=>exact q0Q (show false=true from b) Ki
 |byt i=>
  obtain⟨t,rfl⟩:=rx;cases y with
  |byt j=>obtain⟨a,rfl⟩:=ry;exact PySem.W.ne_bytes (bR I q (q0R not xK))
  |_=>exact q0Q (show false=true from b) Ki
 |_=>cases y<;>exact q0Q (show false=true from b) Ki
theorem nr:bd X (compareOp .Lt) (yM λi j=>.bl (decide (i<j))):=C_ λ_ _ _ _ _ _ _ q=>lt_int q
theorem qp:bd X (compareOp .LtE) (yM λi j=>.bl (decide (i<=j))):=C_ λ_ _ _ _ _ _ _ q=>le_int q
theorem ol:bd X (compareOp .Gt) (yM λi j=>.bl (decide (j<i))):=C_ λ_ _ _ _ _ _ _ q=>gt_int q
theorem DZ:bd X (compareOp .GtE) (yM λi j=>.bl (decide (j<=i))):=C_ λ_ _ _ _ _ _ _ q=>ge_int q
theorem yH:bd X (compareOp .In) (λx y H Q=>∃i j,x=.str i/\y=.str j/\Q (.bl (!(Builtin.Str.occurrences j i 0 j.length 1).isEmpty)) H):=by
 intro pins s σ H x y v u Q I rx ry h;obtain⟨i,j,rfl,rfl,q⟩:=h;obtain⟨t,rfl⟩:=rx;obtain⟨t',rfl⟩:=ry;exact in_str (bR I q rfl)
theorem yb:bd X (compareOp .IsNot) (λx y H Q=>y=.non/\Q (.bl (!decide (x=.non))) H):=by
 intro pins s σ H x y v u Q I rx ry h;obtain⟨rfl,q⟩:=h;cases ry;refine isnot_none_gen (bR I q ?_);cases x<;>first
  | (cases rx;rfl)
  | (obtain⟨t,rfl⟩:=rx;rfl)
theorem rQ:bd X (compareOp .NotIn) (λx y H Q=>∃i j,x=.str i/\y=.str j/\Q (.bl (!(!(Builtin.Str.occurrences j i 0 j.length 1).isEmpty))) H):=by
 intro pins s σ H x y v u Q I rx ry h;obtain⟨i,j,rfl,rfl,q⟩:=h;obtain⟨t,rfl⟩:=rx;obtain⟨t',rfl⟩:=ry;exact notIn_str (bR I q rfl)
theorem bf(b:Expr){op:CmpOp}(h:autoParam (op≠.In) zz1._auto_1)(h2:autoParam (op≠.NotIn) zz1._auto_1):behindInMarks op b=false:=by
 have c:(op==CmpOp.In)=false:=by cases op<;>first | rfl | exact q0Q rfl h
 have a:(op==CmpOp.NotIn)=false:=by cases op<;>first | rfl | exact q0Q rfl h2
 cases b<;>simp[behindInMarks,c,a]
theorem rG{op:CmpOp}{r:R2}(ho:bd X (compareOp op) r)(ha:PE X a ta)(hb:PE X b tb)(hm:behindInMarks op b=false):PE X (.Compare a [op] [b] pos) (Cd r ta tb):=by
 intro c s σ H Q I h;exact wpAny_Compare1 (EZ ha hb I h λv u d x y H2 i g e q=>ho c d σ H2 x y v u Q i g e q) hm
def xZ(t:TE):TT:=λσ H Q=>t σ H λx H'=>∃k,x=.bl k/\Q k H'
theorem aT{op:CmpOp}{r:R2}(ho:bd X (compareOp op) r)(ha:PE X a ta)(hb:PE X b tb)(hm:behindInMarks op b=false):PT X (.Compare a [op] [b] pos) (xZ (Cd r ta tb)):=by
 intro d s σ H Q I h;refine wpAny_isTrue_Compare1 (cD (ha d s σ H _ I h) λv i ⟨x,H1,B,m,p⟩=>cD (hb d i σ H1 _ B p) λu g ⟨y,H2,w,l,o⟩=>
  cD (ho d g σ H2 x y v u _ w m l o) λc s3 ⟨z,C,q,j,k,e,n⟩=>?_) hm
 subst e;cases j;exact wpAny_truthy_bool ⟨C,q,n⟩
def vJ(r r':R2)(ta tb tc:TE):TE:=λσ H Q=>ta σ H λx H1=>tb σ H1 λy H2=>r x y H2 λz H3=>∃k,z=.bl k /\
 (if k=true then tc σ H3 λw' H4=>r' y w' H4 Q else Q (.bl false) H3)
theorem uh{op op':CmpOp}{r r':R2}(ho:bd X (compareOp op) r)(ho':bd X (compareOp op') r')(ha:PE X a ta)(hb:PE X b tb)(hc:PE X c tc)
  (hm:lastMarks [op,op'] [b,c]=false:=by with_unfolding_all rfl):PE X (.Compare a [op,op'] [b,c] pos) (vJ r r' ta tb tc):=by
 intro g s σ H Q I h;refine Compare_chain (cD (ha g s σ H _ I h) λv w ⟨x,H1,R,D,L⟩=>chain_link (cD (hb g w σ H1 _ R L) λu q ⟨y,H2,O,i,J⟩=>
  cD (ho g q σ H2 x y v u _ O D i J) λd p ⟨z,m,l,C,k,e,j⟩=>?_)) hm
 subst e;cases C;refine wpAny_truthy_bool ?_;cases k with
 |false=>exact ite_ff ⟨.bl false,m,l,rfl,j⟩
 |true=>exact ite_tt (chain_last (cD (hc g p σ m _ l j) λw' o ⟨n,S,M,B,G⟩=>ho' g o σ S y n u w' Q M i B G))
theorem nk:(sizeLine:Nat)<2 ^ 63:=by rw[q0W];decide
theorem dI:bd X (binaryOp .Add) (λx y H Q=>∃i j,x=.str i/\y=.str j/\i.length+j.length<=sizeLine/\Q (.str (i++j)) H):=by
 intro pins s σ H x y v u Q I rx ry h;obtain⟨i,j,rfl,rfl,b,q⟩:=h;obtain⟨t,rfl⟩:=rx;obtain⟨a,rfl⟩:=ry;exact add_str (λa tk=>⟨.str (i++j),H,I.tok _,⟨_,rfl⟩,q⟩) b
theorem lX{x:V}{us:KY}(r:bv [x] us):∃u,us=[u]/\bK x u:=by
 cases r with
 |cons r1 r2=>cases r2;exact⟨_,rfl,r1⟩
theorem FN{x y:V}{us:KY}(r:bv [x,y] us):∃u w',us=[u,w']/\bK x u/\bK y w':=by
 cases r with
 |cons r1 r2=>
  cases r2 with
  |cons r3 r4=>cases r4;exact⟨_,_,rfl,r1,r3⟩
theorem yU(hc:X.calm=true):eR X (.builtin "max") (λxs H Q=>∃i j,xs=[.int i,.int j]/\Q (.int (if j>i then j else i)) H):=by
 intro pins s σ H xs us Q I r h;obtain⟨i,j,rfl,q⟩:=h;obtain⟨u,w',rfl,⟨t,rfl⟩,⟨t',rfl⟩⟩:=FN r;refine max_two_ints (I.ok.hd hc) λh' tk k=>⟨_,H,I.kept k,?_,q⟩
 by_cases a:j>i
 ·rw[q07 a,q07 a];exact⟨_,rfl⟩
 ·rw[q06 a,q06 a];exact⟨_,rfl⟩
end
structure wt(h:Heap)(x dx C:Addr)(mA:K0):Prop where
 obj:h.get? x=some (PySem.W.instObj C dx)
 ns:h.Ns1 dx mA
 ne:dx≠x
theorem zw{h:Heap}{dx:Addr}{mA:K0}(n:h.Ns1 dx mA):∃od,h.get? dx=some od/\∀name,PySem.W.lookIn name od=some (mA name):=by
 obtain⟨o,es,ep,ho,hd,hk,_,hm⟩:=n;refine⟨o,ho,λname=>?_⟩;have e:=hm name;unfold nsFind findBy at e;rw[<- Array.find?_toList]at e;unfold PySem.W.lookIn;rw[hd];dsimp only
 split
 ·rename_i y q
  rw[q]at e;exact q0R some e
 ·rename_i q
  rw[q]at e;have a:es.toList.any (·.refKey)=false:=by
   rw[List.any_eq_false];intro y hy;obtain⟨z,t,hkey⟩:=hk y (Array.mem_toList_iff.mp hy);simp[DictEntry.refKey,hkey]
  have a':¬ es.toList.any (·.refKey)=true:=by rw[a];exact Ki
  rw[q06 a'];exact q0R some e
theorem wt.look{h:Heap}{x dx C:Addr}{mA:K0}(I:wt h x dx C mA):∃od,PySem.W.InstAt h x (PySem.W.instObj C dx) C (some od)/\∀name,PySem.W.lookIn name od=some (mA name):=
 let ⟨od,ho,hl⟩:=zw I.ns
 ⟨od,⟨I.obj,rfl,rfl,ho⟩,hl⟩
section
variable {prog:K2}{w:K5}{A:K4}{E:KQ}{s:KW}{K:KR}{x dx C f:Addr}{mA:K0}{name:Str}{v:Value}
theorem Cy{expr:Bool}{Q:KQ}(X:K.In s.heap)(I:wt s.heap x dx C mA)(hg:PySem.W.plainGet K C name=true)(hh:PySem.W.hasDictIn K C=true)
  (ha:PySem.W.findIn K (.ref C) name=some none) (hv:mA name=some v) (hv':PySem.W.handedIn v=true) (h:Q v {s with toks:=s.toks+1}) :
  wpAny (model prog w) A (getAttr (.ref x) name expr) Q E s:=by
 obtain⟨od,J,a⟩:=I.look;exact PySem.W.get_value X J (PySem.W.plainGet_of hg).1 (PySem.W.findObj_own hh ha rfl (by rw[a,hv])) hv' h
theorem Bl{pl:Sem Bool}{Q:Value×List Value->Shared->Prop}(X:K.In s.heap)(I:wt s.heap x dx C mA)(hg:PySem.W.plainGet K C name=true)
  (hf:PySem.W.findIn K (.ref C) name=some (some (.ref f))) (ht:PySem.W.isFn K (.ref f)=true) (hv:mA name=none) (h:Q (.ref f,[.ref x]) s) :
  wpAny (model prog w) A (getMethod (.ref x) name pl) Q E s:=by
 obtain⟨a,J,b⟩:=I.look;exact PySem.W.method_fn X J (PySem.W.plainGet_of hg).1 (PySem.W.plainGet_of hg).2 hf (beq_iff_eq.mp ht) (by show(PySem.W.lookIn name a).map (·.isSome)=some false;rw[b,hv];rfl) h
theorem Dj{ns:K3}{Q:Unit->Shared->Prop}(X:K.In s.heap)(I:wt s.heap x dx C mA)
  (hs:PySem.W.findIn K (.ref C) "__setattr__"=some (some (.builtin "object.__setattr__"))) (hp:PySem.W.plainOver K C=true) (ht:PySem.W.takerIn K C name=some none) (hh:PySem.W.hasDictIn K C=true)
  (hw:PySem.Within mA ns) (hsz:ns.length<=sizeLine)
  (h:∀h',wt h' x dx C (λy=>if y=name then some v else mA y)->Heap.SameBut dx s.heap h'->Q () {s with heap:=h',toks:=s.toks+2}) :
  wpAny (model prog w) A (setAttr (.ref x) name v) Q E s:=by
 obtain⟨od,J,hl⟩:=I.look;refine PySem.W.set_plain X J hs (PySem.W.osa_open (s:={s with toks:=s.toks+1}) (r:=none) X J hp ht λb=>?_);obtain⟨cd,l,i⟩:=PySem.W.any_some hh;have k:s.heap.get? x=some ⟨.ref C,some dx,.plain,#[]⟩:=I.obj;refine q04 (q05 (q04 (q04 (wpAny_loadPart k (q04 (PySem.W.Looks.here (s:={s with toks:=s.toks+1}) (PySem.W.looks_clsIn X l) ?_))))));rw[i];refine q05 (a:=some dx) (q04 (q05 (q04 ?_)));refine wpAny_nsSet1 (s:={s with toks:=s.toks+1}) I.ns λh' d c=>?_;obtain⟨oD,esD,epD,e,g,j⟩:=d.count (PySem.Within.cons name v hw);refine q04 (wpAny_lookBehind e (by rw[g];exact pastItsLine_dict (Kn j (by rw[J6];omega))) ?_);exact q05 (h _ ⟨(c.2 _ (Ne.symm I.ne)).trans I.obj,d,I.ne⟩ c)
theorem AE{R:Result->Shared->Prop}{vs:KY}{kw:List (Str×Value)}(X:K.In s.heap)(hm:PySem.W.makesIn K C=true)
  (hi:PySem.W.findIn K (.ref C) "__init__"=some (some (.ref f))) (hf:PySem.W.typeIn K (.ref f)=some (.type "function"))
  (h:codeAny (model prog w) (A.under (.builtin "type.__call__" ⟨.ref C::vs,kw⟩)) (.call (.ref f) ⟨.ref (s.heap.objs.size+1)::vs,kw⟩) (PySem.W.InitBack (s.heap.objs.size+1) R)
   {s with heap:=(s.heap.push PySem.W.emptyDict).push (PySem.W.instObj C s.heap.objs.size)}) :
  codeAny (model prog w) A (.call (.ref C) ⟨vs,kw⟩) R s:=by
 obtain⟨hh,g,d,t,os⟩:=s;exact PySem.W.make_core (PySem.W.makes_of X hm) (PySem.W.looks_findIn X hi) (λself=>PySem.W.bind_fn X self hf) (.inl rfl) h
end
def cO(f:Str)(v:V):List (Str×V)->List (Str×V)
 | []=>[(f,v)]
 | (g,x)::r=>if g=f then(g,v)::r else(g,x)::cO f v r
theorem mf(f g:Str)(v:V):∀fs:List (Str×V),(cO f v fs).lookup g=if g=f then some v else fs.lookup g
 | []=>by
  show List.lookup g [(f,v)]=_
  by_cases h:g=f
  ·have hb:(g==f)=true:=beq_iff_eq.mpr h
   simp only[List.lookup,hb,q07 h]
  ·have hb:(g==f)=false:=beq_eq_false_iff_ne.mpr h
   simp only[List.lookup,hb,q06 h]
 | (k,x)::r=>by
  have ih:=mf f g v r;rw[show cO f v ((k,x)::r)=(if k=f then(k,v)::r else(k,x)::cO f v r) from rfl]
  by_cases hk:k=f
  ·rw[q07 hk]
   by_cases h:g=k
   ·have hb:(g==k)=true:=beq_iff_eq.mpr h
    simp only[List.lookup,hb,q07 (h.trans hk)]
   ·have hb:(g==k)=false:=beq_eq_false_iff_ne.mpr h
    simp only[List.lookup,hb,q06 (λe:g=f=>h (e.trans hk.symm))]
  ·rw[q06 hk]
   by_cases h:g=k
   ·have hb:(g==k)=true:=beq_iff_eq.mpr h
    simp only[List.lookup,hb,q06 (λe:g=f=>hk (h.symm.trans e))]
   ·have hb:(g==k)=false:=beq_eq_false_iff_ne.mpr h
    simp only[List.lookup,hb];exact ih
theorem lR(f:Str)(v:V):∀fs:List (Str×V),f∈(cO f v fs).map (·.1)/\∀g,g∈fs.map (·.1)->g∈(cO f v fs).map (·.1)
 | []=>⟨by simp[cO],λg h=>by simp at h⟩
 | (k,x)::r=>by
  obtain⟨i1,i2⟩:=lR f v r;rw[show cO f v ((k,x)::r)=(if k=f then(k,v)::r else(k,x)::cO f v r) from rfl]
  by_cases hk:k=f
  ·rw[q07 hk]
   subst hk;exact⟨by simp,λg h=>by simpa using h⟩
  ·rw[q06 hk]
   refine⟨?_,λg h=>?_⟩
   ·rw[Km]
    exact J' _ i1
   ·rw[Km]at h ⊢
    rcases J_.mp h with e | e
    ·exact J_.mpr (.inl e)
    ·exact J' _ (i2 g e)
theorem di(f:Str)(v:V):∀fs:List (Str×V),(cO f v fs).length<=fs.length+1
 | []=>by simp[cO]
 | (k,x)::r=>by
  have ih:=di f v r;rw[show cO f v ((k,x)::r)=(if k=f then(k,v)::r else(k,x)::cO f v r) from rfl]
  by_cases hk:k=f
  ·rw[q07 hk,J6,J6];omega
  ·rw[q06 hk,J6,J6];omega
theorem jc.some_of{v:V}{o:Option Value}(r:jc (some v) o):∃u,o=some u/\bK v u:=by
 cases o with
 |none=>exact(show False from r).elim
 |some u=>exact⟨u,rfl,r⟩
theorem jc.none_of{o:Option Value}(r:jc none o):o=none:=by
 cases o with
 |none=>rfl
 |some u=>exact(show False from r).elim
theorem yj{v:V}{u:Value}(r:bK v u):PySem.W.handedIn u=true:=by
 cases v with
 |non=>cases(show u=Value.none from r);rfl
 |bl b=>cases(show u=Value.bool b from r);rfl
 |int i=>obtain⟨t,e⟩:=(show ∃t,u=Value.int i t from r);cases e;rfl
 |str x=>obtain⟨t,e⟩:=(show ∃t,u=Value.str x t from r);cases e;rfl
 |byt b=>obtain⟨t,e⟩:=(show ∃t,u=Value.bytes b t from r);cases e;rfl
 |flt b=>obtain⟨t,e⟩:=(show ∃t,u=Value.float b t from r);cases e;rfl
 |ref a=>cases(show u=Value.ref a from r);rfl
 |ty n=>cases(show u=Value.type n from r);rfl
section
variable {P:K2}{w:K5}{H H':Hp}{h h':Heap}{a C dx:Addr}{fs fs':List (Str×V)}
theorem mY(hok:jf P w H h)(e:H a=some (.ins C dx fs)):∃mA,wt h a dx C mA/\(∀f,jc (fs.lookup f) (mA f))/\PySem.Within mA (fs.map (·.1))/\fs.length<=1000/\H dx=some (.own a):=by
 obtain⟨d,z,c,b,mA,n,r,q⟩:=(show ci P w H h a (.ins C dx fs) from hok a _ e);exact⟨mA,⟨b,n,c⟩,r,q,z,d⟩
end
structure jx(K:KR)(C:Addr):Prop where
 pg:PySem.W.plainGet K C Str.empty=true
 hd:PySem.W.hasDictIn K C=true
 po:PySem.W.plainOver K C=true
 sa:PySem.W.findIn K (.ref C) "__setattr__"=some (some (.builtin "object.__setattr__"))
theorem jx.get{K:KR}{C:Addr}(c:jx K C)(f:Str):PySem.W.plainGet K C f=true:=c.pg
def aI(K:KR)(C:Addr)(f:Str):Prop:=PySem.W.findIn K (.ref C) f=some none
theorem aI.taker{K:KR}{C:Addr}{f:Str}(n:aI K C f):PySem.W.takerIn K C f=some none:=by
 unfold PySem.W.takerIn;rw[show PySem.W.findIn K (.ref C) f=some none from n]
 rfl
structure iM(K:KR)(C:Addr)(m:Str)(f:Addr):Prop where
 at_:PySem.W.findIn K (.ref C) m=some (some (.ref f))
 fn:PySem.W.isFn K (.ref f)=true
 kp:PySem.W.keepIn K (.ref f)=true
section
variable {X:Cx}{pins:KS}{σ:St}{H:Hp}{s:KW}{a C dx:Addr}{fs:List (Str×V)}{f:Str}{v:V}{A:K4}{E:KQ}
theorem vI{b:Bool}{Q:KQ}(I:Inv X pins σ H s)(e:H a=some (.ins C dx fs))(c:jx X.K C)(n:aI X.K C f)(l:fs.lookup f=some v)
  (h:∀u s',Inv X pins σ H s'->bK v u->Q u s'):wpAny (model X.prog X.w) A (getAttr (.ref a) f b) Q E s:=by
 obtain⟨g,O,r,_,_,_⟩:=mY I.hok e;obtain⟨u,i,d⟩:=jc.some_of (v:=v) (o:=g f) (by rw[<- l];exact r f);exact Cy I.kIn O (c.get f) c.hd n i (yj d) (h u _ (I.tok _) d)
theorem fL{m:Str}{g:Addr}{pl:Sem Bool}{Q:Value×List Value->Shared->Prop}(I:Inv X pins σ H s)(e:H a=some (.ins C dx fs))(c:jx X.K C)(k:iM X.K C m g)(l:fs.lookup m=none)
  (h:Q (.ref g,[.ref a]) s):wpAny (model X.prog X.w) A (getMethod (.ref a) m pl) Q E s:=by
 obtain⟨b,O,r,_,_,_⟩:=mY I.hok e;have d:b m=none:=jc.none_of (by rw[<- l];exact r m);exact Bl I.kIn O (c.get m) k.at_ k.fn d h
theorem wK{y:V}{u:Value}{Q:Unit->Shared->Prop}(I:Inv X pins σ H s)(e:H a=some (.ins C dx fs))(c:jx X.K C)(n:aI X.K C f)(hl:fs.length<1000)(ry:bK y u)
  (h:∀s',Inv X pins σ (aE H a (.ins C dx (cO f y fs))) s'->Q () s'):wpAny (model X.prog X.w) A (setAttr (.ref a) f u) Q E s:=by
 obtain⟨j,O,r,i,_,k⟩:=mY I.hok e;have m:(fs.map (·.1)).length<=sizeLine:=by rw[JW,q0W];omega
 refine Dj I.kIn O c.sa c.po n.taker c.hd i m λw d l=>h _ ?_;have hd:∃o,w.get? dx=some o:=let ⟨o,_,_,e',_⟩:=d.ns;⟨o,e'⟩
 refine I.write (x:=a) (e:=dx) (by rw[e];exact True.intro) (.inr k) (λb q v z=>(l.2 b v).trans z) hd ?_;refine⟨by rw[av O.ne];exact k,?_,O.ne,d.obj,_,d.ns,λg=>?_,λg p=>?_⟩
 ·have:=di f y fs;omega
 ·show jc ((cO f y fs).lookup g) (if g=f then some u else j g)
  rw[mf]
  by_cases q:g=f
  ·rw[q07 q,q07 q];exact ry
  ·rw[q06 q,q06 q];exact r g
 ·by_cases q:g=f
  ·rw[q];exact(lR f y fs).1
  ·refine(lR f y fs).2 g (i g λz=>p ?_)
   show(if g=f then some u else j g)=none;rw[q06 q];exact z
theorem Inv.made(I:Inv X pins σ H s):Inv X pins σ (aE (aE H s.heap.objs.size (.own (s.heap.objs.size+1))) (s.heap.objs.size+1) (.ins C s.heap.objs.size []))
  {s with heap:=(s.heap.push PySem.W.emptyDict).push (PySem.W.instObj C s.heap.objs.size)}:=by
 have d:(s.heap.push PySem.W.emptyDict).get? s.heap.objs.size=some PySem.W.emptyDict:=J1 s.heap rfl;have k:((s.heap.push PySem.W.emptyDict).push (PySem.W.instObj C s.heap.objs.size)).get? (s.heap.objs.size+1)=some (PySem.W.instObj C s.heap.objs.size):=by
  have:=J1 (s.heap.push PySem.W.emptyDict) (o:=PySem.W.instObj C s.heap.objs.size) rfl
  rwa [Heap.size_push]at this
 have j:(s.heap.push PySem.W.emptyDict).Ns s.heap.objs.size (λ_=>none):=⟨PySem.W.emptyDict,#[],_,d,rfl,(λe i=>q0Q i (by simp)),λ_=>rfl⟩;have l:=I.laid (a:=s.heap.objs.size) (o:=.own (s.heap.objs.size+1)) (h':=s.heap.push PySem.W.emptyDict) (t':=s.toks) (λb u q=>JV _ q) (Kg _) ⟨_,d⟩;refine l.laid (a:=s.heap.objs.size+1) (o:=.ins C s.heap.objs.size []) (t':=s.toks) (λb u q=>JV _ q) (Nat.le_of_eq (Heap.size_push _ _)) ?_;have c:s.heap.objs.size≠s.heap.objs.size+1:=Kc (Kq _);refine⟨by rw[av c,ag],Kh _,c,k,λ_=>none,(Heap.Ns1.of_empty j).at λo q=>JV _ q,λ_=>True.intro,λy g=>q0Q rfl g⟩
theorem CO{prog:K2}{w:K5}{env:Env}{e:Expr}{f:Str}{pos:Pos}{s:KW}{Q:KQ}(hb:attributeBase e f env (eval e env)=eval e env)
  (h:wpAny (model prog w) A (eval e env) (λo s₁=>wpAny (model prog w) A (getAttr o f true) Q E s₁) E s):wpAny (model prog w) A (eval (.Attribute e f pos) env) Q E s:=
 Attribute_any_ h (by rw[arm_eval_Attribute,hb])
end
def Df(K:KR)(ta:TE)(f:Str):TE:=λσ H Q=>ta σ H λx H1=>∃a C dx fs v,x=.ref a/\H1 a=some (.ins C dx fs)/\jx K C/\aI K C f/\fs.lookup f=some v/\Q v H1
def ET(K:KR)(ta tv:TE)(f:Str):TS:=λD σ H=>tv σ H λy H1=>ta σ H1 λx H2=>∃a C dx fs,x=.ref a/\H2 a=some (.ins C dx fs)/\jx K C/\aI K C f/\fs.length<1000 /\
 D.nx σ (aE H2 a (.ins C dx (cO f y fs)))
section
variable {X:Cx}{o e value:Expr}{f:Str}{pos pos' tpos:Pos}{ta tv:TE}
theorem cH(he:PE X e ta)(hb:attributeBase e f X.env (eval e X.env)=eval e X.env):PE X (.Attribute e f pos) (Df X.K ta f):=by
 intro b s σ H Q I h;refine CO hb (cD (he b s σ H _ I h) λu s1 ⟨x,H1,m,d,a,C,dx,fs,v,i,j,c,n,l,q⟩=>?_);subst i;obtain rfl:u=Value.ref a:=d;exact vI m j c n l λu' s2 k g=>⟨v,H1,k,g,q⟩
theorem c_(ha:PE X o ta)(hv:PE X value tv)(hs:swapsWith value (some (.Attribute o f pos')) pos.line X.env=pure false):PS X (.Assign [.Attribute o f pos'] value pos) (ET X.K ta tv f):=by
 intro b s σ H D I h;refine plainObj_wpAny_Assign_Attribute (cD (hv b s σ H _ I h) λu d ⟨y,H1,r,e,q⟩=>cD (ha b d σ H1 _ r q) λov s2 ⟨x,H2,p,g,a,C,dx,fs,j,k,c,n,l,i⟩=>?_) hs;subst j;obtain rfl:ov=Value.ref a:=g;exact wK p k c n l e λs3 m=>⟨σ,_,m,i⟩
end
section
variable {X:Cx}{pins:KS}{σ:St}{H:Hp}{s:KW}{A:K4}{E:KQ}{Q:KQ}{c:Value}{b:Bool}
inductive jd(K:KR)(H:Hp):V->Value->Prop where
 |non:jd K H .non (.type "NoneType")
 |bl (x:Bool):jd K H (.bl x) (.type "bool")
 |int (i:Int):jd K H (.int i) (.type "int")
 |str (x:Str):jd K H (.str x) (.type "str")
 |flt (x:UInt64):jd K H (.flt x) (.type "float")
 |lst {a:Addr} {xs:List V} (e:H a=some (.lst xs)):jd K H (.ref a) (.type "list")
 |frz {a:Addr} {o:Obj} {xs:List V} (e:H a=some (.frz o (.lst xs))):jd K H (.ref a) (.type "list")
 |tup {a:Addr} {xs:List V} (e:H a=some (.tup xs)):jd K H (.ref a) (.type "tuple")
 |dK {a:Addr} {kvs:List (cP×V)} (e:H a=some (.dK kvs)):jd K H (.ref a) (.type "dict")
 |dT {a:Addr} {kvs:List (List cP×V)} (e:H a=some (.dT kvs)):jd K H (.ref a) (.type "dict")
 |ins {a C dx:Addr} {fs:List (Str×V)} (e:H a=some (.ins C dx fs)) (cl:jx K C) (ha:PySem.W.findIn K (.ref C) "__class__"=some (some (.builtin "object.__class__")))
   (hn:PySem.W.specialIn K (.builtin "object.__class__") "__get__"=some (some (.builtin "getset_descriptor.__get__"))) (htk:PySem.W.takesIn K (.builtin "object.__class__")=some true)
   (hm:PySem.W.mroIn K C (.type "object")=some true):jd K H (.ref a) (.ref C)
theorem yz{x:V}{u t:Value}(I:Inv X pins σ H s)(rx:bK x u)(ty:jd X.K H x t)(e:PySem.W.kitOne X.K t c=some b)(h:∀tk,Q (.bool b) {s with toks:=tk}) :
  wpAny (model X.prog X.w) A (call (.builtin "isinstance") [u,c]) Q E s:=by
 cases ty with
 |non=>cases(show u=Value.none from rx);exact PySem.W.kia_one PySem.W.kitx_none I.kIn True.intro e (λz=>nomatch z) h
 |bl y=>cases(show u=Value.bool y from rx);exact PySem.W.kia_one PySem.W.kitx_bool I.kIn True.intro e (λz=>nomatch z) h
 |int i=>obtain⟨t,q⟩:=(show ∃t,u=Value.int i t from rx);cases q;exact PySem.W.kia_one PySem.W.kitx_int I.kIn True.intro e (λz=>nomatch z) h
 |str y=>obtain⟨t,q⟩:=(show ∃t,u=Value.str y t from rx);cases q;exact PySem.W.kia_one PySem.W.kitx_str I.kIn True.intro e (λz=>nomatch z) h
 |flt y=>obtain⟨t,q⟩:=(show ∃t,u=Value.float y t from rx);cases q;exact PySem.W.kia_one PySem.W.kitx_float I.kIn True.intro e (λz=>nomatch z) h
 | @lst a d ea=>
  cases(show u=Value.ref a from rx);obtain⟨_,_,n,_,h1⟩:=(show ci X.prog X.w H s.heap a (.lst d) from I.hok a _ ea);exact PySem.W.kia_one PySem.W.kitx_list I.kIn ⟨_,h1,rfl⟩ e (λz=>nomatch z) h
 | @frz a ob d ea=>
  cases(show u=Value.ref a from rx);obtain⟨_,_,_,n,_,h1⟩:=(show ci X.prog X.w H s.heap a (.frz ob (.lst d)) from I.hok a _ ea);exact PySem.W.kia_one PySem.W.kitx_list I.kIn ⟨_,h1,rfl⟩ e (λz=>nomatch z) h
 | @tup a d ea=>
  cases(show u=Value.ref a from rx);obtain⟨_,_,_,p⟩:=(show ci X.prog X.w H s.heap a (.tup d) from I.hok a _ ea);obtain⟨o,h1,h2,_⟩:=p;exact PySem.W.kia_one PySem.W.kitx_tuple I.kIn ⟨o,h1,h2⟩ e (λz=>nomatch z) h
 | @dK a kvs ea=>
  cases(show u=Value.ref a from rx);obtain⟨_,_,vs,_,p⟩:=(show ci X.prog X.w H s.heap a (.dK kvs) from I.hok a _ ea);obtain⟨o,g,j,h1,h2,_⟩:=p;exact PySem.W.kia_one PySem.W.kitx_dict I.kIn ⟨o,h1,h2.1⟩ e (λz=>nomatch z) h
 | @dT a kvs ea=>
  cases(show u=Value.ref a from rx);obtain⟨_,_,d,_,o,g,j,h1,h2,_⟩:=(show ci X.prog X.w H s.heap a (.dT kvs) from I.hok a _ ea);exact PySem.W.kia_one PySem.W.kitx_dict I.kIn ⟨o,h1,h2.1⟩ e (λz=>nomatch z) h
 | @ins a C dx fs ea cl ha hn htk hm=>
  cases(show u=Value.ref a from rx);obtain⟨mA,O,_⟩:=mY I.hok ea;obtain⟨od,J,_⟩:=O.look;exact PySem.W.kia_one (PySem.W.kitx_own (cl.get _) cl.hd ha hn htk hm) I.kIn J e (λz=>nomatch z) h
end
structure c8(k:Nat)(A:K4):Prop where
 hd:A.handled=none
 dp:A.depth+3*k+5<recursionLimit
 un:A.units+16*k+200<cLine
theorem c8.mono{j k:Nat}{A:K4}(r:c8 k A)(h:j<=k):c8 j A:=⟨r.hd,by have:=r.dp;omega,by have:=r.un;omega⟩
theorem c8.deeper{k:Nat}{A:K4}(r:c8 (k+1) A)(env:Env):c8 k (A.deeper env):=
 ⟨r.hd,by have:=r.dp;show A.depth+1+3*k+5<_;omega,by have:=r.un;show A.units+3+16*k+200<_;omega⟩
theorem c8.in1{k:Nat}{A:K4}(r:c8 (k+1) A):c8 k A.in1:=
 ⟨r.hd,by have:=r.dp;show A.depth+3*k+5<_;omega,by have:=r.un;show A.units+1+16*k+200<_;omega⟩
theorem vx{A:K4}{C:Addr}{us:KY}{kw:List (Str×Value)}:(A.under (.builtin "type.__call__" ⟨.ref C::us,kw⟩)).depth=A.depth+1:=by
 first | rfl | simp[Around.under,Code.weight,Code.isCreation,Code.isGuard,Code.isCaller,Code.frames,Code.isFrame,guardIds]
theorem xj{A:K4}{C:Addr}{us:KY}{kw:List (Str×Value)}:(A.under (.builtin "type.__call__" ⟨.ref C::us,kw⟩)).units=A.units+1:=by
 first | rfl | simp[Around.under,Code.cUnits,Code.frames,Code.isFrame]
theorem c8.make{k:Nat}{A:K4}(r:c8 (k+1) A)(C:Addr)(us:KY)(kw:List (Str×Value)):c8 k (A.under (.builtin "type.__call__" ⟨.ref C::us,kw⟩)):=
 ⟨r.hd,by have:=r.dp;rw[vx];omega,by have:=r.un;rw[xj];omega⟩
theorem c8.depth{k:Nat}{A:K4}(r:c8 k A):A.depth<recursionLimit:=by have:=r.dp;omega
theorem c8.units{k:Nat}{A:K4}(r:c8 k A):A.units+64<cLine:=by have:=r.un;omega
def k9:TA:=λ_ H Q=>Q [] H
def gI(ta:TE)(tr:TA):TA:=λσ H Q=>ta σ H λx H1=>tr σ H1 λxs H2=>Q (x::xs) H2
section
variable {X:Cx}{e:Expr}{es:K7}{te:TE}{t:TA}{pos:Pos}
theorem ad:PA X [] k9:=λ_ _ _ _ H Q I h=>Calls.spliced_nil ⟨[],H,I,.nil,h⟩
theorem ac(ha:PE X e te)(hr:PA X es t)(hs:autoParam (starEach (e::es) X.env=(false,eval e X.env)::starEach es X.env) zz0._auto_1):PA X (e::es) (gI te t):=by
 intro b a s σ H Q I h;rw[hs];show wpAny _ _ (spliced ((false,eval e X.env)::backTo b (starEach es X.env))) _ _ s;refine Calls.spliced_cons (cD (ha a s σ H _ I h) λu d ⟨x,H1,m,i,k⟩=>?_);exact cD (hr b a d σ H1 _ m k) λus s2 ⟨c,H2,l,g,j⟩=>⟨x::c,H2,l,.cons i g,j⟩
def EQ(t:TA):TE:=λσ H Q=>t σ H λxs H1=>xs.length<=sizeLine/\∀p,H1 p=none->Q (.ref p) (aE H1 p (.tup xs))
def CM(t:TA):TE:=λσ H Q=>t σ H λxs H1=>xs.length<=sizeLine/\∀p,H1 p=none->Q (.ref p) (aE H1 p (.lst xs))
theorem bZ{x1}(h:PA X es t):PE X (.Tuple es x1 pos) (EQ t):=by
 intro a s σ H Q I hq;refine wpAny_Tuple_spliced (cD (h pos a s σ H _ I hq) λus c ⟨g,H1,d,r,z,q⟩=>⟨by rw[<- r.length];exact z,?_⟩);have i:H1 c.heap.objs.size=none:=d.hok.fresh (Kg _);refine⟨.ref c.heap.objs.size,aE H1 c.heap.objs.size (.tup g),d.laid (t':=c.toks) (λb u e=>JV _ e) (Kg _) ?_,rfl,q _ i⟩;exact⟨z,us,r,⟨_,J1 _ rfl,rfl,_,rfl⟩⟩
theorem bF(h:PA X es t):PE X (.List es pos) (CM t):=by
 intro a s σ H Q I hq;refine wpAny_List_spliced (cD (h pos a s σ H _ I hq) λus c ⟨g,H1,d,r,z,q⟩=>⟨by rw[<- r.length];exact z,?_⟩);have i:H1 c.heap.objs.size=none:=d.hok.fresh (Kg _);refine⟨.ref c.heap.objs.size,aE H1 c.heap.objs.size (.lst g),d.laid (t':=c.toks) (λb u e=>JV _ e) (Kg _) ?_,rfl,q _ i⟩;exact⟨z,us,0,r,J1 _ rfl⟩
end
abbrev Sp:=List V->Hp->VK->XK->Prop
abbrev j0:=List Env->Hp->Shared->XK->Value->Shared->Prop
structure nK(P:K2)(w:K5)(K:KR)(mg:K0)(base:Heap)(A:K4)(outer:List Env)(s:KW)(H:Hp):Prop where
 frames:A.frames=some outer
 mod:Mod K mg base
 bs:∀b o,base.get? b=some o->s.heap.get? b=some o/\H b=none
 bsz:base.objs.size<=s.heap.objs.size
 funs:s.heap.FunFrames base outer
 frf:∀b∈wH outer,H b=none
 hok:jf P w H s.heap
 bare:AllBare s.gens
def CE(outer:List Env)(P:K2)(w:K5)(H:Hp)(s:KW)(Q:VK)(u:Value)(s':KW):Prop:=
 ∃v H',s'.os=s.os/\AllBare s'.gens/\Un (wH outer) [] H H' s.heap s'.heap/\jf P w H' s'.heap/\bK v u/\Q v H'
def CR(CX:j0)(outer:List Env)(P:K2)(w:K5)(H:Hp)(s:KW)(Q:VK)(E:XK)(r:Result)(s':KW):Prop:=
 match r with
 | .ok (.ret u)=>CE outer P w H s Q u s'
 | .ok _=>False
 | .error e=>CX outer H s E e s'
structure bw(P:K2)(w:K5)(K:KR)(mg:K0)(base:Heap)(CX:j0)(k:Nat)(f:Addr)(fd:K1)(ps:K3)(sp:Sp):Prop where
 len:∀vs H Q E,sp vs H Q E->vs.length=ps.length
 run:∀(A:K4) (outer:List Env) (s:KW) (H:Hp) (args:Args) (us:KY) (vs:List V) (Q:VK) (E:XK),c8 k A->nK P w K mg base A outer s H->BindsTo s fd args (ps.zip us)->bv vs us->sp vs H Q E ->
  codeAny (model P w) A (.call (.ref f) args) (CR CX outer P w H s Q E) s
theorem bw.mono{P:K2}{w:K5}{K:KR}{mg:K0}{base:Heap}{CX:j0}{j k:Nat}{f:Addr}{fd:K1}{ps:K3}{sp:Sp}(F:bw P w K mg base CX j f fd ps sp)(h:j<=k) :
  bw P w K mg base CX k f fd ps sp:=⟨F.len,λA outer s H args us vs Q E hr=>F.run A outer s H args us vs Q E (hr.mono h)⟩
theorem nK.make{P:K2}{w:K5}{K:KR}{mg:K0}{base:Heap}{A:K4}{outer:List Env}{s:KW}{H:Hp}(e:nK P w K mg base A outer s H)(C:Addr)(us:KY)(kw:List (Str×Value)) :
  nK P w K mg base (A.under (.builtin "type.__call__" ⟨.ref C::us,kw⟩)) outer s H:=⟨by first | exact e.frames | (simpa[Around.under,Code.envs,Code.isFrame,pushEnvs]using e.frames),e.mod,e.bs,e.bsz,e.funs,e.frf,e.hok,e.bare⟩
theorem nK.in1{P:K2}{w:K5}{K:KR}{mg:K0}{base:Heap}{A:K4}{outer:List Env}{s:KW}{H:Hp}(e:nK P w K mg base A outer s H) :
  nK P w K mg base A.in1 outer s H:=⟨e.frames,e.mod,e.bs,e.bsz,e.funs,e.frf,e.hok,e.bare⟩
section
variable {X:Cx}{pins:KS}{σ:St}{H:Hp}{s s':KW}
theorem Inv.env0(I:Inv X pins σ H s):nK X.prog X.w X.K X.mg X.base X.A X.stack s H:=
 ⟨I.ok.frames,I.ok.mod,I.bs,Kn I.ok.bsz I.sz,I.stack,I.stkFree,I.hok,I.bare⟩
theorem Inv.after{Q:VK}{u:Value}(I:Inv X pins σ H s)(h:CE X.stack X.prog X.w H s Q u s'):EP X pins σ Q u s':=by
 obtain⟨v,j,os,a,un,e,r,q⟩:=h;obtain⟨i,g,d,t,c⟩:=s';obtain rfl:c=s.os:=os;exact⟨v,j,I.call (h':=i) (g':=g) (d':=d) (t':=t) (ch:=[]) un e a (λb z=>q0Q z (by simp)),r,q⟩
end
def j_(sp:Sp)(dvs:List V)(E:XK)(t:TA):TE:=λσ H Q=>t σ H λvs H1=>sp (vs++dvs) H1 Q E
def qo(C:Addr)(m:Str)(sp:Sp)(dvs:List V)(E:XK)(ta:TE)(t:TA):TE:=λσ H Q=>ta σ H λx H1=>∃a dx fs,x=.ref a/\H1 a=some (.ins C dx fs)/\fs.lookup m=none /\
 t σ H1 λvs H2=>sp (x::(vs++dvs)) H2 Q E
def xY(C:Addr)(sp:Sp)(dvs:List V)(E:XK)(t:TA):TE:=λσ H Q=>t σ H λvs H1=>∀x dx,H1 x=none->H1 dx=none->dx≠x ->
 sp (.ref x::(vs++dvs)) (aE (aE H1 dx (.own x)) x (.ins C dx [])) (λv H2=>v=.non/\Q (.ref x) H2) E
def dX(K:KR)(fd:K1)(ps:K3)(ds:KY):Prop:=
 ∀(s:KW) (us:KY),K.In s.heap->(us++ds).length=ps.length->BindsTo s fd ⟨us,[]⟩ (ps.zip (us++ds))
theorem dX.all{K:KR}{fd:K1}{ps:K3}(h:∀us:List Value,us.length=ps.length->bindArgs fd ⟨us,[]⟩=pure (ps.zip us)):dX K fd ps []:=λs us _ hl=>by
 rw[Ks]at hl ⊢;exact .of_eq (h us hl)
def dC(CX:j0)(X:Cx)(E:XK):Prop:=∀(pins:KS) (σ:St) (H:Hp) (s:KW) (e:Value) (s':KW),Inv X pins σ H s->CX X.stack H s E e s'->X.xe e s'
section
variable {X:Cx}{CX:j0}{k:Nat}{f C:Addr}{fd:K1}{ps:K3}{sp:Sp}{dvs:List V}{ds:KY}{E:XK}{x m:Str}{p pos apos:Pos}{e o:Expr}{es:K7}{ta:TE}{t:TA}
theorem li{pins:KS}{σ:St}{H:Hp}{s:KW}{Q:VK}{us:KY}{vs:List V}(F:bw X.prog X.w X.K X.mg X.base CX k f fd ps sp)(hr:c8 k X.A)(hb:dX X.K fd ps ds)(hd:bv dvs ds)(hx:dC CX X E)
  (I:Inv X pins σ H s) (r:bv vs us) (h:sp (vs++dvs) H Q E):wpAny (model X.prog X.w) X.A (call (.ref f) us) (EP X pins σ Q) X.xe s:=by
 have b:bv (vs++dvs) (us++ds):=r.append hd;have d:(us++ds).length=ps.length:=by rw[<- b.length];exact F.len _ _ _ _ h
 refine wpAny_call (codeAny_mono (F.run X.A X.stack s H ⟨us,[]⟩ (us++ds) (vs++dvs) Q E hr I.env0 (hb s us I.kIn d) b h) λr c a=>?_);cases r with
 |error e=>exact hx pins σ H s e c I a
 |ok fl=>
  cases fl with
  |ret u=>exact I.after a
  |next=>exact False.elim a
  |brk=>exact False.elim a
  |cont=>exact False.elim a
theorem Ch(F:bw X.prog X.w X.K X.mg X.base CX k f fd ps sp)(hr:c8 k X.A)(hg:Gl X x)(hm:X.mg x=some (.ref f))(hk:PySem.W.keepIn X.K (.ref f)=true)(hb:dX X.K fd ps ds)(hd:bv dvs ds)(hx:dC CX X E)
  (ha:PA X (e::es) t) (hdb:autoParam ((x==("__debug__":Str))=false) zz1._auto_1) (he:autoParam (starEach (e::es) X.env=(false,eval e X.env)::starEach es X.env) zz0._auto_1) (hpl:autoParam ((backTo pos (starEach es X.env)).any (·.1)=false) zz0._auto_1) :
  PE X (.Call (.Name x p) (e::es) [] pos) (j_ sp dvs E t):=by
 intro a s σ H Q I h;refine wpAny_Call_Name_kw (mX I hg hm ?_ hdb);refine PySem.W.callWith_K (h₀:=X.base) I.ok.mod.kin hk (cD (ha pos a s σ H _ I h) λus s1 ⟨vs,H1,b,r,q⟩=>⟨b.kIn,?_⟩) he hpl;exact li F hr hb hd hx b r q
theorem C8{pl:Sem Bool}(he:PE X o ta)(c:jx X.K C)(hm:iM X.K C m f)(F:bw X.prog X.w X.K X.mg X.base CX k f fd ps sp)(hr:c8 k X.A)(hb:dX X.K fd ps ds)(hd:bv dvs ds)(hx:dC CX X E)(ha:PA X (e::es) t)
  (hst:autoParam (starEach (e::es) X.env=(false,eval e X.env)::starEach es X.env) zz0._auto_1) (hpl:autoParam ((backTo pos (starEach es X.env)).any (·.1)=false) zz0._auto_1)
  (ht:autoParam (eval (.Call (.Attribute o m apos) (e::es) [] pos) X.env=(do
   let ov <- eval o X.env
   standAt apos.atName
   let (f,first) <- holding [ov] (getMethod ov m pl)
   callWith pos f first (backTo pos (starEach (e::es) X.env)) (backToKw pos (keywordEach [] X.env)))) zz0._auto_1) :
  PE X (.Call (.Attribute o m apos) (e::es) [] pos) (qo C m sp dvs E ta t):=by
 intro b s σ H Q I h;refine PySem.W.methodCall_KW (pl:=pl) (cD (he b s σ H _ I h) λu i ⟨x,H1,g,j,a,dx,fs,p,v,l,q⟩=>?_) ht;subst p;obtain rfl:u=Value.ref a:=j;refine fL g v c hm l ?_;refine PySem.W.callWith_K (first:=[.ref a]) (h₀:=X.base) I.ok.mod.kin hm.kp (cD (ha pos b i σ H1 _ g q) λus s2 ⟨vs,H2,d,r,n⟩=>⟨d.kIn,?_⟩) hst hpl;exact li (us:=.ref a::us) (vs:=.ref a::vs) F hr hb hd hx d (.cons rfl r) n
theorem A0{pl:Sem Bool}(he:PE X o ta)(c:jx X.K C)(hm:iM X.K C m f)(F:bw X.prog X.w X.K X.mg X.base CX k f fd ps sp)(hr:c8 k X.A)(hb:dX X.K fd ps ds)(hd:bv dvs ds)(hx:dC CX X E)
  (ht:autoParam (eval (.Call (.Attribute o m apos) [] [] pos) X.env=(do
   let ov <- eval o X.env
   standAt apos.atName
   let (f,first) <- holding [ov] (getMethod ov m pl)
   callWith pos f first (backTo pos (starEach [] X.env)) (backToKw pos (keywordEach [] X.env)))) zz0._auto_1) :
  PE X (.Call (.Attribute o m apos) [] [] pos) (qo C m sp dvs E ta k9):=by
 intro b s σ H Q I h;refine PySem.W.methodCall_KW (pl:=pl) (cD (he b s σ H _ I h) λu s1 ⟨x,H1,d,e,a,dx,fs,g,i,l,q⟩=>?_) ht;subst g;obtain rfl:u=Value.ref a:=e;refine fL d i c hm l ?_;exact PySem.W.callWith_K0 (first:=[.ref a]) d.kIn hm.kp (li (us:=[.ref a]) (vs:=[.ref a]) F hr hb hd hx d (.cons rfl .nil) q)
structure Mk(K:KR)(C f:Addr):Prop where
 makes:PySem.W.makesIn K C=true
 init:PySem.W.findIn K (.ref C) "__init__"=some (some (.ref f))
 fn:PySem.W.isFn K (.ref f)=true
 kp:PySem.W.keepIn K (.ref C)=true
theorem BP{pins:KS}{σ:St}{H:Hp}{s:KW}{Q:VK}{us:KY}{vs:List V}(M:Mk X.K C f)(F:bw X.prog X.w X.K X.mg X.base CX k f fd ps sp)(hr:c8 (k+1) X.A)(hb:dX X.K fd ps ds)(hd:bv dvs ds)
  (hx:dC CX X E) (I:Inv X pins σ H s) (r:bv vs us)
  (h:∀x dx,H x=none->H dx=none->dx≠x->sp (.ref x::(vs++dvs)) (aE (aE H dx (.own x)) x (.ins C dx [])) (λv H2=>v=.non/\Q (.ref x) H2) E) :
  wpAny (model X.prog X.w) X.A (call (.ref C) us) (EP X pins σ Q) X.xe s:=by
 have d:=h (s.heap.objs.size+1) s.heap.objs.size (I.hok.fresh (Nat.le_succ _)) (I.hok.fresh (Kg _)) (Kc (Kq _));have b:=Inv.made (C:=C) I;have c:bv (V.ref (s.heap.objs.size+1)::(vs++dvs)) (Value.ref (s.heap.objs.size+1)::(us++ds)):=.cons rfl (r.append hd);have l:(Value.ref (s.heap.objs.size+1)::us++ds).length=ps.length:=by
  have e:=c.length;rw[F.len _ _ _ _ d]at e;exact e.symm
 refine wpAny_call (AE (f:=f) I.kIn M.makes M.init (beq_iff_eq.mp M.fn) (codeAny_mono (F.run _ X.stack _ _ ⟨Value.ref (s.heap.objs.size+1)::us,[]⟩ (Value.ref (s.heap.objs.size+1)::(us++ds)) _ _ E (hr.make C us [])
  (b.env0.make C us []) (hb _ (Value.ref (s.heap.objs.size+1)::us) b.kIn l) c d) λr g a=>?_))
 cases r with
 |error e=>exact hx pins σ _ _ e g b a
 |ok fl=>
  cases fl with
  |ret u=>
   obtain⟨v,o,n,i,m,j⟩:=b.after a;subst m;exact⟨i,⟨V.ref (s.heap.objs.size+1),o,n,rfl,j⟩⟩
  |next=>exact False.elim a
  |brk=>exact False.elim a
  |cont=>exact False.elim a
theorem Cm(M:Mk X.K C f)(F:bw X.prog X.w X.K X.mg X.base CX k f fd ps sp)(hr:c8 (k+1) X.A)(hg:Gl X x)(hm:X.mg x=some (.ref C))(hb:dX X.K fd ps ds)(hd:bv dvs ds)(hx:dC CX X E)
  (ha:PA X (e::es) t) (hdb:autoParam ((x==("__debug__":Str))=false) zz1._auto_1) (he:autoParam (starEach (e::es) X.env=(false,eval e X.env)::starEach es X.env) zz0._auto_1) (hpl:autoParam ((backTo pos (starEach es X.env)).any (·.1)=false) zz0._auto_1) :
  PE X (.Call (.Name x p) (e::es) [] pos) (xY C sp dvs E t):=by
 intro a s σ H Q I h;refine wpAny_Call_Name_kw (mX I hg hm ?_ hdb);refine PySem.W.callWith_K (h₀:=X.base) I.ok.mod.kin M.kp (cD (ha pos a s σ H _ I h) λus s1 ⟨vs,H1,b,r,q⟩=>⟨b.kIn,?_⟩) he hpl;exact BP M F hr hb hd hx b r q
end
def PK(X:Cx)(kws:List Keyword)(t:TA):Prop:=
 ∀(pos:Pos) (pins:KS) (s:KW) (σ:St) (H:Hp) (Q:List V->Hp->Prop),Inv X pins σ H s->t σ H Q->wpAny (model X.prog X.w) X.A (evalAll ((backToKw pos (keywordEach kws X.env)).map (·.2))) (AP X pins σ Q) X.xe s
section
variable {X:Cx}{CX:j0}{k:Nat}{f C:Addr}{fd:K1}{ps ks:K3}{sp:Sp}{E:XK}{x m:Str}{p pos apos kpos:Pos}{e o:Expr}{es:K7}{kws:List Keyword}{te ta:TE}{t tk:TA}{nm:Option Str}
theorem EF:PK X [] k9:=λ_ _ _ _ H Q I h=>wpAny_evalAll_nil ⟨[],H,I,.nil,h⟩
theorem Dh(ha:PE X e te)(hr:PK X kws t):PK X (⟨nm,e,kpos⟩::kws) (gI te t):=by
 intro b a s σ H Q I h;show wpAny _ _ (evalAll ((do let v <- eval e X.env;standAt b;pure v)::(backToKw b (keywordEach kws X.env)).map (·.2))) _ _ s;refine wpAny_evalAll_cons (q04 (cD (ha a s σ H _ I h) λu d ⟨x,H1,m,i,k⟩=>q04 (wpAny_standAt (q05 ?_))));exact cD (hr b a d σ H1 _ m k) λus s2 ⟨c,H2,l,g,j⟩=>⟨x::c,H2,l,.cons i g,j⟩
variable {g:List Value->List Value->List Value}{gV:List V->List V->List V}
end
structure aH(N P:K3)(sc:Scope):Prop where
 kind:sc.kind=.function
 co:sc.isCoroutine=false
 gen:sc.isGenerator=false
 nd:N.Nodup
 pre:N.take P.length=P
 par:∀x∈P,sc.names.lookup x=some .local\/sc.names.lookup x=some .cell
 nofree:∀y∈sc.names,y.2≠.free
theorem qN{kindOf:Str->Option NameKind}{x:Str}:∀{binds:List (Str×Value)} {m:K0},(∀v,(x,v)∉binds)->bindL kindOf binds m x=m x
 | [],_,_=>rfl
 | (n,v)::r,m,h=>by
  unfold bindL;rw[qN λw hw=>h w (J' _ hw)]
  split
  ·have:x≠n:=by rintro rfl;exact h v q0B
   simp[this]
  ·rfl
theorem qL{kindOf:Str->Option NameKind}{x:Str}:∀{binds:List (Str×Value)} {m:K0},(∀v,(x,v)∉binds)->bindC kindOf binds m x=m x
 | [],_,_=>rfl
 | (n,v)::r,m,h=>by
  unfold bindC;rw[qL λw hw=>h w (J' _ hw)]
  split
  ·rfl
  ·have:x≠n:=by rintro rfl;exact h v q0B
   simp[this]
theorem qh{kindOf:Str->Option NameKind}{x:Str}{v:Value}:∀{P:K3} {vs:KY} {i:Nat} {m:K0},P.Nodup->P[i]?=some x->vs[i]?=some v->kindOf x=some .local ->
  bindL kindOf (P.zip vs) m x=some v
 | [],_,_,_,_,h,_,_=>by simp at h
 |_::_,[],_,_,_,_,h,_=>by simp at h
 |p::P,w::vs,0,m,nd,h1,h2,hk=>by
  simp at h1 h2;subst h1;subst h2
  show bindL kindOf ((p,w)::P.zip vs) m p=_;unfold bindL;rw[qN λv hv=>(List.nodup_cons.mp nd).1 (List.of_mem_zip hv).1,q07 hk];simp
 |p::P,w::vs,i+1,m,nd,h1,h2,hk=>by
  show bindL kindOf ((p,w)::P.zip vs) m x=_;unfold bindL;exact qh (i:=i) (List.nodup_cons.mp nd).2 (by simpa using h1) (by simpa using h2) hk
theorem qM{kindOf:Str->Option NameKind}{x:Str}{v:Value}:∀{P:K3} {vs:KY} {i:Nat} {m:K0},P.Nodup->P[i]?=some x->vs[i]?=some v->kindOf x≠some .local ->
  bindC kindOf (P.zip vs) m x=some v
 | [],_,_,_,_,h,_,_=>by simp at h
 |_::_,[],_,_,_,_,h,_=>by simp at h
 |p::P,w::vs,0,m,nd,h1,h2,hk=>by
  simp at h1 h2;subst h1;subst h2
  show bindC kindOf ((p,w)::P.zip vs) m p=_;unfold bindC;rw[qL λv hv=>(List.nodup_cons.mp nd).1 (List.of_mem_zip hv).1,q06 hk];simp
 |p::P,w::vs,i+1,m,nd,h1,h2,hk=>by
  show bindC kindOf ((p,w)::P.zip vs) m x=_;unfold bindC;exact qM (i:=i) (List.nodup_cons.mp nd).2 (by simpa using h1) (by simpa using h2) hk
def start(N:K3)(vs:List V):St:=vs.map some++List.replicate (N.length-vs.length) none
def u0(CX:j0)(P:K2)(w:K5)(K:KR)(mg:K0)(base:Heap)(N:K3)(qual:Str)(scope:Scope)(f:Addr)(cd:Value)(A:K4)(outer:List Env)(s:KW)(H:Hp)(E:XK):Cx where
 prog:=P
 w:=w
 K:=K
 mg:=mg
 base:=base
 A:=A.deeper (envOfC qual scope s.heap.objs.size f cd)
 N:=N
 s₀:=s
 H₀:=H
 env:=envOfC qual scope s.heap.objs.size f cd
 outer:=outer
 stack:=envOfC qual scope s.heap.objs.size f cd::outer
 ex:=[]
 calm:=true
 fn:=λ_=>true
 pn:=[]
 xe:=λe s'=>wpAny (model P w) (A.deeper (envOfC qual scope s.heap.objs.size f cd)) (leaving (envOfC qual scope s.heap.objs.size f cd) e) (λ_ s''=>CX outer H s E e s'') (λe' s''=>CX outer H s E e' s'') s'
theorem tR{sc:Scope}{n:Nat}{x:Str}(h:sc.names.lookup x=some .cell):∃c,(cellsFrom n sc.names []).lookup x=some c:=by
 have q:=PySem.W.cellsFrom_some sc.names n [] (.inl h);exact Option.isSome_iff_exists.mp q
theorem yV{CX:j0}{P:K2}{w:K5}{K:KR}{mg:K0}{base:Heap}{N ps:K3}{qual:Str}{scope:Scope}{f:Addr}{cd:Value}{A:K4}{outer:List Env}{s s1:KW}{H:Hp}{E:XK}{us:KY}{vs:List V}
  (S:aH N ps scope) (hd:A.handled=none) (e0:nK P w K mg base A outer s H) (hl:vs.length=ps.length) (r:bv vs us)
  (x:InCallC s s.heap.objs.size (bindL (envOfC qual scope s.heap.objs.size f cd).kindOf (ps.zip us) λ_=>none) (cellsFrom (s.heap.objs.size+1) scope.names []) (bindC (envOfC qual scope s.heap.objs.size f cd).kindOf (ps.zip us) λ_=>none) s1) :
  Inv (u0 CX P w K mg base N qual scope f cd A outer s H E) [] (start N vs) H s1:=by
 have hpl:ps.length<=N.length:=by have:=q0R List.length S.pre;rw[Kw]at this;omega
 obtain⟨h1,tk,rfl,o⟩:=x.done;have d:∀b:Addr,b∉(u0 CX P w K mg base N qual scope f cd A outer s H E).ex:=λb z=>q0Q (show b∈([]:List Addr) from z) (by simp);refine⟨⟨e0.mod,S.kind,rfl,rfl,Kg _,λy z c h1 h2=>?_,λy hy=>?_,λy c _ h=>?_,λ_=>hd,Around.frames_deeper e0.frames,.inr ⟨rfl,rfl⟩,λb z=>q0Q z (d b),e0.bs,e0.bsz,λb _ _=>d b,λb z=>q0Q z (d b),e0.funs,e0.frf⟩,
  rfl,e0.bare,Un.kept o,⟨_,x.toInCall.ns,λi y v h1 h2 h3=>?_⟩,λy c h=>⟨_,x.cell y c h⟩,e0.hok.fresh (Kg _),λy c h=>?_,λp j=>q0Q (show p∈([]:List (Addr×Obj)) from j) (by simp),e0.hok.kept o,?_⟩
 ·exact name_of_addr x.apart (PySem.mem_of_lookup h1) (PySem.mem_of_lookup h2)
 ·have hy:scope.names.lookup y=some .cell\/scope.names.lookup y=some .free:=hy
  rcases hy with hy | hy
  ·exact tR hy
  ·exact q0Q rfl (S.nofree _ (PySem.mem_of_lookup hy))
 ·exact q0P (x.above y c (PySem.mem_of_lookup h))
 ·have l:i<vs.length:=by
   unfold start at h2
   by_cases l:i<vs.length
   ·exact l
   ·rw[Kd (by simpa using l)]at h2
    rw[List.getElem?_replicate]at h2
    split at h2<;>cases h2
  have C:vs[i]?=some v:=by
   unfold start at h2;rw[Ke (by simpa using l),JY]at h2;cases e:vs[i]? with
   |none=>rw[e]at h2;cases h2
   |some a=>rw[e]at h2;cases h2;rfl
  obtain⟨u,m,B⟩:=r.get C;have j:ps[i]?=some y:=by
   rw[<- S.pre,List.getElem?_take_of_lt ⋯];exact h1
  have g:ps.Nodup:=by rw[<- S.pre];exact S.nd.sublist (List.take_sublist _ _)
  refine⟨u,B,?_⟩;rcases S.par y (JZ j) with k | k
  ·exact .inl ⟨k,qh g j m k⟩
  ·obtain⟨c,e⟩:=tR (n:=s.heap.objs.size+1) k
   refine .inr ⟨.inl k,c,e,?_⟩;have q:=x.cell y c e;rw[qM g j m (by show scope.names.lookup y≠_;rw[k];decide)]at q;exact q
 ·exact e0.hok.fresh (q0P (x.above y c (PySem.mem_of_lookup h)))
 ·unfold start
  show _=N.length;rw[Kf,JW,List.length_replicate];omega
theorem FQ{CX:j0}{P:K2}{w:K5}{K:KR}{mg:K0}{base:Heap}{k:Nat}{f:Addr}{name qual:Str}{params:Arguments}{body:List Stmt}{scope:Scope}{dV kV doc pm cdv ct oc:Value}{an od:K6}
  {osl:Array (Option Value)} {N ps:K3} {sp:Sp} (lk:K.lookup f=some ⟨oc,od,.func (PySem.W.fnOf name qual params body scope dV kV doc pm an cdv ct),osl⟩) (hcd:PySem.W.codeIn K cdv qual=true) (S:aH N ps scope)
  (len:∀vs H Q E,sp vs H Q E->vs.length=ps.length)
  (hbody:∀(A:K4) (outer:List Env) (s:KW) (H:Hp) (vs:List V) (Q:VK) (E:XK),c8 k (A.deeper (envOfC qual scope s.heap.objs.size f cdv))->sp vs H Q E ->
   ∃t,vB (u0 CX P w K mg base N qual scope f cdv A outer s H E) body t/\t {nx:=λ_ H'=>Q .non H',rt:=Q} (start N vs) H) :
  bw P w K mg base CX (k+1) f (PySem.W.fnOf name qual params body scope dV kV doc pm an cdv ct) ps sp:=by
 refine⟨len,λA outer s H args z vs Q E hr g M r d=>?_⟩;have G:=len _ _ _ _ d;have p:K.In s.heap:=g.mod.kin.keeps λb o e=>(g.bs b o e).1;have l:s.heap.NoLimit:=g.mod.nolimit.keeps λb o e=>(g.bs b o e).1;have a:∀y∈ps.zip z,scope.names.lookup y.1=some .local\/(scope.names.lookup y.1=some .cell/\((cellsFrom (s.heap.objs.size+1) scope.names []).lookup y.1).isSome=true):=λ⟨n,v⟩ B=>by
  rcases S.par n (List.of_mem_zip B).1 with q | q
  ·exact .inl q
  ·exact .inr ⟨q,PySem.W.cellsFrom_some _ _ _ (.inl q)⟩
 refine codeAny_call_function hr.depth (p _ _ lk) rfl S.co S.gen rfl (PySem.W.codeRec_of p hcd) (M _ _ _ _ ?_);refine wpAny_newFunctionEnv_cells S.kind a λenv L m x=>?_;subst L;refine⟨l.keeps x.toInCall.keep,codeAny_func ?_⟩;obtain⟨t,C,D⟩:=hbody A outer s H vs Q E (hr.deeper _) d;have I:Inv (u0 CX P w K mg base N qual scope f cdv A outer s H E) [] (start N vs) H m:=yV S hr.hd g G r x;refine q0X (C [] m (start N vs) H _ I D) (λO i c=>?_) λe i c=>c;have fin:∀{σ':St} {H':Hp} {v:V} {u:Value},Inv (u0 CX P w K mg base N qual scope f cdv A outer s H E) [] σ' H' i->bK v u->Q v H'->CE outer P w H s Q u i:=
  fun{σ' H' v u} J j q=>⟨v,H',J.os,J.bare,J.base,J.hok,j,q⟩
 cases O with
 |ret u=>
  obtain⟨v,σ',H',J,j,q⟩:=c;exact fin J j q
 |next=>
  obtain⟨σ',H',J,q⟩:=c;exact fin (v:=V.non) (u:=Value.none) J rfl q
 |brk=>
  obtain⟨_,_,_,q⟩:=c;exact False.elim q
 |cont=>
  obtain⟨_,_,_,q⟩:=c;exact False.elim q
section
variable {X:Cx}{x:Str}{p pos:Pos}{e:Expr}{es:K7}{t:TA}{id T:String}{r:List V->Hp->VK->Prop}
def Fn(r:List V->Hp->VK->Prop)(t:TA):TE:=λσ H Q=>t σ H λvs H1=>r vs H1 Q
theorem az(hc:eR X (.builtin id) r)(hg:Gl X x)(hm:X.mg x=none)(hv:bootBuiltins x=some (.builtin id))(ha:PA X (e::es) t)(hn:autoParam (x≠"__name__") zz1._auto_1)(hdb:autoParam ((x==("__debug__":Str))=false) zz1._auto_1)
  (he:autoParam (starEach (e::es) X.env=(false,eval e X.env)::starEach es X.env) zz0._auto_1) (hpl:autoParam ((backTo pos (starEach es X.env)).any (·.1)=false) zz0._auto_1):PE X (.Call (.Name x p) (e::es) [] pos) (Fn r t):=by
 intro a s σ H Q I h;refine wpAny_Call_Name_kw (eS I hg hm hv ?_ hn hdb);exact PyProof.Rows.callWith_builtin1 (cD (ha pos a s σ H _ I h) λus b ⟨vs,H1,g,c,d⟩=>hc a b σ H1 vs us Q g c d) he hpl
theorem cG(hc:eR X (.type T) r)(hg:Gl X x)(hm:X.mg x=none)(hv:bootBuiltins x=some (.type T))(ha:PA X (e::es) t)(hn:autoParam (x≠"__name__") zz1._auto_1)(hdb:autoParam ((x==("__debug__":Str))=false) zz1._auto_1)
  (he:autoParam (starEach (e::es) X.env=(false,eval e X.env)::starEach es X.env) zz0._auto_1) (hpl:autoParam ((backTo pos (starEach es X.env)).any (·.1)=false) zz0._auto_1):PE X (.Call (.Name x p) (e::es) [] pos) (Fn r t):=by
 intro a s σ H Q I h;refine wpAny_Call_Name_kw (eS I hg hm hv ?_ hn hdb);exact PyProof.Rows.callWith_type1 (cD (ha pos a s σ H _ I h) λus b ⟨vs,H1,g,c,d⟩=>hc a b σ H1 vs us Q g c d) he hpl
end
end L2
namespace HT
open PySem PyProof.Rows
section
variable {prog:K2}{w:K5}{A:K4}{E:KQ}{s:KW}
def sIx(n d:Nat):Option Int->Nat
 |none=>d
 |some v=>if v<0 then(v+(n:Int)).toNat else min v.toNat n
theorem sIx_nat(n d k:Nat):sIx n d (some (k:Int))=min k n:=by
 show(if(k:Int)<0 then((k:Int)+(n:Int)).toNat else min (k:Int).toNat n)=min k n;rw[q06 ⋯,J4]
theorem sIx_le(n d:Nat)(hd:d<=n)(o:Option Int):sIx n d o<=n:=by
 cases o with
 |none=>exact hd
 |some v=>
  show(if v<0 then(v+(n:Int)).toNat else min v.toNat n)<=n
  by_cases a:v<0
  ·rw[q07 a];omega
  ·rw[q06 a];exact Nat.min_le_right _ _
end
end HT
namespace L2
open PySem PySem.Spec PyProof.Rows
abbrev TO:=St->Hp->(Option Int->Hp->Prop)->Prop
def PO(X:Cx)(e:Option Expr)(t:TO):Prop:=
 ∀(pins:KS) (s:KW) (σ:St) (H:Hp) (Q:Option Int->Hp->Prop),Inv X pins σ H s->t σ H Q ->
  wpAny (model X.prog X.w) X.A (evalPart e X.env) (λu s'=>∃o H',Inv X pins σ H' s'/\IsPart u o/\Q o H') X.xe s
def q9:TO:=λ_ H Q=>Q none H
def B_(t:TE):TO:=λσ H Q=>t σ H λx H1=>∃i,x=.int i/\Q (some i) H1
section
variable {X:Cx}{e:Expr}{te:TE}{lo hi:Option Expr}{tl th:TO}{pos p2:Pos}
theorem mW:PO X none q9:=by
 intro pins s σ H Q I h;rw[evalPart_none];exact q05 ⟨none,H,I,.none,h⟩
theorem cQ(h:PE X e te):PO X (some e) (B_ te):=by
 intro a s σ H Q I hw;rw[evalPart_some];refine cD (h a s σ H _ I hw) λu s1 ⟨x,H1,d,b,c⟩=>?_;obtain⟨i,rfl,q⟩:=c;obtain⟨t,rfl⟩:=b;exact⟨some i,H1,d,.int i t,q⟩
def Gy(X:Cx)(r:V->Option Int->Option Int->Hp->VK->Prop):Prop:=
 ∀(pins:KS) (s:KW) (σ:St) (H:Hp) (x:V) (v vl vu:Value) (lo hi:Option Int) (sl:Addr) (Q:VK),Inv X pins σ H s->bK x v->s.heap.IsSliceOf sl vl vu .none->IsPart vl lo->IsPart vu hi->r x lo hi H Q ->
  ∃T id,typeLookup (.type T) "__getitem__"=pure (some (.builtin id))/\s.TypeIs v T/\wpAny (model X.prog X.w) X.A (getItem v (.ref sl)) (EP X pins σ Q) X.xe s
def Gs(r:V->Option Int->Option Int->Hp->VK->Prop)(te:TE)(tl th:TO):TE:=λσ H Q=>te σ H λx H1=>tl σ H1 λl H2=>th σ H2 λu H3=>r x l u H3 Q
theorem dy{r:V->Option Int->Option Int->Hp->VK->Prop}(hr:Gy X r)(he:PE X e te)(hl:PO X lo tl)(hu:PO X hi th):PE X (.Subscript e (.Slice lo hi none p2) pos) (Gs r te tl th):=by
 intro a s σ H Q I h;refine Subscript_ (cD (he a s σ H _ I h) λv i ⟨x,H1,J,j,n⟩=>?_);refine wpAny_Slice (cD (hl a i σ H1 _ J n) λvl g ⟨l,H2,G,p,m⟩=>cD (hu a g σ H2 _ G m) λvu c ⟨u,d,D,o,k⟩=>?_);rw[evalPart_none];refine q05 ?_;have C:Inv X a σ d {c with heap:=c.heap.push {cls:=.type "slice",data:=.fields #[vl,vu,.none]} }:=D.kept (t':=c.toks) λb ob q=>JV _ q;obtain⟨T,id,B,y,z⟩:=hr a {c with heap:=c.heap.push {cls:=.type "slice",data:=.fields #[vl,vu,.none]} } σ d x v vl vu l u c.heap.objs.size Q C j (Heap.IsSliceOf.new ..) p o k;show wpAny (model X.prog X.w) X.A (subscriptTail e (.Slice lo hi none p2) v (.ref c.heap.objs.size)) (EP X a σ Q) X.xe {c with heap:=c.heap.push {cls:=.type "slice",data:=.fields #[vl,vu,.none]} };exact tail_any (ops:=[.ref c.heap.objs.size,v]) y B z (by with_unfolding_all rfl)
def j8(xs:List V)(lo hi:Option Int):List V:=(xs.drop (HT.sIx xs.length 0 lo)).take (HT.sIx xs.length xs.length hi-HT.sIx xs.length 0 lo)
theorem uI(xs:List V)(lo hi:Option Int):(j8 xs lo hi).length<=xs.length:=by
 unfold j8;rw[Kw,Kx];omega
end
def Ff(n:Nat)(i:Int):Option Nat:=if 0<=i then(if i<n then some i.toNat else none) else if -(n:Int)<=i then some (i+n).toNat else none
def iz{α:Type}(xs:List α)(i:Int):Option α:=(Ff xs.length i).bind λj=>xs[j]?
theorem C4{n:Nat}{i:Int}{j:Nat}(h:Ff n i=some j):seqIndex? i n=some j/\j<n/\-(n:Int)<=i/\i<n:=by
 unfold Ff at h
 by_cases a:0<=i
 ·rw[q07 a]at h
  by_cases h1:i<n
  ·rw[q07 h1]at h
   have e:i.toNat=j:=q0S h;exact⟨by rw[seqIndex_of a h1,e],⋯,⋯,h1⟩
  ·rw[q06 h1]at h;cases h
 ·rw[q06 a]at h
  by_cases h1:-(n:Int)<=i
  ·rw[q07 h1]at h
   have e:(i+n).toNat=j:=q0S h;exact⟨by rw[seqIndex_neg ⋯ h1,e],⋯,h1,⋯⟩
  ·rw[q06 h1]at h;cases h
theorem rX{α:Type}{xs:List α}{i:Int}{v:α}(h:iz xs i=some v):∃j,seqIndex? i xs.length=some j/\xs[j]?=some v/\j<xs.length/\-(xs.length:Int)<=i/\i<xs.length:=by
 unfold iz at h;cases e:Ff xs.length i with
 |none=>rw[e]at h;cases h
 |some j=>
  rw[e]at h;obtain⟨h1,h2,b,a⟩:=C4 e;exact⟨j,h1,h,h2,b,a⟩
theorem bC{α:Type}{xs:List α}{j:Nat}{v:α}(h:xs[j]?=some v):iz xs (j:Int)=some v:=by
 have hj:j<xs.length:=(JU.mp h).1;have e:Ff xs.length (j:Int)=some j:=by
  unfold Ff;rw[q07 ⋯,q07 ⋯];simp
 unfold iz;rw[e];exact h
def CU(b:Expr):Prop:=∀o i,subscripted b false o i=operate [o,i] (getItem o i)
def D5(X:Cx)(r:R2):Prop:=
 ∀(value slice:Expr) (pins:KS) (s:KW) (σ:St) (H:Hp) (x y:V) (v u:Value) (Q:VK),Inv X pins σ H s->bK x v->bK y u->r x y H Q ->
  subscripted slice false v u=operate [v,u] (getItem v u)->wpAny (model X.prog X.w) X.A (subscriptTail value slice v u) (EP X pins σ Q) X.xe s
def Gj(X:Cx)(id:String)(r:V->List V->Hp->VK->Prop):Prop:=
 ∀(pins:KS) (s:KW) (σ:St) (H:Hp) (x:V) (xs:List V) (v:Value) (us:KY) (Q:VK),Inv X pins σ H s->bK x v->bv xs us->r x xs H Q ->
  wpAny (model X.prog X.w) X.A (call (.builtin id) (v::us)) (EP X pins σ Q) X.xe s
section
variable {X:Cx}{a b:Expr}{ta tb:TE}{pos:Pos}
theorem a_{r:R2}(hr:D5 X r)(ha:PE X a ta)(hb:PE X b tb)(hs:CU b):PE X (.Subscript a b pos) (Cd r ta tb):=by
 intro c s σ H Q I h;exact Subscript_ (EZ ha hb I h λv u d x y H2 i g e q=>hr a b c d σ H2 x y v u Q i g e q (hs _ _))
def wY(K:KR):R2:=λx y H Q=>∃p xs i v,x=.ref p/\y=.int i/\aM K H p xs/\iz xs i=some v/\Q v H
def Bh(K:KR):R2:=λx y H Q=>∃p xs i v,x=.ref p/\y=.int i/\dZ K H p xs/\iz xs i=some v/\Q v H
def Eo:R2:=λx y H Q=>∃z i c,x=.str z/\y=.int i/\z.length<=sizeLine/\iz z.cps.toList i=some c/\Q (.str ⟨#[c]⟩) H
theorem rq:D5 X (wY X.K):=by
 intro value slice a s σ H x y v u Q I rx ry h hs;obtain⟨p,xs,i,z,rfl,rfl,m,o,q⟩:=h;cases rx;obtain⟨t,rfl⟩:=ry;obtain⟨d,r,c,hz⟩:=I.list m;obtain⟨j,h1,h2,h3,C,B⟩:=rX o;obtain⟨w,k,b⟩:=r.get h2;have n:=r.length;have hn:=nk;have fin:EP X a σ Q w s:=⟨z,H,I,b,q⟩
 by_cases g:0<=i
 ·have e:i.toNat=j:=by
   rw[seqIndex_of g B]at h1;exact q0S h1
  exact item_listR c.isList g ⋯ (by rw[e];simpa using k) fin hs
 ·have e:(i+(d.toArray.size:Int)).toNat=j:=by
   rw[seqIndex_neg ⋯ C]at h1;rw[J2,<- n];exact q0S h1
  exact subscriptTail_builtinR (x:=w) c.isList.typeIs slot_list_getitem.lookup
   (wpAny_getItem_list_neg (Q:=λr l=>r=w/\EP X a σ Q r l) c.isList ⋯ (by rw[J2]<;>omega) ⋯ (by rw[e];simpa using k) ⟨rfl,fin⟩) hs
theorem Eh:D5 X (Bh X.K):=by
 intro value slice a s σ H x y v u Q I rx ry h hs;obtain⟨p,xs,i,z,rfl,rfl,e,k,q⟩:=h;cases rx;obtain⟨t,rfl⟩:=ry;obtain⟨its,r,c,hz⟩:=I.tuple e;obtain⟨j,h1,h2,h3,h4,h5⟩:=rX k;obtain⟨w,l,b⟩:=r.get h2;have g:=r.length;have hn:=nk;have fin:EP X a σ Q w s:=⟨z,H,I,b,q⟩;exact subscriptTail_builtinR (x:=w) c.typeIs slot_tuple_getitem.lookup
  (getItem_tuple (j:=j) (Q:=λr d=>r=w/\EP X a σ Q r d) c ⋯ ⋯ (by rw[J2,<- g];exact h1) (by simpa using l) ⟨rfl,fin⟩) hs
theorem nq:D5 X Eo:=by
 intro value slice pins s σ H x y v u Q I rx ry h hs;obtain⟨z,i,c,rfl,rfl,hz,b,q⟩:=h;obtain⟨t,rfl⟩:=rx;obtain⟨t',rfl⟩:=ry;obtain⟨j,h1,h2,h3,e,d⟩:=rX b;have a:z.cps.toList.length=z.length:=by simp[Str.length]
 rw[a]at h1 e d;have hn:=nk;exact tail_any (typeIs_str s z t) slot_str_getitem.lookup (getItem_str (c:=c) (by
  have k:decide (i < -(2 ^ 63:Int))=false:=q08 ⋯;have g:decide (i≥2 ^ 63)=false:=q08 ⋯;rw[k,g,Bool.or_false]) (by rw[h1];simpa using h2) ⟨.str ⟨#[c]⟩,H,I.tok _,⟨_,rfl⟩,q⟩) hs
theorem q_(lo hi:Option Int)(n:Nat):(sliceBounds lo hi none n).1=((HT.sIx n 0 lo:Nat):Int)/\(sliceBounds lo hi none n).2.1=((HT.sIx n n hi:Nat):Int)/\(sliceBounds lo hi none n).2.2=1:=by
 refine⟨?_,?_,rfl⟩
 ·cases lo with
  |none=>simp[sliceBounds,HT.sIx]
  |some i=>
   simp only[sliceBounds,HT.sIx,Option.getD_none,show(1:Int)>0 by decide,if_true]
   by_cases h:i<0
   ·simp only[h,if_true]<;>omega
   ·simp only[h,if_false]<;>omega
 ·cases hi with
  |none=>simp[sliceBounds,HT.sIx]
  |some i=>
   simp only[sliceBounds,HT.sIx,Option.getD_none,show(1:Int)>0 by decide,if_true]
   by_cases h:i<0
   ·simp only[h,if_true]<;>omega
   ·simp only[h,if_false]<;>omega
theorem pH(its:KY)(lo hi:Option Int):slicePick its.toArray lo hi none=((its.drop (HT.sIx its.length 0 lo)).take (HT.sIx its.length its.length hi-HT.sIx its.length 0 lo)).toArray:=by
 obtain⟨h1,h2,a⟩:=q_ lo hi its.toArray.size;unfold slicePick;rw[h1,h2,a];simp only[sliceRange_one,pick_run,J2]<;>rfl
def Ew(K:KR):V->Option Int->Option Int->Hp->VK->Prop:=λx lo hi H Q=>∃a xs,x=.ref a/\aM K H a xs/\∀p,H p=none->Q (.ref p) (aE H p (.lst (j8 xs lo hi)))
theorem kq:Gy X (Ew X.K):=by
 intro pins s σ H x v vl vu lo hi sl Q I rx hs pl pu h;obtain⟨a,c,rfl,i,q⟩:=h;cases rx;obtain⟨its,r,e,g⟩:=I.list i;have d:=r.length;refine⟨"list",_,slot_list_getitem.lookup,e.isList.typeIs,?_⟩;refine wpAny_getItem_list_slice e.isList hs pl pu .none (by simp) ?_ (by rw[J2]<;>omega);rw[pH,<- d];refine⟨.ref s.heap.objs.size,_,I.laid (t':=s.toks) (o:=.lst (j8 c lo hi)) (λb ob q=>JV _ q) (Kg _) ?_,rfl,q _ (I.hok.fresh (Kg _))⟩;exact⟨Kn (uI c lo hi) g,_,0,(r.drop (HT.sIx c.length 0 lo)).take (HT.sIx c.length c.length hi-HT.sIx c.length 0 lo),J1 _ rfl⟩
def u7:V->Bool
 | .non=>true
 | .bl _=>true
 | .int _=>true
 | .str _=>true
 |_=>false
def CJ:V->V->Bool
 | .non,.non=>true
 | .bl a,.bl b=>a==b
 | .bl a,.int b=>(if a then 1 else 0)==b
 | .int a,.bl b=>a==(if b then 1 else 0)
 | .int a,.int b=>a==b
 | .str a,.str b=>a==b
 |_,_=>false
theorem ie{A:K4}{s:KW}{y x:V}{u v:Value}(ry:bK y u)(rx:bK x v)(fy:u7 y=true)(fx:u7 x=true):SeqAt.EqAt A s u v (CJ y x):=by
 cases y with
 |non=>
  cases ry;cases x with
  |non=>cases rx;exact SeqAt.EqAt.same _
  |bl b=>cases rx;exact SeqAt.EqAt.none_bool b
  |int b=>obtain⟨t,rfl⟩:=rx;exact SeqAt.EqAt.none_int b t
  |str b=>obtain⟨t,rfl⟩:=rx;exact SeqAt.EqAt.none_str b t
  |_=>exact q0Q (show false=true from fx) Ki
 |bl a=>
  cases ry;cases x with
  |non=>cases rx;exact SeqAt.EqAt.bool_none a
  |bl b=>cases rx;exact SeqAt.EqAt.bool_bool a b
  |int b=>obtain⟨t,rfl⟩:=rx;exact SeqAt.EqAt.bool_int a b t
  |str b=>obtain⟨t,rfl⟩:=rx;exact SeqAt.EqAt.bool_str a b t
  |_=>exact q0Q (show false=true from fx) Ki
 |int a=>
  obtain⟨c,rfl⟩:=ry;cases x with
  |non=>cases rx;exact SeqAt.EqAt.int_none a c
  |bl b=>cases rx;exact SeqAt.EqAt.int_bool a c b
  |int b=>obtain⟨t,rfl⟩:=rx;exact SeqAt.EqAt.int_int a c b t
  |str b=>obtain⟨t,rfl⟩:=rx;exact SeqAt.EqAt.int_str a c b t
  |_=>exact q0Q (show false=true from fx) Ki
 |str a=>
  obtain⟨c,rfl⟩:=ry;cases x with
  |non=>cases rx;exact SeqAt.EqAt.str_none a c
  |bl b=>cases rx;exact SeqAt.EqAt.str_bool a c b
  |int b=>obtain⟨t,rfl⟩:=rx;exact SeqAt.EqAt.str_int a c b t
  |str b=>obtain⟨t,rfl⟩:=rx;exact SeqAt.EqAt.str_str a c b t
  |_=>exact q0Q (show false=true from fx) Ki
 |_=>exact q0Q (show false=true from fy) Ki
theorem kg:eR X (.builtin "len") (λxs H Q=>∃p ys,xs=[.ref p]/\(aM X.K H p ys\/dZ X.K H p ys)/\Q (.int ys.length) H):=by
 intro pins s σ H xs us Q I r h;obtain⟨p,ys,rfl,hq,q⟩:=h;obtain⟨u,rfl,e⟩:=lX r;cases e;have hn:=nk;rcases hq with hq | hq
 ·obtain⟨d,b,c,g⟩:=I.list hq
  have a:=b.length;exact Calls.call_len_list c.isList (by simp only[J2]<;>omega) ⟨.int ys.length,H,I.tok _,⟨s.toks+1,by rw[J2,a]⟩,q⟩
 ·obtain⟨d,b,c,g⟩:=I.tuple hq
  have a:=b.length;exact len_tuple c (by simp only[J2]<;>omega) ⟨.int ys.length,H,I.tok _,⟨s.toks+1,by rw[J2,a]⟩,q⟩
theorem aW:eR X (.builtin "len") (λxs H Q=>∃z,xs=[.str z]/\z.length<=sizeLine/\Q (.int z.length) H):=by
 intro pins s σ H xs us Q I r h;obtain⟨z,rfl,hz,q⟩:=h;obtain⟨u,rfl,t,rfl⟩:=lX r;have hn:=nk;exact len_str ⋯ ⟨.int z.length,H,I.tok _,⟨_,rfl⟩,q⟩
theorem bY:eR X (.type "list") (λxs H Q=>∃p ys,xs=[.ref p]/\(aM X.K H p ys\/dZ X.K H p ys)/\∀l,H l=none->Q (.ref l) (aE H l (.lst ys))):=by
 intro i s σ H xs us Q I r h;obtain⟨p,ys,rfl,hq,q⟩:=h;obtain⟨u,rfl,z⟩:=lX r;cases z;have fin:∀(a:KY),bv ys a->ys.length<=sizeLine->∀(c:Heap) (g:Nat),(∀b o',s.heap.get? b=some o'->c.get? b=some o') ->
   c.get? s.heap.objs.size=some {cls:=.type "list",dict:=none,data:=.seq a.toArray g,slots:=#[]}->EP X i σ Q (.ref s.heap.objs.size) {s with heap:=c }:=λa d j c g kp e=>
  ⟨.ref s.heap.objs.size,_,I.laid (t':=s.toks) kp (Kg _) (show ci X.prog X.w _ c _ (.lst ys) from⟨j,a,g,d,e⟩),rfl,q _ (I.hok.fresh (Kg _))⟩
 rcases hq with hq | hq
 ·obtain⟨a,d,m,j⟩:=I.list hq
  have k:=d.length;obtain⟨o,v,y,n,x⟩:=m.isList;exact call_list_seq p (.inl rfl) v y x (λc g kp e=>fin a d j c g kp e) (by simp only[J2]<;>omega)
 ·obtain⟨a,d,m,j⟩:=I.tuple hq
  have k:=d.length;obtain⟨o,v,y,n,x⟩:=m;exact call_list_seq p (.inr rfl) v y x (λc g kp e=>fin a d j c g kp e) (by simp only[J2]<;>omega)
def GV(K:KR)(T:String)(x:V)(H:Hp):Prop:=match x with
 | .str _=>T="str"
 | .int _=>T="int"
 | .ref p=>(T="list"/\∃xs,aM K H p xs)\/(T="tuple"/\∃o,K.lookup p=some o/\o.cls=.type "tuple"/\o.dict=none) \/
   (T="dict"/\((∃kvs,H p=some (.dK kvs))\/∃kvs,H p=some (.dT kvs)))\/(T="set"/\∃S n,H p=some (.set S n))
 |_=>False
theorem El{pins:KS}{σ:St}{H:Hp}{s:KW}{T:String}{x:V}{v:Value}(I:Inv X pins σ H s)(r:bK x v)(ty:GV X.K T x H) :
  s.TypeIs v T/\∀a,v=.ref a->∃ob,s.heap.get? a=some ob/\ob.dict=none:=by
 cases x with
 |str z=>
  obtain⟨t,rfl⟩:=r;cases(show T="str" from ty);exact⟨typeIs_str s z t,λ_ e=>nomatch e⟩
 |int i=>
  obtain⟨t,rfl⟩:=r;cases(show T="int" from ty);exact⟨typeIs_int s i t,λ_ e=>nomatch e⟩
 |ref p=>
  cases r;rcases ty with⟨rfl,xs,m⟩ | ⟨rfl,o,b,q,j⟩ | ⟨rfl,b⟩ | ⟨rfl,S,n,b⟩
  ·obtain⟨its,_,l,_⟩:=I.list m
   refine⟨l.isList.typeIs,λa e=>?_⟩;cases e;obtain⟨o,n,e,c,j,_⟩:=l;exact⟨o,e,j⟩
  ·refine⟨⟨o,I.kIn p o b,q⟩,λa e=>?_⟩
   cases e;exact⟨o,I.kIn _ o b,j⟩
  ·have z:∃o,s.heap.get? p=some o/\o.ExactDict:=by
    rcases b with⟨g,b⟩ | ⟨g,b⟩
    ·obtain⟨_,_,_,_,o,_,_,e,d,_⟩:=I.hok p _ b
     exact⟨o,e,d⟩
    ·obtain⟨_,_,_,_,o,_,_,e,d,_⟩:=I.hok p _ b
     exact⟨o,e,d⟩
   obtain⟨o,e,d⟩:=z;refine⟨⟨o,e,d.1⟩,λa k=>?_⟩;cases k;exact⟨o,e,d.2.1⟩
  ·obtain⟨o,_,_,_,e,d,_⟩:=I.hok p _ b
   refine⟨⟨o,e,d.1⟩,λa k=>?_⟩;cases k;exact⟨o,e,d.2.1⟩
 |_=>exact False.elim ty
def Ft(K:KR)(T:String)(r:V->List V->Hp->VK->Prop)(to:TE)(t:TA):TE:=λσ H Q=>to σ H λx H1=>GV K T x H1/\t σ H1 λxs H2=>r x xs H2 Q
variable {o e:Expr}{es:K7}{to:TE}{t:TA}{name:Str}{apos cpos:Pos}{T id:String}{r:V->List V->Hp->VK->Prop}
theorem cJ(pa:PlainAttrs T)(slot:Slot T name id)(hty:typeOf (.builtin id)=pure (.type "method_descriptor"))(hm:Gj X id r)(ho:PE X o to)(ha:PA X (e::es) t)
  (hbase:autoParam (attributeBase o name X.env (eval o X.env)=eval o X.env) zz0._auto_1)
  (hfew:autoParam (((backTo cpos (starEach (e::es) X.env)).all (λx=>!x.1)&&(backToKw cpos (keywordEach [] X.env)).all (λx=>x.1.isSome)
   && decide ((e::es).length+([]:List Keyword).length+(if([]:List Keyword).isEmpty then 0 else 1)<30))=true) zz0._auto_1)
  (hline:autoParam ((apos.endLine==cpos.line)=true) zz0._auto_1) (hs:autoParam (starEach (e::es) X.env=(false,eval e X.env)::starEach es X.env) zz0._auto_1) (hplain:autoParam ((backTo cpos (starEach es X.env)).any (·.1)=false) zz0._auto_1) :
  PE X (.Call (.Attribute o name apos) (e::es) [] cpos) (Ft X.K T r to t):=by
 intro a s σ H Q I h;refine wpAny_Call_method_late hbase hfew hline rfl (cD (ho a s σ H _ I h) λv i ⟨x,H1,d,b,ty,l⟩=>?_);obtain⟨h1,h2⟩:=El d b ty;refine⟨T,id,pa,slot,hty,h1,h2,?_⟩;have c:=ha cpos a i σ H1 _ d l;rw[hs]at c ⊢;refine Calls.callWith_builtin (by show(false||(backTo cpos (starEach es X.env)).any (·.1))=false;rw[hplain]<;>rfl) (Calls.evalArgs_plain ?_);exact cD c λus g ⟨vs,H2,m,j,k⟩=>hm a g σ H2 x vs v us Q m b j k
end
def F3(X:Cx)(id:String)(r:V->List V->Hp->VK->Prop):Prop:=
 ∀(pins:KS) (s:KW) (σ:St) (H:Hp) (x:V) (xs:List V) (v:Value) (us:KY) (Q:VK),Inv X pins σ H s->bK x v->bv xs us->r x xs H Q ->
  wpAny (model X.prog X.w) X.A (call (.builtin id) (v::us)) (EP X pins σ Q) X.xe s
theorem bv.one{x:V}{us:KY}(h:bv [x] us):∃u,us=[u]/\bK x u:=by
 cases h with | cons r h=>cases h;exact⟨_,rfl,r⟩
theorem bv.two{x y:V}{us:KY}(h:bv [x,y] us):∃u v,us=[u,v]/\bK x u/\bK y v:=by
 cases h with | cons r h=>obtain⟨u,rfl,q⟩:=bv.one h;exact⟨_,_,rfl,r,q⟩
theorem bv.eraseIdx:∀{xs:List V} {us:KY} (i:Nat),bv xs us->bv (xs.eraseIdx i) (us.eraseIdx i)
 |_,_,_,.nil=>.nil
 |_,_,0,.cons _ t=>t
 |_,_,i+1,.cons r t=>.cons r (bv.eraseIdx i t)
theorem qv{α:Type}:∀(l:List α) (i:Nat),(l.eraseIdx i).length<=l.length
 | [],_=>Kg _
 |_::_,0=>Nat.le_succ _
 |_::r,i+1=>Nat.succ_le_succ (qv r i)
section
variable {X:Cx}{pins:KS}{σ:St}{H:Hp}{s:KW}{l b:Addr}{xs ys zs:List V}
theorem Inv.lset{its its':KY}{n:Nat}{f:Array Value->Array Value}{t':Nat}(I:Inv X pins σ H s)(hH:H l=some (.lst xs))
  (e:s.heap.get? l=some {cls:=.type "list",data:=.seq its.toArray n}) (hf:f its.toArray=its'.toArray) (hv:bv ys its') (hz:ys.length<=sizeLine) :
  Inv X pins σ (aE H l (.lst ys)) {s with heap:=s.heap.update l (Obj.mapSeq f),toks:=t' }:=by
 have q:=PySem.IsL.update e f;rw[hf]at q;refine I.write (x:=l) (e:=l) (by rw[hH];exact trivial) (.inl rfl) (λb' u b a=>(J0 s.heap (Obj.mapSeq f) (Ne.symm b)).trans a) ⟨_,q⟩ ?_;exact⟨hz,its',_,hv,q⟩
theorem Inv.lnew{its:KY}{t':Nat}(I:Inv X pins σ H s)(hv:bv ys its)(hz:ys.length<=sizeLine) :
  Inv X pins σ (aE H s.heap.objs.size (.lst ys)) {s with heap:=s.heap.push {cls:=.type "list",data:=.seq its.toArray},toks:=t' }:=
 I.laid (λ_ _ q=>JV _ q) (Kg _) ⟨hz,its,0,hv,J1 _ rfl⟩
theorem Inv.fresh(I:Inv X pins σ H s):H s.heap.objs.size=none:=I.hok.fresh (Kg _)
theorem Inv.lstM(I:Inv X pins σ H s)(hH:H l=some (.lst xs)):xs.length<=sizeLine/\∃(its:KY) (n:Nat),bv xs its/\xs.length=its.length/\s.heap.get? l=some {cls:=.type "list",data:=.seq its.toArray n}:=by
 obtain⟨z,its,n,r,e⟩:=I.hok l _ hH;exact⟨z,its,n,r,r.length,e⟩
theorem BE{n:Nat}(h:n<=sizeLine):Builtin.List.listTooLong n=false:=by
 unfold Builtin.List.listTooLong;exact q08 ⋯
end
section
variable {X:Cx}
def rC:V->List V->Hp->VK->Prop:=λx vs H Q=>∃l xs y,x=.ref l/\vs=[y]/\H l=some (.lst xs)/\xs.length<sizeLine/\Q .non (aE H l (.lst (xs++[y])))
theorem bo:F3 X "list.append" rC:=by
 intro pins s σ H x vs v us Q I rx rv h;obtain⟨l,xs,y,rfl,rfl,b,hz,q⟩:=h;cases rx;obtain⟨u,rfl,c⟩:=rv.one;obtain⟨z,a,n,r,hl,e⟩:=I.lstM b;refine call_meets F.slot_list_append ⟨_,e,rfl⟩ F.entry_list_append (F.args_list_append_2 _ _) (PySem.list_append l a.toArray n u (by rw[J2];omega)) ⟨e,?_⟩;refine⟨.non,_,I.lset (its':=a++[u]) b e (by simp) (r.append (.cons c .nil)) ?_,rfl,q⟩;rw[Kf,q0Z];omega
theorem q03{X:Cx}{o e:Expr}{es:List Expr}{to:TE}{t:TA}{apos cpos:Pos}(ho:PE X o to)(ha:PA X (e::es) t)
  (hbase:autoParam (attributeBase o "append" X.env (eval o X.env)=eval o X.env) zz0._auto_1)
  (hfew:autoParam (((backTo cpos (starEach (e::es) X.env)).all (λx=>!x.1)&&(backToKw cpos (keywordEach [] X.env)).all (λx=>x.1.isSome)
   && decide ((e::es).length+([]:List Keyword).length+(if([]:List Keyword).isEmpty then 0 else 1)<30))=true) zz0._auto_1)
  (hline:autoParam ((apos.endLine==cpos.line)=true) zz0._auto_1) (hs:autoParam (starEach (e::es) X.env=(false,eval e X.env)::starEach es X.env) zz0._auto_1) (hplain:autoParam ((backTo cpos (starEach es X.env)).any (·.1)=false) zz0._auto_1) :
  PE X (.Call (.Attribute o "append" apos) (e::es) [] cpos) (Ft X.K "list" rC to t):=cJ PySem.F.plainAttrs_list PySem.F.slot_list_append PySem.F.type_list_append bo ho ha hbase hfew hline hs hplain
def sQ:V->List V->Hp->VK->Prop:=λx vs H Q=>∃l b xs zs,x=.ref l/\vs=[.ref b]/\H l=some (.lst xs)/\H b=some (.lst zs)/\xs.length+zs.length<=sizeLine/\Q .non (aE H l (.lst (xs++zs)))
theorem yh:F3 X "list.extend" sQ:=by
 intro pins s σ H x vs v us Q I rx rv h;obtain⟨l,b,xs,zs,rfl,rfl,i,o,hz,q⟩:=h;cases rx;obtain⟨u,rfl,j⟩:=rv.one;cases j;obtain⟨z,c,n,r,hl,e⟩:=I.lstM i;obtain⟨z2,a,m,k,hl2,p⟩:=I.lstM o;have g:c.toArray.size+a.toArray.size<=sizeLine:=by rw[J2,J2];omega
 have d:¬ (!c.toArray.isEmpty&&Builtin.List.listTooLong (c.toArray.size+a.toArray.size))=true:=by
  rw[BE g,Bool.and_false];exact Ki
 refine call_meets F.slot_list_extend ⟨_,e,rfl⟩ F.entry_list_extend (F.args_list_extend_2 _ _)
  (AutoSeq1.list_extend_list_list_0 l c.toArray n b a.toArray m d (by rw[J2];omega) ⋯) ⟨e,p,?_⟩
 refine⟨.non,_,I.lset (its':=c++a) i e (by simp) (r.append k) ?_,rfl,q⟩;rw[Kf];omega
def wR:V->List V->Hp->VK->Prop:=λx vs H Q=>∃l xs i k y,x=.ref l/\vs=[.int i]/\H l=some (.lst xs)/\-(2 ^ 63)<=i/\i<2 ^ 63/\seqIndex? i xs.length=some k/\xs[k]?=some y/\Q y (aE H l (.lst (xs.eraseIdx k)))
theorem Az:F3 X "list.pop" wR:=by
 intro pins s σ H x vs v us Q I rx rv h;obtain⟨l,d,i,k,y,rfl,rfl,c,h1,h2,p,j,q⟩:=h;cases rx;obtain⟨u,rfl,g⟩:=rv.one;obtain⟨t,rfl⟩:=g;obtain⟨z,a,n,r,o,e⟩:=I.lstM c;obtain⟨w,m,b⟩:=r.get j;refine call_meets F.slot_list_pop ⟨_,e,rfl⟩ F.entry_list_pop (F.args_list_pop_2 _ _)
  (MeetsSeq.list_pop_at l a.toArray n i t k w (fitsIndex_both h1 h2) (by rw[J2,<- o];exact p) (by rw[<- q0G];exact m) (by rw[J2];omega)) ⟨e,?_⟩
 refine⟨y,_,I.lset (its':=a.eraseIdx k) c e ?_ (r.eraseIdx k) ?_,b,q⟩
 ·show a.toArray.eraseIdxIfInBounds k=(a.eraseIdx k).toArray
  rw[List.eraseIdxIfInBounds_toArray]
 ·have:=qv d k
  omega
def EE:R2:=λx y H Q=>∃l b xs zs,x=.ref l/\y=.ref b/\H l=some (.lst xs)/\H b=some (.lst zs)/\xs.length+zs.length<=sizeLine/\∀p,H p=none->Q (.ref p) (aE H p (.lst (xs++zs)))
theorem rK:bd X (binaryOp .Add) EE:=by
 intro pins s σ H x y v u Q I rx ry h;obtain⟨l,b,xs,zs,rfl,rfl,g,i,hz,q⟩:=h;cases rx;cases ry;obtain⟨z,c,n,r,hl,e⟩:=I.lstM g;obtain⟨z2,a,n2,d,hl2,k⟩:=I.lstM i;refine PySem.P.add_list e k ?_ (by rw[J2,J2];omega);have j:c.toArray++a.toArray=(c++a).toArray:=by simp
 rw[j];exact⟨.ref _,_,I.lnew (t':=s.toks) (r.append d) (by rw[Kf];omega),rfl,q _ I.fresh⟩
theorem tP{α:Type}(xs:List α)(k:Nat):(List.replicate k xs).flatten.length=k*xs.length:=by
 induction k with
 |zero=>simp
 |succ k ih=>rw[List.replicate_succ,List.flatten_cons,Kf,ih,Nat.succ_mul,Nat.add_comm]
end
section
variable {κ:Type}[DecidableEq κ]
def dL(kvs:List (κ×V))(k:κ):Option V:=(kvs.find? λkv=>decide (kv.1=k)).map (·.2)
def dH(kvs:List (κ×V))(k:κ)(v:V):List (κ×V):=
 if(kvs.any λkv=>decide (kv.1=k))=true then kvs.map (λkv=>if kv.1=k then(kv.1,v) else kv) else kvs++[(k,v)]
theorem fG{p:κ×V}{r:List (κ×V)}{k:κ}(e:p.1=k):dL (p::r) k=some p.2:=by simp[dL,List.find?_cons,e]
theorem fT{p:κ×V}{r:List (κ×V)}{k:κ}(e:¬ p.1=k):dL (p::r) k=dL r k:=by simp[dL,List.find?_cons,e]
theorem gU(k:κ):∀kvs:List (κ×V),(kvs.any λkv=>decide (kv.1=k))=(dL kvs k).isSome
 | []=>rfl
 |p::r=>by
  rw[List.any_cons]
  by_cases e:p.1=k
  ·simp only[fG e,q09 e,Bool.true_or,Option.isSome_some]
  ·rw[fT e,q08 e,Bool.false_or];exact gU k r
theorem gi(kvs:List (κ×V))(k:κ)(v:V):(dH kvs k v).length<=kvs.length+1:=by
 unfold dH
 split
 ·rw[JW];omega
 ·rw[Kf,J6,List.length_nil];omega
theorem BW{kvs:List (κ×V)}{k:κ}(v:V)(h:dL kvs k=none):dH kvs k v=kvs++[(k,v)]:=by
 unfold dH;rw[gU,h];exact q06 (by decide)
theorem jc.isSome_eq{o:Option V}{u:Option Value}(r:jc o u):o.isSome=u.isSome:=by
 cases o with
 |none=>cases u with
  |none=>rfl
  |some _=>exact(show False from r).elim
 |some _=>cases u with
  |none=>exact(show False from r).elim
  |some _=>rfl
theorem KV.val{kvs:List (κ×V)}{vs:List (κ×Value)}(r:KV kvs vs)(k:κ):jc (dL kvs k) (valueAt vs k):=by
 unfold KV at r
 induction r with
 |nil=>exact True.intro
 | @cons p q ps qs h t ih=>
  obtain⟨h1,h2⟩:=h
  by_cases e:p.1=k
  ·have a:q.1=k:=h1.symm.trans e
   have b:valueAt (q::qs) k=some q.2:=by simp[valueAt,List.find?_cons,a]
   rw[fG e,b];exact h2
  ·have a:¬ q.1=k:=λz=>e (h1.trans z)
   have b:valueAt (q::qs) k=valueAt qs k:=by simp[valueAt,List.find?_cons,a]
   rw[fT e,b];exact ih
theorem KV.any{kvs:List (κ×V)}{vs:List (κ×Value)}(r:KV kvs vs)(k:κ):(kvs.any λkv=>decide (kv.1=k))=vs.any λkv=>decide (kv.1=k):=by
 unfold KV at r
 induction r with
 |nil=>rfl
 |cons h t ih=>rw[List.any_cons,List.any_cons,ih,h.1]
theorem KV.repl{kvs:List (κ×V)}{vs:List (κ×Value)}(r:KV kvs vs)(k:κ){y:V}{u:Value}(ry:bK y u) :
  KV (kvs.map λkv=>if kv.1=k then(kv.1,y) else kv) (vs.map λkv=>if kv.1=k then(kv.1,u) else kv):=by
 unfold KV at r ⊢
 induction r with
 |nil=>exact .nil
 | @cons p q ps qs h t ih=>
  rw[Km,Km];refine .cons ?_ ih;obtain⟨h1,h2⟩:=h
  by_cases e:p.1=k
  ·rw[q07 e,q07 (h1.symm.trans e)];exact⟨h1,ry⟩
  ·rw[q06 e,q06 (λz=>e (h1.trans z))];exact⟨h1,h2⟩
theorem KV.put{kvs:List (κ×V)}{vs:List (κ×Value)}(r:KV kvs vs)(k:κ){y:V}{u:Value}(ry:bK y u):KV (dH kvs k y) (stored vs k u):=by
 unfold dH stored;rw[r.any k]
 by_cases e:(vs.any λa=>decide (a.1=k))=true
 ·rw[q07 e,q07 e];exact r.repl k ry
 ·rw[q06 e,q06 e];exact Paired.snoc r ⟨rfl,ry⟩
theorem KV.keys{kvs:List (κ×V)}{vs:List (κ×Value)}(r:KV kvs vs):kvs.map (·.1)=vs.map (·.1):=by
 unfold KV at r
 induction r with
 |nil=>rfl
 |cons h t ih=>rw[Km,Km,ih,h.1]
theorem KV.length{kvs:List (κ×V)}{vs:List (κ×Value)}(r:KV kvs vs):kvs.length=vs.length:=Paired.length r
end
theorem oS{P:K2}{w:K5}{k:cP}{u:Value}(r:bK (kV k) u):(cz P w).is k u=true:=by
 cases k with
 |inl i=>obtain⟨t,e⟩:=(show ∃t,u=Value.int i t from r);subst e;exact uD P w i t
 |inr x=>obtain⟨t,e⟩:=(show ∃t,u=Value.str x t from r);subst e;exact uE P w x t
theorem qg{P:K2}{w:K5}:∀{ks:List cP} {us:KY},bv (ks.map kV) us->ItemsAre (cz P w) ks us
 | [],_,r=>by rw[List.map_nil]at r;cases r;exact .nil
 |k::ks,_,r=>by
  rw[Km]at r;cases r with
  |cons h t=>exact .cons (oS h) (qg t)
abbrev KT(H:Hp):List (List cP×V)->List (List cP×Addr×Value)->Prop:=Paired λp q=>p.1=q.1/\H q.2.1=some (.tup (p.1.map kV))/\bK p.2 q.2.2
theorem KT.val{H:Hp}{kvs:List (List cP×V)}{xs:List (List cP×Addr×Value)}(r:KT H kvs xs)(k:List cP):jc (dL kvs k) ((atKey xs k).map (·.2)):=by
 induction r with
 |nil=>exact True.intro
 | @cons p q ps qs h t ih=>
  obtain⟨h1,_,h2⟩:=h
  by_cases e:p.1=k
  ·have a:q.1=k:=h1.symm.trans e
   have b:atKey (q::qs) k=some q.2:=by simp[atKey,List.find?_cons,a]
   rw[fG e,b];exact h2
  ·have a:¬ q.1=k:=λz=>e (h1.trans z)
   have b:atKey (q::qs) k=atKey qs k:=by simp[atKey,List.find?_cons,a]
   rw[fT e,b];exact ih
theorem KT.repl{H:Hp}{kvs:List (List cP×V)}{xs:List (List cP×Addr×Value)}(r:KT H kvs xs)(k:List cP){y:V}{u:Value}(ry:bK y u) :
  KT H (kvs.map λkv=>if kv.1=k then(kv.1,y) else kv) (xs.map (putAt k u)):=by
 induction r with
 |nil=>exact .nil
 | @cons p q ps qs h t ih=>
  rw[Km,Km];refine .cons ?_ ih;obtain⟨h1,h2,a⟩:=h;unfold putAt
  by_cases e:p.1=k
  ·rw[q07 e,q07 (h1.symm.trans e)];exact⟨h1,h2,ry⟩
  ·rw[q06 e,q06 (λz=>e (h1.trans z))];exact⟨h1,h2,a⟩
theorem KT.put{H:Hp}{kvs:List (List cP×V)}{xs:List (List cP×Addr×Value)}(r:KT H kvs xs)(k:List cP){b:Addr}{y:V}{u:Value}(hb:H b=some (.tup (k.map kV)))(ry:bK y u) :
  KT H (dH kvs k y) (storedH xs k b u):=by
 have e:(kvs.any λa=>decide (a.1=k))=(atKey xs k).isSome:=by
  rw[gU,(r.val k).isSome_eq,Option.isSome_map]
 unfold dH storedH;rw[e]
 by_cases q:(atKey xs k).isSome=true
 ·rw[q07 q,q07 q];exact r.repl k ry
 ·rw[q06 q,q06 q];exact Paired.snoc r ⟨rfl,hb,ry⟩
theorem KT.keeps{H H':Hp}{kvs:List (List cP×V)}{xs:List (List cP×Addr×Value)}(r:KT H kvs xs)(ht:∀b ys,H b=some (.tup ys)->H' b=some (.tup ys)):KT H' kvs xs:=
 Paired.mapP r λ_ _ z=>⟨z.1,ht _ _ z.2.1,z.2.2⟩
section
variable {P:K2}{w:K5}{H:Hp}{h:Heap}{a:Addr}
theorem DG{u:HO}(ok:jf P w H h)(e:Rd H a u):ci P w H h a u:=e.ok ok
theorem o0{kvs:List (cP×V)}(ok:jf P w H h)(e:Rd H a (.dK kvs)):kvs.length<=sizeLine/\(a==sysModules)=false/\∃vs,KV kvs vs/\h.DictOf (cz P w) a vs:=
 show ci P w H h a (.dK kvs) from DG ok e
theorem nv{kvs:List (cP×V)}(ok:jf P w H h)(e:H a=some (.dK kvs)):kvs.length<=sizeLine/\(a==sysModules)=false/\∃vs,KV kvs vs/\h.DictOf (cz P w) a vs:=o0 ok (.inl e)
theorem oV{ks:List cP}(ok:jf P w H h)(e:H a=some (.tup (ks.map kV))):(tupleKind (cz P w)).is h ks a:=by
 obtain⟨_,b,r,o,h1,h2,n,c⟩:=(show ci P w H h a (.tup (ks.map kV)) from ok a _ e);exact⟨o,b.toArray,n,h1,h2,c,by simpa using qg r⟩
theorem ju{kvs:List (List cP×V)}(ok:jf P w H h)(e:Rd H a (.dT kvs)):kvs.length<=sizeLine/\(a==sysModules)=false /\
  ∃xs,KT H kvs xs/\h.DictOfH (tupleKind (cz P w)) a xs:=by
 obtain⟨z,y,xs,r,o,g,i,h1,h2,d,c,b⟩:=(show ci P w H h a (.dT kvs) from DG ok e);refine⟨z,y,xs,r,o,g,i,h1,h2,d,c,λx hx=>?_,b⟩;have all:∀{l:List (List cP×V)} {m:List (List cP×Addr×Value)},KT H l m->∀x∈m,(tupleKind (cz P w)).is h x.1 x.2.1:=by
  intro l m q
  induction q with
  |nil=>intro x hx;exact nomatch hx
  | @cons p q ps qs hq t ih=>
   intro x hx;rcases J_.mp hx with e | hx
   ·subst e
    exact oV ok (by rw[<- hq.1];exact hq.2.1)
   ·exact ih x hx
 exact all r x hx
theorem Fg{kvs:List (List cP×V)}(ok:jf P w H h)(e:H a=some (.dT kvs)):kvs.length<=sizeLine/\(a==sysModules)=false /\
  ∃xs,KT H kvs xs/\h.DictOfH (tupleKind (cz P w)) a xs:=ju ok (.inl e)
end
def my(H:Hp)(a:Addr)(y:V)(r:Option V):Prop:=
 (∃kvs k,Rd H a (.dK kvs)/\y=kV k/\r=dL kvs k)\/∃kvs k b,Rd H a (.dT kvs)/\y=.ref b/\H b=some (.tup (k.map kV))/\r=dL kvs k
def vE(H:Hp)(a:Addr)(y v:V)(H':Hp):Prop:=
 (∃kvs k,H a=some (.dK kvs)/\y=kV k/\kvs.length<sizeLine/\H'=aE H a (.dK (dH kvs k v))) \/
 ∃kvs k b,H a=some (.dT kvs)/\y=.ref b/\H b=some (.tup (k.map kV))/\kvs.length<sizeLine/\H'=aE H a (.dT (dH kvs k v))
theorem my.t{H:Hp}{a b:Addr}{kvs:List (List cP×V)}{k:List cP}(e:H a=some (.dT kvs))(eb:H b=some (.tup (k.map kV))):my H a (.ref b) (dL kvs k):=.inr ⟨kvs,k,b,.inl e,rfl,eb,rfl⟩
theorem vE.t{H:Hp}{a b:Addr}{kvs:List (List cP×V)}{k:List cP}{v:V}(e:H a=some (.dT kvs))(eb:H b=some (.tup (k.map kV)))(hl:kvs.length<sizeLine) :
  vE H a (.ref b) v (aE H a (.dT (dH kvs k v))):=.inr ⟨kvs,k,b,e,rfl,eb,hl,rfl⟩
section
variable {X:Cx}{pins:KS}{σ:St}{H:Hp}{s:KW}{a:Addr}{y v:V}{u r:Value}{o:Option V}{A:K4}{E:KQ}
theorem Inv.big(I:Inv X pins σ H s):sysModules<s.heap.objs.size:=by
 have h:mainGlobals<s.heap.objs.size:=(I.mod.glob.keeps I.bk).lt;exact Nat.lt_trans (by decide) h
theorem yl{Q:KQ}(hu:A.units+1<cLine)(I:Inv X pins σ H s)(g:my H a y (some v))(ry:bK y u)(h:∀w' s',Inv X pins σ H s'->bK v w'->Q w' s') :
  wpAny (model X.prog X.w) A (getItem (.ref a) u) Q E s:=by
 rcases g with⟨i,k,e,n,l⟩ | ⟨i,k,b,e,n,B,l⟩
 ·subst n
  obtain⟨z,x,vs,d,q⟩:=o0 I.hok e;obtain⟨w',j,c⟩:=jc.some_of (v:=v) (o:=valueAt vs k) (by rw[l];exact d.val k);exact wpAny_getItem_of (oS ry) q.mapOf j (h w' _ (I.tok _) c)
 ·subst n
  cases(show u=Value.ref b from ry);obtain⟨z,x,r,d,q⟩:=ju I.hok e;obtain⟨w',j,c⟩:=jc.some_of (v:=v) (o:=(atKey r k).map (·.2)) (by rw[l];exact d.val k);obtain⟨p,w,m⟩:=Kk.mp j;refine wpAny_getItem_heap (tupleKind_room_in1 hu) (oV I.hok B) q w ?_;rw[m];exact h w' _ (I.tok _) c
theorem GO{Q:KQ}(hu:A.units+1<cLine)(I:Inv X pins σ H s)(g:my H a y o)(ry:bK y u)(h:∀s',Inv X pins σ H s'->Q (.bool o.isSome) s') :
  wpAny (model X.prog X.w) A (compareOp .In u (.ref a)) Q E s:=by
 rcases g with⟨d,k,e,j,l⟩ | ⟨d,k,b,e,j,n,l⟩
 ·subst j
  obtain⟨z,i,vs,c,m⟩:=o0 I.hok e;refine wpAny_in_of (oS ry) i m.mapOf ?_;rw[<- (c.val k).isSome_eq,<- l];exact h _ (I.tok _)
 ·subst j
  cases(show u=Value.ref b from ry);obtain⟨z,i,xs,c,m⟩:=ju I.hok e;refine wpAny_in_heap (tupleKind_room_in1 hu) (oV I.hok n) i m ?_;have q:=(c.val k).isSome_eq;rw[Option.isSome_map]at q;rw[<- q,<- l];exact h _ (I.tok _)
theorem Dz{Q:KQ}(hu:A.units+1<cLine)(I:Inv X pins σ H s)(g:my H a y o)(ry:bK y u)(h:∀s',Inv X pins σ H s'->Q (.bool (!o.isSome)) s') :
  wpAny (model X.prog X.w) A (compareOp .NotIn u (.ref a)) Q E s:=by
 rcases g with⟨d,k,e,j,l⟩ | ⟨d,k,b,e,j,n,l⟩
 ·subst j
  obtain⟨z,i,vs,c,m⟩:=o0 I.hok e;refine wpAny_notIn_of (oS ry) i m.mapOf ?_;rw[<- (c.val k).isSome_eq,<- l];exact h _ (I.tok _)
 ·subst j
  cases(show u=Value.ref b from ry);obtain⟨z,i,xs,c,m⟩:=ju I.hok e;refine wpAny_notIn_heap (tupleKind_room_in1 hu) (oV I.hok n) i m ?_;have q:=(c.val k).isSome_eq;rw[Option.isSome_map]at q;rw[<- q,<- l];exact h _ (I.tok _)
theorem mU{h':Heap}{t':Nat}{ob:HO}(I:Inv X pins σ H s)(mu:FH (H a))(hs:Heap.SameBut a s.heap h')(he:∃q,h'.get? a=some q)(new:ci X.prog X.w (aE H a ob) h' a ob) :
  Inv X pins σ (aE H a ob) {s with heap:=h',toks:=t' }:=
 I.write (x:=a) (e:=a) mu (.inl rfl) (λb q hb z=>(hs.2 b hb).trans z) he new
theorem v7{P:K2}{w:K5}{H':Hp}{h':Heap}{kvs:List (cP×V)}{vs:List (cP×Value)}(z:kvs.length<=sizeLine)(hd:(a==sysModules)=false)(rel:KV kvs vs)(dd:h'.DictOf (cz P w) a vs) :
  ci P w H' h' a (.dK kvs):=⟨z,hd,vs,rel,dd⟩
theorem yw{H':Hp}{Q:Unit->Shared->Prop}(hu:A.units+1<cLine)(I:Inv X pins σ H s)(g:vE H a y v H')(ry:bK y u)(rv:bK v r)(h:∀s',Inv X pins σ H' s'->Q () s') :
  wpAny (model X.prog X.w) A (setItem (.ref a) u r) Q E s:=by
 rcases g with⟨i,k,e,x,l,B⟩ | ⟨i,k,b,e,x,J,l,B⟩
 ·subst x B
  obtain⟨z,w,vs,d,C⟩:=nv I.hok e;have n:vs.length<=sizeLine:=by rw[<- d.length];exact z
  have p:(dH i k v).length<=sizeLine:=by have:=gi i k v;omega
  refine wpAny_setItem_pairs (hsz:=n) (oS ry) C λD j o=>h _ ?_;have M:∃q,D.get? a=some q:=let ⟨q,_,_,m,_⟩:=j;⟨q,m⟩
  exact mU I (by rw[e];exact True.intro) o M (v7 p w (d.put k rv) j)
 ·subst x B
  cases(show u=Value.ref b from ry);obtain⟨z,w,L,d,C⟩:=Fg I.hok e;have n:L.length<=sizeLine:=by rw[<- Paired.length d];exact z
  have p:(dH i k v).length<=sizeLine:=by have:=gi i k v;omega
  refine wpAny_setItem_heap (hsz:=n) (tupleKind_room_in1 hu) (oV I.hok J) C λD j o=>h _ ?_;obtain⟨q,T,U,m,h2,S,R,_,O⟩:=j;refine mU I (by rw[e];exact True.intro) o ⟨q,m⟩ ⟨p,w,_,(d.put k J rv).keeps λc ys G=>?_,q,T,U,m,h2,S,R,O⟩;rw[av (nV G e (λz=>nomatch z))];exact G
end
section
variable {X:Cx}{pins:KS}{σ:St}{H:Hp}{s:KW}{a:Addr}{kvs:List (cP×V)}{k:cP}{u:Value}{A:K4}{E:KQ}
theorem FI{Q:KQ}(I:Inv X pins σ H s)(e:Rd H a (.dK kvs))(h:∀t s',Inv X pins σ H s'->Q (.int kvs.length t) s'):wpAny (model X.prog X.w) A (call (.builtin "len") [.ref a]) Q E s:=by
 obtain⟨z,c,vs,b,d⟩:=o0 I.hok e;refine call_len_dict c d (by rw[<- b.length];rw[q0W]at z;omega) ?_;rw[<- b.length];exact h _ _ (I.tok _)
end
def Fp(i:Expr):Prop:=∀ov iv,subscripted i false ov iv=operate [ov,iv] (getItem ov iv)
theorem CW{prog:K2}{w:K5}{A:K4}{E:KQ}{s:KW}{env:Env}{value slice:Expr}{pos:Pos}{T id:String}{Q:KQ}
  (hl:typeLookup (.type T) "__getitem__"=pure (some (.builtin id))) (hs:Fp slice)
  (h:wpAny (model prog w) A (eval value env) (λo s₁=>wpAny (model prog w) A (eval slice env) (λi s₂=>s₂.TypeIs o T/\wpAny (model prog w) A (getItem o i) Q E s₂) E s₁) E s) :
  wpAny (model prog w) A (eval (.Subscript value slice pos) env) Q E s:=by
 refine Subscript_ (q0X h (λo s₁ e=>q0X e (λi s₂ a=>?_) λ_ _ x=>x) λ_ _ x=>x);obtain⟨c,a⟩:=a;unfold subscriptTail;refine q04 ?_;rw[getitemInPython_of_ne c.not_modules];refine q04 (wpAny_specialOf c hl ?_);have fin:wpAny (model prog w) A (subscripted slice false o i) (λr b=>wpAny (model prog w) A (letTemporaryGo value o r >>= λ_=>pure r) Q E b) E s₂:=by
  rw[hs o i];exact wpAny_operating (q0X a (λr b d=>q04 (wpAny_letTemporaryGo (q05 d))) λ_ _ x=>x)
 first
  |exact q05 (q04 fin)
  |exact q04 (q05 (q04 fin))
  |exact q04 fin
theorem uZ{X:Cx}{pins:KS}{σ:St}{H:Hp}{s:KW}{a:Addr}{y:V}{o:Option V}(I:Inv X pins σ H s)(g:my H a y o):s.TypeIs (.ref a) "dict":=by
 rcases g with⟨c,k,e,_,_⟩ | ⟨c,k,b,e,_,_,_⟩
 ·obtain⟨_,_,vs,_,d⟩:=o0 I.hok e
  exact d.typeIs
 ·obtain⟨_,_,xs,_,d⟩:=ju I.hok e
  exact d.typeIs
def AL(td ty:TE):TE:=λσ H Q=>td σ H λx H1=>ty σ H1 λy H2=>∃a v,x=.ref a/\my H2 a y (some v)/\Q v H2
def E4(ty td:TE):TE:=λσ H Q=>ty σ H λy H1=>td σ H1 λx H2=>∃a o,x=.ref a/\my H2 a y o/\Q (.bl o.isSome) H2
def s_(ty td:TE):TE:=λσ H Q=>ty σ H λy H1=>td σ H1 λx H2=>∃a o,x=.ref a/\my H2 a y o/\Q (.bl (!o.isSome)) H2
def Bk(td ty tv:TE):TS:=λD σ H=>tv σ H λv H1=>td σ H1 λx H2=>ty σ H2 λy H3=>∃a H4,x=.ref a/\vE H3 a y v H4/\D.nx σ H4
section
variable {X:Cx}{o i e value:Expr}{pos pos' tpos:Pos}{td ty tv:TE}
theorem kh(hu:X.A.units+1<cLine)(ho:PE X o td)(hi:PE X i ty)(hs:Fp i):PE X (.Subscript o i pos) (AL td ty):=by
 intro b s σ H Q I h;refine CW PySem.F.slot_dict_getitem.lookup hs (cD (ho b s σ H _ I h) λu e ⟨x,H1,q,k,m⟩=>cD (hi b e σ H1 _ q m) λiv s2 ⟨y,H2,d,j,a,v,n,g,l⟩=>?_);subst n;obtain rfl:u=Value.ref a:=k;exact⟨uZ d g,yl hu d g j λw' s3 p c=>⟨v,H2,p,c,l⟩⟩
theorem vO(hu:X.A.units+1<cLine)(hi:PE X i ty)(ho:PE X o td):PC X .In i o (E4 ty td):=by
 intro b s σ H Q I h;refine cD (hi b s σ H _ I h) λiv c ⟨y,H1,q,d,k⟩=>cD (ho b c σ H1 _ q k) λu s2 ⟨x,H2,p,e,a,l,m,g,j⟩=>?_;subst m;obtain rfl:u=Value.ref a:=e;exact GO hu p g d λs3 n=>⟨.bl l.isSome,H2,n,rfl,j⟩
theorem qY(hu:X.A.units+1<cLine)(hi:PE X i ty)(ho:PE X o td):PC X .NotIn i o (s_ ty td):=by
 intro b s σ H Q I h;refine cD (hi b s σ H _ I h) λiv c ⟨y,H1,q,d,k⟩=>cD (ho b c σ H1 _ q k) λu s2 ⟨x,H2,p,e,a,l,m,g,j⟩=>?_;subst m;obtain rfl:u=Value.ref a:=e;exact Dz hu p g d λs3 n=>⟨.bl (!l.isSome),H2,n,rfl,j⟩
theorem kf(hu:X.A.units+1<cLine)(ho:PE X o td)(hi:PE X i ty)(hv:PE X value tv)(hs:swapsWith value (some (.Subscript o i pos')) pos.line X.env=pure false) :
  PS X (.Assign [.Subscript o i pos'] value pos) (Bk td ty tv):=by
 intro b s σ H D I h;refine wpAny_Assign_Subscript (cD (hv b s σ H _ I h) λr d ⟨v,H1,B,k,n⟩=>cD (ho b d σ H1 _ B n) λu c ⟨x,H2,z,j,m⟩=>cD (hi b c σ H2 _ z m) λiv s3 ⟨y,H3,w,e,a,C,p,g,l⟩=>?_) hs;subst p;obtain rfl:u=Value.ref a:=j;exact yw hu w g e k λs4 q=>⟨σ,C,q,l⟩
end
theorem vh{P:K2}{w:K5}{H:Hp}(h:Heap)(hb:sysModules<h.objs.size):ci P w H (h.push {cls:=.type "dict",data:=.dict #[]}) h.objs.size (.dK []):=
 ⟨Kh _,beq_eq_false_iff_ne.mpr (Ne.symm (Kc hb)),[],.nil,Heap.DictOf.new h⟩
theorem Bm{P:K2}{w:K5}{H:Hp}(h:Heap)(hb:sysModules<h.objs.size):ci P w H (h.push {cls:=.type "dict",data:=.dict #[]}) h.objs.size (.dT []):=
 ⟨Kh _,beq_eq_false_iff_ne.mpr (Ne.symm (Kc hb)),[],.nil,_,#[],0,J1 _ rfl,⟨rfl,rfl,rfl⟩,rfl,rfl,List.nodup_nil⟩
def vZ:TE:=λ_ H Q=>∀p,H p=none->Q (.ref p) (aE H p (.dK []))
def v6:TE:=λ_ H Q=>∀p,H p=none->Q (.ref p) (aE H p (.dT []))
section
variable {X:Cx}{pos:Pos}
theorem oX:PE X (.Dict [] [] pos) vZ:=λpins s σ H Q I h=>
 wpAny_Dict_empty ⟨.ref s.heap.objs.size,_,I.laid (a:=s.heap.objs.size) (o:=.dK []) (t':=s.toks) (λ_ _ q=>JV _ q) (Kg _) (vh s.heap I.big),rfl,h _ (I.hok.fresh (Kg _))⟩
theorem u6:PE X (.Dict [] [] pos) v6:=λpins s σ H Q I h=>
 wpAny_Dict_empty ⟨.ref s.heap.objs.size,_,I.laid (a:=s.heap.objs.size) (o:=.dT []) (t':=s.toks) (λ_ _ q=>JV _ q) (Kg _) (Bm s.heap I.big),rfl,h _ (I.hok.fresh (Kg _))⟩
end
def nh:List (TE×TE)->St->Hp->(List (V×V)->Hp->Prop)->Prop
 | [],_,H,Q=>Q [] H
 | (tk,tv)::r,σ,H,Q=>tk σ H λx H1=>tv σ H1 λy H2=>nh r σ H2 λps H3=>Q ((x,y)::ps) H3
abbrev VV:List (V×V)->List (Value×Value)->Prop:=Paired λp q=>bK p.1 q.1/\bK p.2 q.2
def Gg(X:Cx)(pos:Pos)(keys:List (Option Expr))(values:K7)(trs:List (TE×TE)):Prop:=
 ∀(pins:KS) (s:KW) (σ:St) (H:Hp) (Q:List (V×V)->Hp->Prop),Inv X pins σ H s->nh trs σ H Q ->
  wpAny (model X.prog X.w) X.A (evalPairs (pairTrees keys values X.env pos)) (λvs s'=>∃ps H',Inv X pins σ H' s'/\VV ps vs/\Q ps H') X.xe s
theorem CD{X:Cx}{pos:Pos}:Gg X pos [] [] []:=λpins s σ H Q I h=>pairTrees_nil_walk ⟨[],H,I,.nil,h⟩
theorem Bf{X:Cx}{pos:Pos}{k v:Expr}{ks:List (Option Expr)}{vs:K7}{tk tv:TE}{trs:List (TE×TE)}(hk:PE X k tk)(hv:PE X v tv)(hr:Gg X pos ks vs trs) :
  Gg X pos (some k::ks) (v::vs) ((tk,tv)::trs):=λpins s σ H Q I h=>
 pairTrees_cons_walk (cD (hk pins s σ H _ I h) λu s1 ⟨x,H1,I1,rx,q1⟩=>cD (hv pins s1 σ H1 _ I1 q1) λw2 s2 ⟨y,H2,I2,ry,q2⟩=>
  cD (hr pins s2 σ H2 _ I2 q2) λws s3 ⟨ps,H3,I3,rel,q3⟩=>⟨(x,y)::ps,H3,I3,.cons ⟨rx,ry⟩ rel,q3⟩)
def oU(kvs more:List (cP×V)):List (cP×V):=more.foldl (λacc kv=>dH acc kv.1 kv.2) kvs
theorem KV.merge:∀{more:List (cP×V)} {rs:List (cP×Value)} {kvs:List (cP×V)} {vs:List (cP×Value)},KV more rs->KV kvs vs->KV (oU kvs more) (merged vs rs):=by
 intro more rs kvs vs r;unfold KV at r
 induction r generalizing kvs vs with
 |nil=>intro q;exact q
 | @cons p q ps qs h t ih=>
  intro a;have e:KV (dH kvs p.1 p.2) (stored vs q.1 q.2):=by
   have:=a.put p.1 h.2;rw[<- h.1];exact this
  exact ih e
theorem jt:∀(more kvs:List (cP×V)),(oU kvs more).length<=kvs.length+more.length
 | [],kvs=>by show kvs.length<=kvs.length+0;omega
 |p::r,kvs=>by
  have h1:=jt r (dH kvs p.1 p.2);have h2:=gi kvs p.1 p.2;show(oU (dH kvs p.1 p.2) r).length<=_;rw[J6];omega
theorem nB{P:K2}{w:K5}:∀{kvs:List (cP×V)} {ws:List (Value×Value)},VV (kvs.map λkv=>(kV kv.1,kv.2)) ws->∃rs,Carries (cz P w) ws rs/\KV kvs rs
 | [],_,r=>by rw[List.map_nil]at r;cases r;exact⟨[],True.intro,.nil⟩
 |p::kvs,_,r=>by
  rw[Km]at r;cases r with
  | @cons a b as bs h t=>
   obtain⟨rs,c,q⟩:=nB (P:=P) (w:=w) t;obtain⟨b1,b2⟩:=b;exact⟨(p.1,b2)::rs,⟨oS h.1,rfl,c⟩,.cons ⟨rfl,h.2⟩ q⟩
def BR(trs:List (TE×TE)):TE:=λσ H Q=>∀p,H p=none->nh trs σ (aE H p (.dK [])) λps H2=>H2 p=some (.dK [])/\∃kvs:List (cP×V),ps=kvs.map (λkv=>(kV kv.1,kv.2))/\kvs.length<=15/\Q (.ref p) (aE H2 p (.dK (oU [] kvs)))
theorem Dy{X:Cx}{pos:Pos}{keys:List (Option Expr)}{values:K7}{trs:List (TE×TE)}(h:Gg X pos keys values trs)(hall:keys.all (·.isSome)=true)(hl:keys.length=values.length)(h0:keys≠[])
  (h15:keys.length<=15):PE X (.Dict keys values pos) (BR trs):=by
 intro b s σ H Q I q;have r:=I.hok.fresh (Kg s.heap.objs.size);have B:=I.laid (a:=s.heap.objs.size) (o:=.dK []) (h':=s.heap.push {cls:=.type "dict",data:=.dict #[]}) (t':=s.toks) (λ_ _ q=>JV _ q) (Kg _) (vh s.heap I.big);refine wpAny_Dict_walk (knd:=cz X.prog X.w) hall hl h0 h15 (cD (h b _ σ _ _ B (q _ r)) λws s2 ⟨ps,H2,j,i,e,d,x,lk,m⟩=>?_);subst x;obtain⟨k,c,rk⟩:=nB (P:=X.prog) (w:=X.w) i;obtain⟨z,v,vs0,l,y⟩:=nv j.hok e;cases l;refine⟨k,c,y,λh' g p=>⟨.ref s.heap.objs.size,_,?_,rfl,m⟩⟩;have n:(oU [] d).length<=sizeLine:=by
  have h1:=jt d [];rw[List.length_nil]at h1;rw[q0W];omega
 have u:∃q,h'.get? s.heap.objs.size=some q:=let ⟨q,_,_,hq,_⟩:=g;⟨q,hq⟩
 exact mU j (by rw[e];exact True.intro) p u (v7 n v (rk.merge .nil) g)
structure M1(X:Cx)(o:Expr)(m:Str)(apos:Pos)(e:Expr)(cpos:Pos):Prop where
 base:attributeBase o m X.env (eval o X.env)=eval o X.env
 few:((backTo cpos (starEach [e] X.env)).all (λx=>!x.1)&&(backToKw cpos (keywordEach [] X.env)).all (λx=>x.1.isSome)
  && decide (([e]:List Expr).length+([]:List Keyword).length+(if([]:List Keyword).isEmpty then 0 else 1)<30))=true
 line:(apos.endLine==cpos.line)=true
 trees:backTo cpos (starEach [e] X.env)=[(false,eval e X.env)]
structure M2(X:Cx)(o:Expr)(m:Str)(apos:Pos)(e f:Expr)(cpos:Pos):Prop where
 base:attributeBase o m X.env (eval o X.env)=eval o X.env
 few:((backTo cpos (starEach [e,f] X.env)).all (λx=>!x.1)&&(backToKw cpos (keywordEach [] X.env)).all (λx=>x.1.isSome)
  && decide (([e,f]:List Expr).length+([]:List Keyword).length+(if([]:List Keyword).isEmpty then 0 else 1)<30))=true
 line:(apos.endLine==cpos.line)=true
 trees:backTo cpos (starEach [e,f] X.env)=[(false,eval e X.env),(false,eval f X.env)]
def Hb(H:Hp)(a:Addr):Prop:=(∃kvs,Rd H a (.dK kvs))\/∃kvs,Rd H a (.dT kvs)
theorem zW{X:Cx}{pins:KS}{σ:St}{H:Hp}{s:KW}{a:Addr}(I:Inv X pins σ H s)(d:Hb H a) :
  s.TypeIs (.ref a) "dict"/\(∀b,Value.ref a=.ref b->∃ob,s.heap.get? b=some ob/\ob.dict=none)/\(a==sysModules)=false:=by
 rcases d with⟨g,e⟩ | ⟨g,e⟩
 ·obtain⟨_,i,vs,_,c⟩:=o0 I.hok e
  refine⟨c.typeIs,λb q=>?_,i⟩;cases q;obtain⟨ob,_,_,h1,h2,_⟩:=c;exact⟨ob,h1,h2.2.1⟩
 ·obtain⟨_,i,xs,_,c⟩:=ju I.hok e
  refine⟨c.typeIs,λb q=>?_,i⟩;cases q;obtain⟨ob,_,_,h1,h2,_⟩:=c;exact⟨ob,h1,h2.2.1⟩
end L2
namespace Att
open PySem PySem.W PySem.Calls PyProof.Rows
theorem mz{P:Params}{h:Heap}:∀(ns:List Int) (vs:KY),WellAll P h vs (ns.map WData.int)->IntsAre vs ns:=by
 intro ns
 induction ns with
 |nil=>
  intro vs w;rw[List.map_nil]at w;cases w;exact .nil
 |cons n ns ih=>
  intro vs w;rw[Km]at w;cases w with
  |cons a b=>
   cases a;exact .cons _ _ (ih _ b)
theorem yN{l:OpenLaw}{n:Nat}(hn:l.most=some n){P:Params}{h:Heap}{args:List WData}{vals:KY}
  (hpre:l.row.toRowW.claim.pre args=true) (hwl:WellAll P h vals args) :
  ∃a vs ns,vals=[Value.ref a]/\args=[WData.list (ns.map WData.int)]/\h.get? a=some {cls:=.type "list",data:=.seq vs.toArray}/\IntsAre vs ns/\ns.length<=n:=by
 have g:WShape.hasAll [] args [.list .int]=true:=(pre_splitW hpre).1;have i:l.pre.holds [] {args:=args}=true:=(pre_splitW hpre).2;obtain⟨d,r,rfl,h1,h2⟩:=hasAllW_cons g;obtain rfl:=hasAllW_nil h2;obtain⟨xs,rfl,k⟩:=hasW_list h1;obtain⟨ns,rfl⟩:=items_int k;have b:ns.length<=n:=by
  unfold OpenLaw.pre at i;have e:(WTm.not (.lt (.lit (.int (n:Int))) (.len (.arg 0)))).holds [] {args:=[.list (ns.map .int)]}=true:=by
   have e:=(holds_andW i).1;rw[hn]at e;exact e
  have c:=condW_of e (w_not (w_lt w_lit (w_len_list (w_arg rfl))));rw[JW]at c;refine Nat.le_of_not_lt λq=>?_;have j:(n:Int)<((ns.length:Nat):Int):=by omega
  first
   | (rw[q09 j]at c;exact q0Q c (by decide))
   | (simp at c;omega)
 cases hwl with
 |cons w1 w2=>
  cases w2;cases w1 with
  |list ho hall=>exact⟨_,_,ns,rfl,rfl,ho,mz ns _ hall,b⟩
theorem yy(l:OpenLaw)(args:List WData):l.row.toRowW.claim.post args (.bool true) args=true:=
 postW_of (r:=l.row.toRowW) (X:=(true==true))
  (show WShape.has [] (.bool true) .bool=true by first | rfl | decide | simp[WShape.has,WShape.arms,WShape.armsAll])
  (show(WTm.eq .res (.lit (.bool true))).value [] {args:=args,res:=some (.bool true),after:=args}=some (.bool (true==true)) from w_eq_bool (w_res rfl) w_lit) rfl
theorem attach_call{l:OpenLaw}{n:Nat}{q:K2}{loose:K3}{XP:(Str->Option Value)->Heap->Prop}{YP:World->Heap->Prop}{d:DefRec}
  (hn:l.most=some n) (hdf:d.params.defaults=[])
  (call:∀(w:K5) (s₀ s₁:KW) (mg mb:K0) (fa:Addr) (o:Obj) (pm cd doc:Value) (a:Addr) (vs:KY) (ns:List Int),
   Ground q loose [] XP w s₀ mg mb s₁.heap->YP w s₁.heap ->
   s₁.heap.get? fa=some o->o.data=.func (docDef d.name d.params d.body d.scope pm cd doc)->s₁.heap.CodeRec cd d.name->mg d.name=some (.ref fa) ->
   s₁.heap.get? a=some {cls:=.type "list",data:=.seq vs.toArray}->IntsAre vs ns->ns.length<=n->s₁.gens=#[] ->
   codeAny (model l.prog w) callerA (.call (.ref fa) ⟨[.ref a],[]⟩) (λr s'=>r=.ok (.ret (.bool true))/\OldK s₁.heap s'.heap/\s'.os=s₁.os/\AllBare s'.gens) s₁) :
  WalkO q loose XP YP l.row.toRowW d [] (λf vs=>PySem.call f vs):=by
 intro w s₀ s₁ mg mb G Y fa o pm cd doc C kV u y k m j x args vals as c hlay hrd i hlo;obtain rfl:C=.none:=Dflts.none m hdf;obtain rfl:kV=.none:=Dflts.noKw m;obtain⟨a,vs,ns,rfl,rfl,e,b,g⟩:=yN hn c i;refine enter_call (codeAny_mono (call w s₀ s₁ mg mb fa o pm cd doc a vs ns G Y u (fd_plain y) k j e b g x) λr s' p=>?_);obtain⟨rfl,h2,B,z⟩:=p;exact⟨.inl ⟨.bool true,.bool true,[],rfl,λ_=>rfl,.bool true,yy l _,λ_=>⟨List.Pairwise.nil,λ_ v=>(nomatch v)⟩⟩,h2,B,z⟩
section
variable {prog:K2}{w:K5}{A:K4}{E:KQ}{s:KW}{K:Frag}
end
end Att
namespace L2
open PySem PySem.Spec PyProof.Rows
theorem qR:∀{vs:KY} {ns:List Int},IntsAre vs ns->bv (ns.map V.int) vs
 |_,_,.nil=>.nil
 |_,_,.cons n t h=>.cons ⟨t,rfl⟩ (qR h)
def EO(H:Hp):Prop:=∀b,H b=none\/∃o xs,H b=some (.frz o (.lst xs))
theorem zU{P:K2}{w:K5}{K:KR}{mg mb:K0}{CX:j0}{k:Nat}{fa a:Addr}{fd:K1}{x:Str}{sp:Sp}{s₁:KW}{vs:KY}{ns:List Int}
  (KX:K.In s₁.heap) (hns:s₁.heap.Ns mainGlobals mg) (hb:s₁.heap.Ns builtinsNs mb) (hbb:∀x:Str,x≠"__name__"->mb x=bootBuiltins x) (hlim:s₁.heap.NoLimit) (hg:s₁.gens=#[])
  (ha:s₁.heap.get? a=some {cls:=.type "list",data:=.seq vs.toArray}) (hi:IntsAre vs ns) (hl:ns.length<=sizeLine) (hr:c8 k callerA)
  (F:∀base:Heap,K.In base->base.Ns mainGlobals mg->bw P w K mg base CX k fa fd [x] sp) (hbind:∀(s:KW) (u:Value),BindsTo s fd ⟨[u],[]⟩ [(x,u)])
  (hsp:∀H:Hp,EO H->aM K H a (ns.map V.int)->sp [.ref a] H (λv _=>v=.bl true) λ_ _ _=>False)
  (hCX:∀H e s',CX [] H s₁ (λ_ _ _=>False) e s'->False) :
  codeAny (model P w) callerA (.call (.ref fa) ⟨[.ref a],[]⟩) (λr s'=>r=.ok (.ret (.bool true))/\OldK s₁.heap s'.heap/\s'.os=s₁.os/\AllBare s'.gens) s₁:=by
 have J:=qR hi;have l:=hi.length
 -- from an abstract heap in which nothing but the script may be tracked
 have i:∀H:Hp,EO H->aM K H a (ns.map V.int)->jf P w H s₁.heap->(∀b,H b≠none->b=a)->(H a≠none->K.lookup a=none) ->
   codeAny (model P w) callerA (.call (.ref fa) ⟨[.ref a],[]⟩) (λr s'=>r=.ok (.ret (.bool true))/\OldK s₁.heap s'.heap/\s'.os=s₁.os/\AllBare s'.gens) s₁:=by
  intro H L Y y M hK;have c:∀{b:Addr} {o:Obj},s₁.heap.get? b=some o->H b=none->(tm s₁.heap H).get? b=some o:=λe n=>BM e n;have D:∀{b:Addr} {o:Obj} {es:Array DictEntry} {ep:Nat},s₁.heap.get? b=some o->o.data=.dict es ep->H b=none:=fun{b o es ep} e d=>by
   cases q:H b with
   |none=>rfl
   |some u=>
    have I:b=a:=M b (by rw[q];simp);subst I;rw[ha]at e;cases e
    have d':Data.seq vs.toArray _=Data.dict es ep:=d;cases d'
  have g:∀{b:Addr} {m:K0},s₁.heap.Ns b m->(tm s₁.heap H).Ns b m:=fun{b m} ⟨o,es,ep,e,d,r⟩=>⟨o,es,ep,c e (D e d),d,r⟩;have B:K.In (tm s₁.heap H):=λb o e=>c (KX b o e) (by
   cases q:H b with
   |none=>rfl
   |some u=>
    have I:b=a:=M b (by rw[q];simp);subst I;rw[hK (by rw[q];simp)]at e;cases e)
  have Z:Mod K mg (tm s₁.heap H):=⟨B,g hns,⟨mb,g hb,hbb⟩,let ⟨mc,h1,h2⟩:=hlim;⟨mc,g h1,h2⟩⟩;have e0:nK P w K mg (tm s₁.heap H) callerA [] s₁ H:=⟨rfl,Z,λb o e=>Ci e,Nat.le_of_eq (zf _ _),trivial,λb hb=>q0Q (show b∈([]:List Addr) from hb) (by simp),y,.of_eq hg⟩;refine codeAny_mono ((F _ B (g hns)).run callerA [] s₁ H ⟨[.ref a],[]⟩ [.ref a] [.ref a] _ _ hr e0 (hbind s₁ (.ref a)) (.cons rfl .nil) (hsp H L Y)) λr s' h=>?_;cases r with
  |error e=>exact(hCX H e s' h).elim
  |ok fl=>
   cases fl with
   |next=>exact False.elim h
   |brk=>exact False.elim h
   |cont=>exact False.elim h
   |ret u=>
    obtain⟨v,H',os,C,un,p,S,q⟩:=h;have T:v=.bl true:=q;subst T;obtain rfl:u=Value.bool true:=S;refine⟨rfl,OldK.of_keep λb o e=>?_,os,C⟩;cases q:H b with
    |none=>exact un.keep b o e q (by intro z;exact q0Q (show b∈([]:List Addr) from z) (by simp)) (by simp)
    |some u=>
     rcases L b with z | ⟨U,xs,z⟩
     ·rw[q]at z;cases z
     ·have R:=un.frzs b U _ z
      obtain⟨O,_⟩:=y b _ z;obtain⟨e2,_⟩:=p b _ R;rw[e]at O;cases O
      exact e2
 cases G:K.lookup a with
 |some o=>
  -- the script is one of the module's own objects
  have e:=KX a o G;rw[ha]at e;cases e;refine i (λ_=>none) (λ_=>.inl rfl) (.inr ⟨_,vs.toArray,_,G,rfl,rfl,rfl,by rw[J2,l];exact hl,by simpa using J⟩) (λb u z=>by have j:(none:Option HO)=some u:=z;cases j) (λb z=>q0Q rfl z) λz=>q0Q rfl z
 |none=>
  refine i (λb=>if b=a then some (.frz {cls:=.type "list",data:=.seq vs.toArray} (.lst (ns.map V.int))) else none) (λb=>?_) (.inl (.inr ⟨{cls:=.type "list",data:=.seq vs.toArray},q07 rfl⟩)) (λb u z=>?_) (λb z=>?_) λ_=>G
  ·by_cases hb:b=a
   ·exact .inr ⟨_,_,q07 hb⟩
   ·exact .inl (q06 hb)
  ·by_cases hb:b=a
   ·have j:=(q07 hb).symm.trans z
    cases j;subst hb;exact⟨ha,by rw[JW];exact hl,vs,_,J,ha⟩
   ·have j:=(q06 hb).symm.trans z
    cases j
  ·by_cases hb:b=a
   ·exact hb
   ·exact q0Q (q06 hb) z
theorem walk_of{l:PySem.W.OpenLaw}{n k:Nat}{q:K2}{loose:K3}{XP:(Str->Option Value)->Heap->Prop}{YP:World->Heap->Prop}{d:DefRec}{K:Params->PySem.W.Frag}{CX:World->j0}{sp:World->Sp}{x:Str}
  (hn:l.most=some n) (hn2:n<=sizeLine) (hdf:d.params.defaults=[]) (hr:c8 k callerA)
  (hY:∀(w:K5) (h:Heap),YP w h->(K w.params).In h)
  (F:∀(w:K5) (mg:K0) (fa:Addr) (h:Heap),(K w.params).In h->h.Ns mainGlobals mg->mg d.name=some (.ref fa) ->
   ∃fd:FuncData,(∀(s:KW) (u:Value),BindsTo s fd ⟨[u],[]⟩ [(x,u)]) /\
    ∀base:Heap,(K w.params).In base->base.Ns mainGlobals mg->bw l.prog w (K w.params) mg base (CX w) k fa fd [x] (sp w))
  (hsp:∀(w:K5) (H:Hp) (a:Addr) (ns:List Int),ns.length<=n->EO H->aM (K w.params) H a (ns.map V.int)->sp w [.ref a] H (λv _=>v=.bl true) λ_ _ _=>False)
  (hCX:∀(w:K5) (H:Hp) (s:KW) (e:Value) (s':KW),CX w [] H s (λ_ _ _=>False) e s'->False) :
  PySem.W.WalkO q loose XP YP l.row.toRowW d [] (λf vs=>PySem.call f vs):=by
 refine Att.attach_call hn hdf λw s₀ r mg mb fa o pm cd doc a vs ns G Y ho hd hcd m j i c y=>?_;have p:=hY w _ Y;obtain⟨fd,z,D⟩:=F w mg fa _ p G.T.g m;exact zU p G.T.g G.T.b G.T.builtins G.T.nolimit y j i (Kn c hn2) hr D z (λH C B=>hsp w H a ns c C B) λH e s'=>hCX w H r e s'
def dO(s:Stmt):Arguments:=match s with
 | .FunctionDef _ a _ _ _ _ _ _ _ _=>a
 |_=>{posonlyargs:=[],args:=[],vararg:=none,kwonlyargs:=[],kw_defaults:=[],kwarg:=none,defaults:=[]}
def dz(s:Stmt):List Stmt:=match s with
 | .FunctionDef _ _ b _ _ _ _ _ _ _=>b
 |_=>[]
def aw(s:Stmt):Scope:=match s with
 | .FunctionDef _ _ _ _ _ _ sc _ _ _=>sc
 |_=>{kind:=.function,names:=[],isGenerator:=false,isCoroutine:=false}
abbrev bD:j0:=λ_ _ _ _ _ _=>False
abbrev E0:XK:=λ_ _ _=>False
theorem aK{X:Cx}:dC bD X E0:=λ_ _ _ _ _ _ _ h=>h.elim
structure dw(K:KR)(x qual:Str)(st:Stmt)(f:Addr)(fd:K1):Prop where
 ex:∃(oc:Value) (od:K6) (kV doc pm:Value) (an:K6) (cdv ct:Value) (osl:Array (Option Value)),
  fd=PySem.W.fnOf x qual (dO st) (dz st) (aw st) .none kV doc pm an cdv ct/\K.lookup f=some ⟨oc,od,.func fd,osl⟩/\PySem.W.codeIn K cdv qual=true
 kp:PySem.W.keepIn K (.ref f)=true
section
variable {P:K2}{w:K5}{K:KR}{mg:K0}{base:Heap}
theorem dw.ok{x qual:Str}{st:Stmt}{f:Addr}{fd:K1}{N ps:K3}{k:Nat}{sp:Sp}(F:dw K x qual st f fd)(S:aH N ps (aw st))(len:∀vs H Q E,sp vs H Q E->vs.length=ps.length)
  (hbody:∀(cdv:Value) (A:K4) (outer:List Env) (s:KW) (H:Hp) (vs:List V) (Q:VK) (E:XK),c8 k (A.deeper (envOfC qual (aw st) s.heap.objs.size f cdv))->sp vs H Q E ->
   ∃t,vB (u0 bD P w K mg base N qual (aw st) f cdv A outer s H E).nox (dz st) t/\t {nx:=λ_ H'=>Q .non H',rt:=Q} (start N vs) H):bw P w K mg base bD (k+1) f fd ps sp:=by
 obtain⟨oc,od,kV,doc,pm,an,cdv,ct,osl,rfl,c,b⟩:=F.ex;refine FQ c b S len λA outer s H vs Q E hr a=>?_;obtain⟨t,h,q⟩:=hbody cdv A outer s H vs Q E hr a;exact⟨t,h.nox,q⟩
theorem dw.binds{x qual:Str}{st:Stmt}{f:Addr}{fd:K1}{ps:K3}(F:dw K x qual st f fd)
  (h:∀(kV doc pm:Value) (an:K6) (cdv ct:Value) (us:KY),us.length=ps.length->bindArgs (PySem.W.fnOf x qual (dO st) (dz st) (aw st) .none kV doc pm an cdv ct) ⟨us,[]⟩=pure (ps.zip us)):dX K fd ps []:=by
 obtain⟨oc,od,kV,doc,pm,an,cdv,ct,osl,rfl,lk,hcd⟩:=F.ex;exact .all (h kV doc pm an cdv ct)
theorem df{x qual:Str}{st:Stmt}{f:Addr}{oc:Value}{od an:K6}{osl:Array (Option Value)}{kV doc pm cdv ct:Value}(l:K.lookup f=some ⟨oc,od,.func (PySem.W.fnOf x qual (dO st) (dz st) (aw st) .none kV doc pm an cdv ct),osl⟩)
  (c:PySem.W.codeIn K cdv qual=true) (k:PySem.W.keepIn K (.ref f)=true):dw K x qual st f (PySem.W.fnOf x qual (dO st) (dz st) (aw st) .none kV doc pm an cdv ct):=⟨⟨oc,od,kV,doc,pm,an,cdv,ct,osl,rfl,l,c⟩,k⟩
end
section
variable {X:Cx}
theorem pv(i:Nat){x:Str}{pos:Pos}(hN:autoParam (X.N[i]?=some x) zz0._auto_1)(hv:autoParam (F5 X.env.scope x) zz5._auto_1)(hd:autoParam ((x==("__debug__":Str))=false) zz1._auto_1)
  (hcd:autoParam ((x==("__classdict__":Str))=false) zz1._auto_1):PE X (.Name x pos) (BH i):=Ex hN hv hd hcd
theorem yk:eR X (.builtin "len") (λxs H Q=>∃a kvs,xs=[V.ref a]/\H a=some (.dK kvs)/\Q (.int kvs.length) H):=by
 intro pins s σ H xs us Q I r h;obtain⟨a,kvs,rfl,c,q⟩:=h;obtain⟨u,rfl,b⟩:=lX r;cases b;exact FI I (.inl c) λt s' d=>⟨.int kvs.length,H,d,⟨t,rfl⟩,q⟩
end
def aD(H H':Hp):Prop:=∀b o,H b=some o->H' b=some o
theorem aD.refl(H:Hp):aD H H:=λ_ _ h=>h
theorem aD.trans{H H1 H2:Hp}(a:aD H H1)(b:aD H1 H2):aD H H2:=λc o h=>b c o (a c o h)
theorem aD.free{H H':Hp}(e:aD H H'){l:Addr}(h:H' l=Option.none):H l=Option.none:=by
 cases q:H l with
 |none=>rfl
 |some o=>
  rw[e l o q]at h;cases h
theorem aD.seq{K:KR}{H H':Hp}{a:Addr}{xs:List V}(e:aD H H')(h:aM K H a xs):aM K H' a xs:=by
 rcases h with(h | ⟨o,h⟩) | h
 ·exact .inl (.inl (e _ _ h))
 ·exact .inl (.inr ⟨o,e _ _ h⟩)
 ·exact .inr h
section
variable {κ:Type}[DecidableEq κ]
theorem BJ{kvs:List (κ×V)}{k:κ}(h:dL kvs k=none):¬ k∈kvs.map (·.1):=by
 intro m;obtain⟨p,b,e⟩:=KF.mp m;have q:(kvs.any λa=>decide (a.1=k))=true:=List.any_eq_true.mpr ⟨p,b,q09 e⟩;rw[gU,h]at q;exact q0Q q (by simp)
end
end L2
namespace PySem
open Sem (wp)
open Builtin Builtin.Str Builtin.Int
namespace F
theorem lE:Manifest.owners.lookup "reversed"=some Manifest.sig_reversed:=by kernel_rfl
theorem slot_rvs_next:Slot "reversed" "__next__" "reversed.__next__":=
 .of (owner:="reversed") (n:="__next__") (by rw[typeLookup_type,builtinLookup_eq_fast];kernel_rfl) (by decide +kernel) (by decide +kernel) (by decide +kernel)
  (by first | exact .inl (by decide +kernel) | exact .inr (by decide +kernel)) (by rw[isSubtype_type];kernel_rfl)
theorem entry_rvs_next:entryFor table "reversed.__next__"=some Builtin.«reversed.__next__»:=entryFor_of_tree (by kernel_rfl)
theorem slot_rvs_iter:Slot "reversed" "__iter__" "reversed.__iter__":=
 .of (owner:="reversed") (n:="__iter__") (by rw[typeLookup_type,builtinLookup_eq_fast];kernel_rfl) (by decide +kernel) (by decide +kernel) (by decide +kernel)
  (by first | exact .inl (by decide +kernel) | exact .inr (by decide +kernel)) (by rw[isSubtype_type];kernel_rfl)
theorem nolen_rvs:typeLookup (.type "reversed") "__len__"=pure none:=by rw[typeLookup_type,builtinLookup_eq_fast];kernel_rfl
theorem hint_rvs:typeLookup (.type "reversed") "__length_hint__"=pure (some (.builtin "reversed.__length_hint__")):=by rw[typeLookup_type,builtinLookup_eq_fast];kernel_rfl
theorem args_rvs_next_1(a:Value):argsOk "reversed.__next__" ⟨[a],[]⟩:=by
 unfold argsOk;rw[signature?_of (id:="reversed.__next__") (n:=['_','_','t','x','e','n','_','_']) (o:=['d','e','s','r','e','v','e','r']) (by kernel_rfl) lE];kernel_rfl
theorem args_rvs_iter_1(a:Value):argsOk "reversed.__iter__" ⟨[a],[]⟩:=by
 unfold argsOk;rw[signature?_of (id:="reversed.__iter__") (n:=['_','_','r','e','t','i','_','_']) (o:=['d','e','s','r','e','v','e','r']) (by kernel_rfl) lE];kernel_rfl
theorem entry_rvs_iter:entryFor table "reversed.__iter__"=some Builtin.«dict_keyiterator.__iter__»:=
 entryFor_alias (id':="dict_keyiterator.__iter__") (by kernel_rfl) (by first | rfl | decide +kernel | (unfold String.splitOn;simp +decide [String.splitOnAux])) (by decide +kernel) (by kernel_rfl)
theorem slot_rvs_hint:Slot "reversed" "__length_hint__" "reversed.__length_hint__":=
 .of (owner:="reversed") (n:="__length_hint__") (by rw[typeLookup_type,builtinLookup_eq_fast];kernel_rfl) (by decide +kernel) (by decide +kernel) (by decide +kernel)
  (by first | exact .inl (by decide +kernel) | exact .inr (by decide +kernel)) (by rw[isSubtype_type];kernel_rfl)
theorem entry_rvs_hint:entryFor table "reversed.__length_hint__"=some Builtin.«reversed.__length_hint__»:=entryFor_of_tree (by kernel_rfl)
theorem args_rvs_hint_1(a:Value):argsOk "reversed.__length_hint__" ⟨[a],[]⟩:=by
 unfold argsOk;rw[signature?_of (id:="reversed.__length_hint__") (n:=['_','_','t','n','i','h','_','h','t','g','n','e','l','_','_']) (o:=['d','e','s','r','e','v','e','r']) (by kernel_rfl) lE];kernel_rfl
end F
section
variable {prog:K2}{w:K5}{A:K4}{E:KQ}{s:KW}
def wz(x:Str)(t:Tok)(i:Int):Obj:={cls:=.type "reversed",data:=.fields #[.str x t,rawInt i]}
def Heap.IsRvs(h:Heap)(a:Addr)(x:Str)(t:Tok)(i:Int):Prop:=∃o,h.get? a=some o/\o.cls=.type "reversed"/\o.data=.fields #[.str x t,rawInt i]
theorem Heap.IsRvs.typeIs{a:Addr}{x:Str}{t:Tok}{i:Int}(y:s.heap.IsRvs a x t i):s.TypeIs (.ref a) "reversed":=let ⟨o,ho,hc,_⟩:=y;⟨o,ho,hc⟩
theorem Heap.IsRvs.at{h h':Heap}{a:Addr}{x:Str}{t:Tok}{i:Int}(y:h.IsRvs a x t i)(e:∀o,h.get? a=some o->h'.get? a=some o):h'.IsRvs a x t i:=let ⟨o,ho,r⟩:=y;⟨o,e _ ho,r⟩
theorem iy{it:Addr}{x:Str}{t:Tok}{i c:Nat}{Q:Option Value->Shared->Prop}(hit:s.heap.IsRvs it x t (i:Int))(hx:x.cps[i]?=some c)(hsz:i<2 ^ 63)
  (hQ:∀h' tk tk',h'.IsRvs it x t ((i:Int)-1)->Heap.SameBut it s.heap h'->Q (some (.str ⟨#[c]⟩ tk)) {s with heap:=h',toks:=tk' }):wpAny (model prog w) A (pyNext (.ref it)) Q E s:=by
 obtain⟨o,d,k,b⟩:=id hit;have g:i<x.length:=(Array.getElem?_eq_some_iff.mp hx).1;unfold pyNext;refine q04 (wpAny_attempt (wpAny_callSpecial?_slot (name:=Str.ofString "__next__") hit.typeIs F.slot_rvs_next
  (wpAny_call_entry F.slot_rvs_next hit.typeIs F.entry_rvs_next ?_ (F.args_rvs_next_1 _))))
 unfold Builtin.«reversed.__next__»;refine q04 (wpAny_of_eq (a:=(Value.ref it,[])) rfl ?_)
 try dsimp only
 refine q04 (wpAny_field d b (x:=.str x t) rfl ?_);refine q04 (wpAny_field d b (x:=rawInt (i:Int)) rfl ?_);show wpAny _ _ (if(i:Int)<0 then _ else _) _ _ s;rw[q06 ⋯];refine q04 (wpAny_specialOf (typeIs_str s x t) F.slot_str_getitem.lookup ?_)
 try dsimp only
 first
 |rw[q06 (show ¬ ((some (Value.builtin "str.__getitem__")).isNone=true) from Ki)]
 |skip
 refine q04 (wpAny_mkInt ?_);refine q04 (wpAny_attempt ?_);have l:(seqIndex? (i:Int) x.length).bind (x.cps[·]?)=some c:=by
  have e:seqIndex? (i:Int) x.length=some i:=by
   have j:¬ ((i:Int)<0):=by omega
   unfold seqIndex?;simp[j,g]
  rw[e];exact hx
 refine P.getItem_str (c:=c) (by simp;omega) l ?_;dsimp only;refine q04 (wpAny_field d b (x:=rawInt (i:Int)) rfl ?_);show wpAny _ _ (setField (Value.ref it) 1 (rawInt ((i:Int)-1)) >>= λ_=>ret (Value.str ⟨#[c]⟩ _)) _ _ _;refine q04 (wpAny_setField d b (by simp) ?_);refine q05 ⟨_,rfl,q05 (hQ _ _ _ ?_ (Heap.SameBut.update ..))⟩;exact⟨_,J5 _ d (Obj.isFreed_of_fields (Obj.data_mapFields b _)),(Obj.cls_mapFields ..).trans k,by
  rw[Obj.data_mapFields b];simp⟩
theorem iB{it:Addr}{x:Str}{t:Tok}{Q:Option Value->Shared->Prop}(hh:A.handled=none)(hit:s.heap.IsRvs it x t (-1))
  (hQ:∀h',Heap.ExtBut it s.heap h'->Q none {s with heap:=h' }):wpAny (model prog w) A (pyNext (.ref it)) Q E s:=by
 obtain⟨o,d,hc,c⟩:=id hit;unfold pyNext;refine q04 (wpAny_attempt (wpAny_callSpecial?_slot (name:=Str.ofString "__next__") hit.typeIs F.slot_rvs_next
  (wpAny_call_entry F.slot_rvs_next hit.typeIs F.entry_rvs_next ?_ (F.args_rvs_next_1 _))))
 unfold Builtin.«reversed.__next__»;refine q04 (wpAny_of_eq (a:=(Value.ref it,[])) rfl ?_)
 try dsimp only
 refine q04 (wpAny_field d c (x:=.str x t) rfl ?_);refine q04 (wpAny_field d c (x:=rawInt (-1)) rfl ?_);show wpAny _ _ (if(-1:Int)<0 then _ else _) _ _ s;rw[q07 (by decide)];refine q04 (wpAny_rule ?_);show wpAny _ _ ((setField (Value.ref it) 1 (rawInt (-1)) >>= λ_=>setField (Value.ref it) 0 .none) >>= _) _ _ _;refine q04 (q04 (wpAny_setField d c (by simp) ?_));have e:=J5 (Obj.mapFields (·.setIfInBounds 1 (rawInt (-1)))) d (Obj.isFreed_of_fields (Obj.data_mapFields c _));refine wpAny_setField e (Obj.data_mapFields c _) (by simp) ?_;dsimp only;show wpAny _ _ (SmallTypes.stopIteration >>= _) _ _ _;refine q04 ?_;unfold SmallTypes.stopIteration
 first
 |show wpAny _ _ (newExc (.type "StopIteration") [] >>= _) _ _ _
 | (refine q04 ?_;show wpAny _ _ (newExc (.type "StopIteration") [] >>= _) _ _ _)
 refine q04 ?_;simp only[newExc,newTuple];refine q04 (wpAny_newObj_type ?_ (by size_fits));refine q04 (m:=firstArgMember _ _) (wpAny_of_eq (a:=Value.none) (by first | rfl | (simp only[firstArgMember];rfl)) ?_);refine wpAny_newObj_type ?_ (by size_fits);simp only[raiseNew];refine q04 (wpAny_handled ?_)
 first | rw[show A.in1.handled=none from hh] | rw[hh]
 refine q04 (q05 (wpAny_throw ?_));refine q04 (wpAny_isInstance (T:="StopIteration") (b:=true) ⟨_,J1 _ rfl,rfl⟩ isSubtype_stop ?_);refine q05 (hQ _ ?_);intro b ob g i;exact JV _ (JV _ ((J0 _ _ (Ne.symm g)).trans ((J0 _ _ (Ne.symm g)).trans i)))
theorem gF{it:Addr}{x:Str}{t:Tok}{i:Int}{Q:KQ}(hit:s.heap.IsRvs it x t i)(h:Q (.ref it) s):wpAny (model prog w) A (pyIter (.ref it)) Q E s:=by
 refine wpAny_pyIter_slot hit.typeIs F.slot_rvs_iter (wpAny_call_entry F.slot_rvs_iter hit.typeIs F.entry_rvs_iter ?_ (F.args_rvs_iter_1 _));show wpAny _ _ (ret (.ref it)) _ _ s;exact q05 ⟨_,rfl,"reversed",_,hit.typeIs,F.slot_rvs_next.lookup,h⟩
theorem hint_rvs{it:Addr}{x:Str}{t:Tok}{i:Int}{Q:KQ}(hit:s.heap.IsRvs it x t i)(hi:i<x.length)(hz:x.length<=sizeLine)
  (h:∀u tk,s.toks<=tk->Q (.int (i+1) u) {s with toks:=tk}):wpAny (model prog w) A (call (.builtin "reversed.__length_hint__") [.ref it]) Q E s:=by
 obtain⟨o,b,hc,c⟩:=id hit;refine wpAny_call_entry F.slot_rvs_hint hit.typeIs F.entry_rvs_hint ?_ (F.args_rvs_hint_1 _);unfold Builtin.«reversed.__length_hint__»;refine q04 (wpAny_of_eq (a:=Value.ref it) rfl ?_);refine q04 (wpAny_field b c (x:=.str x t) rfl ?_);show wpAny _ _ (if(Value.str x t==Value.none)=true then _ else _) _ _ s;rw[q06 (show ¬ ((Value.str x t==Value.none)=true) from λz=>by cases(eq_of_beq z))];have hs:sizeLine=16777216:=q0W;refine q04 (P.len_str ⋯ ?_);refine q04 (m:=asInt? _) (q05 ?_);dsimp only;refine q04 (wpAny_field b c (x:=rawInt i) rfl ?_);show wpAny _ _ (if(x.length:Int)<i+1 then _ else _) _ _ _;rw[q06 ⋯];show wpAny _ _ (mkInt (i+1) >>= λv=>ret v) _ _ _;exact q04 (wpAny_mkInt (q05 ⟨_,rfl,h _ _ (by simp;omega)⟩))
theorem Walks.rvs{A:K4}(hh:A.handled=none)(I:Addr)(x:Str)(t:Tok)(hz:x.length<=sizeLine) :
  Walks prog w A I [I] [I] x.length (λi v=>∃c tk,x.cps[x.length-1-i]?=some c/\v=.str ⟨#[c]⟩ tk) (λi h=>i<=x.length/\h.IsRvs I x t ((x.length:Int)-1-(i:Int))) where
 sub:=λb hb=>hb
 frame:=λ_ _ _ y hk=>⟨y.1,y.2.at λo e=>hk I (by simp) o e⟩
 item:=λi s Q E hi y hQ=>by
  have e:(x.length:Int)-1-(i:Int)=((x.length-1-i:Nat):Int):=by omega
  have a:=y.2;rw[e]at a;have hb:x.length-1-i<x.cps.size:=by have:x.length=x.cps.size:=rfl;omega
  have n:x.cps[x.length-1-i]?=some (x.cps[x.length-1-i]'hb):=Array.getElem?_eq_getElem hb;have hs:sizeLine=16777216:=q0W;refine iy a n ⋯ λl tk g d j=>?_;have p:((x.length-1-i:Nat):Int)-1=(x.length:Int)-1-((i+1:Nat):Int):=by omega
  rw[p]at d;exact hQ _ l g ⟨_,tk,n,rfl⟩ ⟨hi,d⟩ λb o hb m=>j.extBut b o (λh=>hb (by simp[h])) m
 done:=λs Q E y hQ=>by
  have e:(x.length:Int)-1-(x.length:Int) = -1:=by omega
  have a:=y.2;rw[e]at a;exact iB hh a λl k=>hQ l s.toks λb o hb m=>k b o (λh=>hb (by simp[h])) m
 self:=λ_ _ _ _ y hQ=>gF y.2 hQ
theorem kl{I:Addr}{x:Str}{t:Tok}{Q:List Value->Shared->Prop}(hh:A.handled=none)(hit:s.heap.IsRvs I x t ((x.length:Int)-1))(hz:x.length<=sizeLine)
  (hQ:∀s' acc,Moved [I] (λa b=>b=a) s s'->ItemsOf (λi v=>∃c tk,x.cps[x.length-1-i]?=some c/\v=.str ⟨#[c]⟩ tk) acc x.length->Q acc.toList s'):wpAny (model prog w) A (collect (.ref I)) Q E s:=by
 have W:=(Walks.rvs (prog:=prog) (w:=w) (A:=A.in1) hh I x t hz).toS;have hn:x.length<=sizeLine:=hz;have hst:(λi (s:KW)=>i<=x.length/\s.heap.IsRvs I x t ((x.length:Int)-1-(i:Int))) 0 s:=⟨Kh _,by simpa using hit⟩;have hT:∀i (s:KW),(i<=x.length/\s.heap.IsRvs I x t ((x.length:Int)-1-(i:Int)))->s.TypeIs (.ref I) "reversed":=λi s y=>y.2.typeIs;have hlt:I<s.heap.objs.size:=by obtain⟨o,ho,_⟩:=hit;exact Kj ho
 have hSI:s.heap.objs.size≠I:=λe=>Ko _ (e▸hlt);have hSf:s.heap.objs.size∉[I]:=λhm=>hSI (JX.mp hm);unfold collect;refine q04 (wpAny_runValue (codeAny_builtin F.entry_proto_collect ?_));rw[Around.under_plainId F.plain_proto_collect _];show wpAny _ A.in1 (newList [] >>= λl=>again (.builtin "list.__iadd__" ⟨[l,.ref I],[]⟩)) _ _ s;refine q04 (wpAny_newObj_type ?_);refine q05 ⟨plainId_quiet F.plain_list_iadd _,codeAny_builtin F.entry_list_iadd ?_⟩;rw[Around.under_plainId F.plain_list_iadd _];have hst₁:=W.frame 0 s (s.heap.push {cls:=.type "list",data:=.seq ([]:List Value).toArray}) s.toks hst (Kg _) λb _ o e=>JV _ e;have hS₁:(s.heap.push {cls:=.type "list",data:=.seq ([]:List Value).toArray}).get? s.heap.objs.size=some {cls:=.type "list",data:=.seq ([]:List Value).toArray}:=J1 _ rfl;have h1:Builtin.List.listSameRef (.ref s.heap.objs.size) (.ref I)=false:=by simp[Builtin.List.listSameRef,hSI]
 show wpAny _ A.in1 (Builtin.List.listExtendWith (.ref s.heap.objs.size) (.ref I) (.ref s.heap.objs.size)) _ _ _;unfold Builtin.List.listExtendWith;refine q04 (wpAny_typeOf (hT 0 _ hst₁) ?_);rw[q06 (by rw[h1];decide)];refine q04 (W.self 0 _ _ _ hst₁ ?_);refine q04 (q0Y ?_);unfold Builtin.List.listLengthHint;refine q04 (wpAny_specialOf (hT 0 _ hst₁) F.nolen_rvs ?_);show wpAny _ A.in1 (specialOf (Value.ref I) (Str.ofString "__length_hint__") >>= _) _ _ _;refine q04 (wpAny_specialOf (hT 0 _ hst₁) F.hint_rvs ?_)
 (generalize hid:("reversed.__length_hint__":String)=id0;(fail_if_success (clear hid id0));wp_delta;rw[show splitId id0=some ("reversed","__length_hint__") from by subst hid;decide +kernel];subst hid)
 refine q04 (wpAny_isInstance (b:=true) (hT 0 _ hst₁) (by rw[isSubtype_type];kernel_rfl) ?_);rw[q06 (show ¬ ((!true)=true) by decide)];dsimp only
 split
 ·rename_i hsil
  exact q0Q hsil (by decide +kernel)
 refine q04 (wpAny_rule ?_);refine q04 (wpAny_of_eq (F.slot_rvs_hint.bind _) ?_);dsimp only;refine q04 (wpAny_attempt ?_);refine hint_rvs (i:=(x.length:Int)-1-((0:Nat):Int)) hst₁.2 ⋯ hz λu tk htk=>?_;dsimp only;have hs:sizeLine=16777216:=q0W;have hk:Builtin.List.listTooLong (Int.toNat ((x.length:Int)-1-((0:Nat):Int)+1))=false:=by
  unfold Builtin.List.listTooLong;have e:Int.toNat ((x.length:Int)-1-((0:Nat):Int)+1)=x.length:=by omega
  rw[e]
  simpa using hz
 refine q04 (m:=asInt? (.int _ u)) (q05 ?_);dsimp only;have hfit:Builtin.List.listFitsIndex ((x.length:Int)-1-((0:Nat):Int)+1)=true:=by
  unfold Builtin.List.listFitsIndex;simp;omega
 rw[q06 (by rw[hfit];decide),q06 ⋯,q06 (by rw[hk];decide)];refine q05 ?_
 -- the loop,from a list that may have been touched
 have fin:∀(h₂:Heap) (c:Nat),(∀b o,b≠s.heap.objs.size->(s.heap.push {cls:=.type "list",data:=.seq ([]:List Value).toArray}).get? b=some o->h₂.get? b=some o) ->
   h₂.get? s.heap.objs.size=some {cls:=.type "list",data:=.seq ([]:List Value).toArray c} ->
   codeAny (model prog w) A (.builtin "list.extend.loop" ⟨[.ref s.heap.objs.size,.ref I,.ref s.heap.objs.size],[]⟩) (λr s'=>match r with
    | .ok (.ret v)=>wpAny (model prog w) A (match v with
     | .ref a=>do
      let __do_lift <- load a
      match __do_lift.data with
       | .seq xs _=>pure xs.toList
       |_=>unsupported "internal:collect"
     |_=>unsupported "internal:collect") Q E s'
    | .ok _=>False
    | .error e=>E e s') {s with heap:=h₂,toks:=tk}:=λh₂ c keep hS₂=>by
  have hst₂:(λi (s:KW)=>i<=x.length/\s.heap.IsRvs I x t ((x.length:Int)-1-(i:Int))) 0 {s with heap:=h₂,toks:=tk}:=⟨Kh _,hst₁.2.at λo e=>keep I o (Ne.symm hSI) e⟩;refine codeAny_extend_loopS W hn _ hSf _ x.length 0 _ _ _ rfl (Kh _) hst₂ hS₂ (ItemsOf.nil _) λs' acc' c' hm hS' hacc=>?_;show wpAny _ A (load s.heap.objs.size >>= _) _ _ s';refine q04 (wpAny_load hS' ?_);refine q05 (hQ s' acc' ?_ hacc);exact⟨λb ob hb e=>hm.heap b ob (λhm'=>by
    rcases J_.mp hm' with e1 | hm'
    ·exact q0Q (e1▸Kj e) (Ko _)
    ·exact hb hm') (keep b ob (λe1=>q0Q (e1▸Kj e) (Ko _)) (JV _ e)),hm.gens,hm.drawn,hm.os,Kn htk hm.toks⟩
 have quiet:=plainId_quiet F.plain_extend_loop (⟨[.ref s.heap.objs.size,.ref I,.ref s.heap.objs.size],[]⟩:Args)
 split
 ·refine q04 (wpAny_rule ?_)
  show wpAny _ A.in1 ((updateSeq s.heap.objs.size (·.push .none) >>= λ_=>updateSeq s.heap.objs.size (·.pop)) >>= _) _ _ _;refine q04 (q04 (wpAny_updateSeq hS₁ rfl ?_ (by simp) (by simp)));have q1:=PySem.IsL.update (h:=s.heap.push {cls:=.type "list",data:=.seq ([]:List Value).toArray}) (l:=s.heap.objs.size) (items:=([]:List Value).toArray) (n:=0) hS₁ (·.push .none);refine wpAny_updateSeq q1 rfl ?_ (by simp;omega) (by simp);have q2:=PySem.IsL.update q1 (·.pop);exact q05 ⟨quiet,fin _ _ (λb o hb e=>(J0 _ _ (Ne.symm hb)).trans ((J0 _ _ (Ne.symm hb)).trans e)) (show _=some ({cls:=.type "list",data:=.seq ([]:List Value).toArray _}:Obj) from q2)⟩
 ·exact q05 ⟨quiet,fin _ _ (λb o hb e=>e) hS₁⟩
theorem AJ{I:Addr}{x sep:Str}{t t0:Tok}{Q:KQ}(hh:A.handled=none)(hit:s.heap.IsRvs I x t ((x.length:Int)-1))(hz:x.length<=1000)(hsep:sep.length<=1000)
  (h:∀(s':KW) (t':Tok) (k:Nat),(∀b o,b≠I->s.heap.get? b=some o->s'.heap.get? b=some o)->s'.gens=s.gens->s'.drawn=s.drawn->s'.os=s.os ->
   Q (.str (Txt.join sep (x.cps.toList.reverse.map λc=>(⟨#[c]⟩:Str))) t') {s' with toks:=k}):wpAny (model prog w) A (call (.builtin "str.join") [.str sep t0,.ref I]) Q E s:=by
 have hs:sizeLine=16777216:=q0W;refine wpAny_call (codeAny_call_builtin F.slot_str_join.plain F.entry_str_join (F.slot_str_join.check _ _ _ _ _ _ _ _ (typeIs_str _ _ _) (F.args_str_join_2 _ _) ?_));rw[join_tree_other];refine q04 (wpAny_typeOf hit.typeIs ?_);show wpAny _ A.in1 ((pyIter (.ref I)).tryCatch _ >>= λT=>collect T >>= λm=>joinTail sep m) _ _ s;refine q04 (wpAny_tryCatch (gF hit ?_));refine q04 (kl hh hit ⋯ λs' u B d=>?_);obtain⟨l,C⟩:=exists_strValues u.toList λv U=>by
  obtain⟨j,D,rfl⟩:=Array.mem_iff_getElem.mp (Array.mem_toList_iff.mp U);obtain⟨c,S,_,e⟩:=d.2 j _ (Array.getElem?_eq_getElem D);exact⟨_,_,e⟩
 have n:l.map (·.1)=x.cps.toList.reverse.map λc=>(⟨#[c]⟩:Str):=by
  have Z:l.length=x.length:=by
   have q:=q0R List.length C;simp[strValues]at q;rw[q];exact d.1
  refine List.ext_getElem (by simp[Z];rfl) λj h1 h2=>?_;simp only[List.getElem_map,List.getElem_reverse];have D:j<l.length:=by simpa using h1
  have Y:u.toList[j]?=some (Value.str (l[j]).1 (l[j]).2):=by
   rw[<- C];simp[strValues,D]
  have L:u[j]?=some (Value.str (l[j]).1 (l[j]).2):=by simpa using Y
  obtain⟨c,S,R,e⟩:=d.2 j _ L
  injection e with O _
  rw[O];have J:x.length-1-j<x.cps.size:=by have:x.length=x.cps.size:=rfl;omega
  rw[Array.getElem?_eq_getElem J]at R;have G:=q0S R;rw[<- G];simp only[Array.length_toList,Array.getElem_toList]
  rfl
 rw[<- C];have i:JoinOk sep (l.map (·.1))=true:=by
  unfold JoinOk;rw[StrLaws.joinTotal];have O:((l.map (·.1)).map (·.length)).sum=x.length:=by
   rw[n,J9];have:((λy:Str=>y.length)∘λc=>(⟨#[c]⟩:Str))=λ_=>1:=by funext c;rfl
   rw[this,List.map_const',List.sum_replicate_nat];simp
   rfl
  have e2:(l.map (·.1)).length=x.length:=by rw[n];simp;rfl
  rw[O,e2];have:x.length*sep.length<=1000*1000:=Nat.mul_le_mul hz hsep;unfold tooLong;rw[q08 ⋯]
  rfl
 have a:=λt' k=>h s' t' k (λb o J e=>B.heap b o (λz=>J (JX.mp z)) e) B.gens B.drawn B.os;unfold JoinOk at i;rw[Bool.not_eq_true']at i;have g:Gives (joinTail sep (strValues l)) (joinMade sep l):=by
  have M:=gives_joinTail sep l i;cases l with
  |nil=>exact M
  |cons p r=>cases r with
   |nil=>exact M
   |cons q r'=>exact M
 rw[<- n]at a;exact g prog w A (wants Q E) s' (post_join l ⟨joinFit_length i,a⟩)
end
namespace F
theorem pV:Slot "reversed" "__init__" "object.__init__":=
 .of (owner:="object") (n:="__init__") (by rw[typeLookup_type,builtinLookup_eq_fast];kernel_rfl) (by decide +kernel) (by decide +kernel) (by decide +kernel)
  (by first | exact .inl (by decide +kernel) | exact .inr (by decide +kernel)) (by rw[isSubtype_type];kernel_rfl)
theorem yc:mroOf (.type "reversed")=pure [.type "reversed",.type "object"]:=by rw[mroOf_type];kernel_rfl
theorem pA:typeLookup (.type "reversed") "__new__"=pure (some (.builtin "reversed.__new__")):=by rw[typeLookup_type,builtinLookup_eq_fast];kernel_rfl
theorem rvs_called:TypeCalled "reversed" "reversed.__new__" "object.__init__":=
 ⟨by decide +kernel,by decide +kernel,⟨_,_,yc⟩,madeBy_type yc pA (by decide +kernel),by decide +kernel,by rw[isSubtype_type];kernel_rfl,pV⟩
theorem rvs_typeCall_1(a:Value):checkTypeCall "reversed" ⟨[a],[]⟩=pure ():=by kernel_rfl
theorem rvs_newCall_1(a:Value):checkBuiltinCall "reversed.__new__" ⟨[.type "reversed",a],[]⟩=pure ():=by kernel_rfl
theorem rvs_entry_new:entryFor table "reversed.__new__"=some Builtin.«reversed.__new__»:=entryFor_of_tree (by kernel_rfl)
theorem rvs_sub:isSubtype (.type "reversed") (.type "reversed")=pure true:=by rw[isSubtype_type];kernel_rfl
theorem rvs_nostr:typeLookup (.type "str") "__reversed__"=pure none:=by rw[typeLookup_type,builtinLookup_eq_fast];kernel_rfl
end F
section
variable {prog:K2}{w:K5}{A:K4}{E:KQ}{s:KW}
theorem tG(a:Value):Builtin.SmallTypes.newClass "reversed" ⟨[.type "reversed",a],[]⟩=pure (.type "reversed",[a]):=by
 unfold Builtin.SmallTypes.newClass;simp only[isType,F.rvs_sub,pure_bind,Bool.not_true,q0a,if_false]
theorem pO(x:Str)(t:Tok)(hz:x.length<=sizeLine):Meets (Builtin.«reversed.__new__» ⟨[.type "reversed",.str x t],[]⟩)
  (λ_ R s=>R (.ok (.ret (.ref s.heap.objs.size))) {s with heap:=s.heap.push (wz x t ((x.length:Int)-1)),toks:=s.toks+1+1}):=
 .of_wp λprog w A R s h=>by
  have hs:sizeLine=16777216:=q0W;unfold Builtin.«reversed.__new__»;refine q04 (wpAny_of_eq (tG _) ?_)
  try dsimp only
  refine q04 (wpAny_of_eq (a:=()) (by first | rfl | kernel_rfl) ?_);refine q04 (wpAny_of_eq (a:=()) (by first | rfl | kernel_rfl) ?_)
  try dsimp only
  refine q04 (wpAny_specialOf (typeIs_str s x t) F.rvs_nostr ?_)
  try dsimp only
  refine q04 ?_;refine q04 (wpAny_isInstance (T:="str") (b:=false) (typeIs_str s x t) (by rw[isSubtype_type];kernel_rfl) ?_);rw[q06 (by decide)];refine q04 (wpAny_specialOf (typeIs_str s x t) F.slot_str_getitem.lookup ?_);dsimp only
  split
  ·refine q05 ?_
   rw[q06 (by decide)];refine q04 (P.len_str ⋯ ?_);refine q04 (m:=asInt? _) (q05 ?_);dsimp only;show wpAny _ _ (newObj (.type "reversed") (.fields #[.str x t,rawInt ((x.length:Int)-1)]) >>= λv=>ret v) _ _ _;exact q04 (wpAny_newObj_type (q05 ⟨_,rfl,h⟩))
  ·rename_i hn
   exact q0Q (by decide +kernel) hn
theorem kz{x:Str}{t:Tok}{Q:KQ}(hz:x.length<=sizeLine)
  (h:Q (.ref s.heap.objs.size) {s with heap:=s.heap.push (wz x t ((x.length:Int)-1)),toks:=s.toks+1+1}):wpAny (model prog w) A (call (.type "reversed") [.str x t]) Q E s:=
 callType_new F.rvs_called (by decide) (F.rvs_typeCall_1 _) (F.rvs_newCall_1 _) (λobj=>F.args_object_init_2 obj _) F.rvs_entry_new (pO x t hz) ⟨⟨_,J1 _ rfl,rfl⟩,h⟩
end
end PySem
namespace L2
open PySem PySem.Spec PyProof.Rows
def fe(env:Env):List (Str×NameKind)->List (Str×Addr)->List (Str×Addr)
 | [],acc=>acc
 | (n,k)::r,acc=>if k==.free then fe env r ((n,(env.cells.lookup n).getD 0)::acc) else fe env r acc
theorem l_{env:Env}:∀(ns:List (Str×NameKind)) (acc:List (Str×Addr)),(∀x∈ns,x.2=.free->∃c,env.cells.lookup x.1=some c) ->
  (forIn ns acc fun(x:Str×NameKind) (cs:List (Str×Addr))=>(if x.2==.free then do
    let c <- cellOf env x.1
    pure (ForInStep.yield ((x.1,c)::cs))
   else pure (ForInStep.yield cs):Sem (ForInStep (List (Str×Addr)))))=pure (fe env ns acc)
 | [],acc,_=>rfl
 | (n,k)::r,acc,h=>by
  have ih:=λa=>l_ (env:=env) r a λx hx=>h x (J' _ hx);rw[List.forIn_cons]
  by_cases hk:k=.free
  ·subst hk
   obtain⟨c,hc⟩:=h (n,.free) q0B rfl;have hc':env.cells.lookup n=some c:=hc;have e1:cellOf env n=pure c:=by unfold cellOf;rw[hc']
   simp only[fe,hc',q0L];show((do let c <- cellOf env n;pure (ForInStep.yield ((n,c)::acc))) >>= _)=_;rw[e1,pure_bind,pure_bind];exact ih _
  ·have b:(k==NameKind.free)=false:=by simpa using hk
   simp only[fe,b,q0a,if_false];rw[pure_bind];exact ih _
theorem iR{env:Env}{scope:Scope}(h:∀x∈scope.names,x.2=.free->∃c,env.cells.lookup x.1=some c) :
  closureFor scope env=pure (fe env scope.names []):=by
 unfold closureFor;have e:=l_ (env:=env) scope.names [] h;have a:(forIn scope.names ([]:List (Str×Addr)) λx b=>(match x with
   | (name,kind)=>if kind==.free then do
     let c <- cellOf env name
     pure (ForInStep.yield ((name,c)::b))
    else pure (ForInStep.yield b):Sem (ForInStep (List (Str×Addr)))))=pure (fe env scope.names []):=e
 simp only[]at a ⊢
 first
  | (rw[a];rfl)
  | (erw [a];rfl)
theorem g8{env:Env}:∀{ns:List (Str×NameKind)} {acc:List (Str×Addr)} {x:Str} {c:Addr},(∀y∈ns,y.2=.free->∃c,env.cells.lookup y.1=some c) ->
  (∀y c,acc.lookup y=some c->env.cells.lookup y=some c)->(fe env ns acc).lookup x=some c->env.cells.lookup x=some c
 | [],_,_,_,_,ha,e=>ha _ _ e
 | (n,k)::r,acc,x,c,h,ha,e=>by
  have hr:∀y∈r,y.2=.free->∃c,env.cells.lookup y.1=some c:=λy hy=>h y (J' _ hy);unfold fe at e
  by_cases hk:k=.free
  ·subst hk
   rw[q07 (by simp)]at e;obtain⟨c',hc⟩:=h (n,.free) q0B rfl;have hc':env.cells.lookup n=some c':=hc;refine g8 hr (λy d z=>?_) e;rw[hc',q0L,List.lookup_cons]at z
   by_cases q:y=n
   ·subst q
    simp at z;subst z;exact hc'
   ·have q':(y==n)=false:=by simpa using q
    rw[q']at z;exact ha y d z
  ·rw[q06 (by simpa using hk)]at e
   exact g8 hr ha e
theorem mR{env:Env}:∀{ns:List (Str×NameKind)} {acc:List (Str×Addr)} {x:Str},((∃c,acc.lookup x=some c)\/(x,NameKind.free)∈ns)->∃c,(fe env ns acc).lookup x=some c
 | [],_,_,h=>by
  rcases h with h | h
  ·exact h
  ·exact nomatch h
 | (n,k)::r,acc,x,h=>by
  unfold fe
  by_cases hk:k=.free
  ·subst hk
   rw[q07 (by simp)];refine mR ?_
   by_cases q:x=n
   ·subst q
    left
    simp[List.lookup_cons]
   ·have q':(x==n)=false:=by simpa using q
    rcases h with⟨c,h⟩ | h
    ·exact .inl ⟨c,by rw[List.lookup_cons,q'];exact h⟩
    ·rcases J_.mp h with z | z
     ·cases z
      exact q0Q rfl q
     ·exact .inr z
  ·rw[q06 (by simpa using hk)]
   refine mR ?_;rcases h with h | h
   ·exact .inl h
   ·rcases J_.mp h with z | z
    ·cases z
     exact q0Q rfl hk
    ·exact .inr z
def tZ(scope osc:Scope):Scope:=
 {scope with names:=scope.names.map fun(n,k)=>if(k==.free&&osc.kind==.function&&osc.names.lookup n==some .cell) then(n,.cell) else(n,k)}
def Bj(scope osc:Scope):Bool:=
 (scope.kind==.function)&&(osc.kind==.function)&&scope.names.all fun(n,k)=>(k != .free || !scope.names.contains (n,NameKind.cell))&&(k != .local||scope.names.lookup n==some .local) &&
  (k != .free||osc.names.lookup n==some .cell||osc.names.lookup n==some .free)&&(k != .free||(tZ scope osc).names.lookup n != some .local)
structure bQ(scope osc:Scope):Prop where
 kind:scope.kind=.function
 sep:∀x∈scope.names,x.2=.free->(x.1,NameKind.cell)∉scope.names
 loc:∀x∈scope.names,x.2=.local->scope.names.lookup x.1=some .local
 free:∀x∈scope.names,x.2=.free->osc.names.lookup x.1=some .cell\/osc.names.lookup x.1=some .free
 nl:∀x∈scope.names,x.2=.free->(tZ scope osc).names.lookup x.1≠some .local
theorem bQ.of{scope osc:Scope}(h:Bj scope osc=true):bQ scope osc:=by
 unfold Bj at h;rw[q0O,q0O,KG]at h;obtain⟨⟨h1,h0⟩,h2⟩:=h;refine⟨by simpa using h1,λx a e=>?_,λx a e=>?_,λx a e=>?_,λx a e=>?_⟩
 all_goals
  obtain⟨n,k⟩:=x;have q:=h2 (n,k) a;simp only[q0O,Bool.or_eq_true,bne_iff_ne,beq_iff_eq]at q
 ·have z:=q.1.1.1.resolve_left (λz=>z e)
  simpa using z
 ·exact q.1.1.2.resolve_left (λz=>z e)
 ·rcases q.1.2 with(z | z) | z
  ·exact q0Q e z
  ·exact .inl z
  ·exact .inr z
 ·exact q.2.resolve_left (λz=>z e)
theorem fP{osc:Scope}:∀{ns:List (Str×NameKind)} {x:Str} {k':NameKind},
  (ns.map fun(n,k)=>if(k==NameKind.free&&osc.kind==.function&&osc.names.lookup n==some .cell) then(n,NameKind.cell) else(n,k)).lookup x=some k' ->
  (k'=.cell\/k'=.free)->(x,NameKind.free)∈ns\/(x,NameKind.cell)∈ns
 | [],_,_,h,_=>by simp at h
 | (n,k)::r,x,k',h,hk'=>by
  rw[Km]at h
  by_cases q:x=n
  ·subst q
   by_cases z:(k==NameKind.free&&osc.kind==.function&&osc.names.lookup x==some .cell)=true
   ·have:k=.free:=by
     simp only[q0O,beq_iff_eq]at z;exact z.1.1
    subst this;exact .inl q0B
   ·simp only[z,q0a,if_false]at h
    rw[List.lookup_cons]at h;simp at h;subst h;rcases hk' with e | e
    ·subst e;exact .inr q0B
    ·subst e;exact .inl q0B
  ·have a:(x==n)=false:=by simpa using q
   refine(fP (osc:=osc) (k':=k') (ns:=r) (x:=x) ?_ hk').imp (J' _) (J' _)
   by_cases z:(k==NameKind.free&&osc.kind==.function&&osc.names.lookup n==some .cell)=true
   ·simp only[z,if_true]at h
    rw[List.lookup_cons,a]at h;exact h
   ·simp only[z,q0a,if_false]at h
    rw[List.lookup_cons,a]at h;exact h
theorem iJ:∀(ns:List (Str×NameKind)) (n:Nat) (acc:List (Str×Addr)),cellsFrom n ns acc=cellsFrom n ns []++acc
 | [],_,_=>rfl
 | (x,k)::r,n,acc=>by
  unfold cellsFrom
  split
  ·rw[iJ r (n+1) ((x,n)::acc),iJ r (n+1) [(x,n)],Kt];rfl
  ·exact iJ r n acc
theorem rh:∀{ns:List (Str×NameKind)} {n:Nat} {x:Str} {c:Addr},(x,c)∈cellsFrom n ns []->(x,NameKind.cell)∈ns
 | [],_,_,_,h=>nomatch h
 | (y,k)::r,n,x,c,h=>by
  unfold cellsFrom at h
  split at h
  ·rename_i hk
   rw[iJ]at h;rcases J8.mp h with h | h
   ·exact J' _ (rh h)
   ·cases JX.mp h
    have:k=.cell:=by simpa using hk
    subst this;exact q0B
  ·exact J' _ (rh h)
theorem tj:∀{ns:List (Str×NameKind)} {n:Nat} {x:Str} {acc:List (Str×Addr)},((x,NameKind.cell)∈ns\/∃c,acc.lookup x=some c)->∃c,(cellsFrom n ns acc).lookup x=some c
 | [],_,_,_,h=>h.elim (λz=>nomatch z) id
 | (y,k)::r,n,x,acc,h=>by
  unfold cellsFrom
  split
  ·refine tj ?_
   by_cases q:x=y
   ·subst q
    exact .inr ⟨n,by simp[List.lookup_cons]⟩
   ·have q':(x==y)=false:=by simpa using q
    rcases h with h | ⟨c,h⟩
    ·rcases J_.mp h with z | z
     ·cases z;exact q0Q rfl q
     ·exact .inl z
    ·exact .inr ⟨c,by rw[List.lookup_cons,q'];exact h⟩
  ·rename_i hk
   refine tj ?_;rcases h with h | h
   ·rcases J_.mp h with z | z
    ·cases z;exact q0Q rfl hk
    ·exact .inl z
   ·exact .inr h
def dU(env:Env)(scope:Scope)(C:Addr):List (Str×Addr):=cellsFrom (C+1) scope.names (fe env scope.names [])
theorem j9:∀{ns:List (Str×NameKind)} {n:Nat} {x:Str} {c:Addr},(x,c)∈cellsFrom n ns []->n<=c
 | [],_,_,_,h=>nomatch h
 | (y,k)::r,n,x,c,h=>by
  unfold cellsFrom at h
  split at h
  ·rw[iJ]at h
   rcases J8.mp h with h | h
   ·exact Kn (Nat.le_succ _) (j9 h)
   ·cases JX.mp h
    exact Kg _
  ·exact j9 h
theorem om:∀{ns:List (Str×NameKind)} {n:Nat},(cellsFrom n ns []).Pairwise λx y=>x.2≠y.2
 | [],_=>List.Pairwise.nil
 | (y,k)::r,n=>by
  unfold cellsFrom
  split
  ·rw[iJ]
   refine List.pairwise_append.mpr ⟨om,by simp,λa ha b hb e=>?_⟩;cases JX.mp hb;have:=j9 (x:=a.1) (c:=a.2) ha;rw[e]at this;exact q0Q this (Nat.not_succ_le_self _)
  ·exact om
theorem iq{env:Env}{scope:Scope}{C:Addr}{x:Str}{c:Addr}(h:(dU env scope C).lookup x=some c) :
  ((x,c)∈cellsFrom (C+1) scope.names []/\C<c/\(x,NameKind.cell)∈scope.names)\/((cellsFrom (C+1) scope.names []).lookup x=none/\(fe env scope.names []).lookup x=some c):=by
 unfold dU at h;rw[iJ,List.lookup_append]at h;cases q:(cellsFrom (C+1) scope.names []).lookup x with
 |none=>rw[q]at h;exact .inr ⟨rfl,h⟩
 |some d=>
  rw[q]at h;cases h;have:=mem_of_lookup q;exact .inl ⟨this,j9 this,rh this⟩
theorem BL{ns:List (Str×NameKind)}{n:Nat}{x:Str}(h:(x,NameKind.cell)∉ns):(cellsFrom n ns []).lookup x=none:=by
 cases q:(cellsFrom n ns []).lookup x with
 |none=>rfl
 |some d=>exact q0Q (rh (mem_of_lookup q)) h
section
variable {M:Model}{A:K4}{E:KQ}{s:KW}
theorem fo{scope:Scope}{globals:Addr}{closure:List (Str×Addr)}{qual:Str}{func:K6}{code:Value}{outer:Env}{builtins:Addr}{Q:Env->Shared->Prop}
  (hQ:Q (newEnv scope s.heap.objs.size globals (cellsFrom (s.heap.objs.size+1) scope.names closure) qual func code (some outer) builtins) {s with heap:=pushCells (s.heap.push {cls:=.type "dict",data:=.dict #[]}) scope.names}) :
  wpAny M A (newFunctionEnv scope globals closure [] qual func code (some outer) builtins) Q E s:=by
 simp only[newFunctionEnv,Option.isSome_some,if_true];simp only[newEnv]at hQ;refine q04 (wpAny_alloc ?_);refine q04 (wpAny_layCells _ (λname a cells=>by cases b:a==NameKind.cell<;>simp[b]) _ _ _ _ ?_);rw[show({s with heap:=s.heap.push {cls:=.type "dict",data:=.dict #[]} }:Shared).heap.objs.size=s.heap.objs.size+1 from Heap.size_push ..];rw[List.forIn_nil];exact q04 (q05 (q05 hQ))
end
def Cx.blk(X:Cx)(N':K3)(s₂:KW)(H₂:Hp)(scope:Scope)(fp:KZ)(C:Addr):Cx where
 prog:=X.prog
 w:=X.w
 K:=X.K
 mg:=X.mg
 base:=X.base
 A:=X.A
 N:=N'
 s₀:=s₂
 H₀:=H₂
 env:=compEnvC scope (dU X.env scope C) C X.env
 outer:=X.stack
 stack:=X.stack
 ex:=fp
 fn:=λx=>scope.names.contains (x,NameKind.cell)
 calm:=X.calm
 pn:=[]
 xe:=λ_ _=>False
def qi(k:Nat)(js:KU)(σ:St):St:=List.replicate k none++js.map λj=>(σ[j]?).join
def oE(own:K3)(js:KU)(N:K3):List Str:=own++js.map λj=>N.getD j Str.empty
section
variable {X:Cx}
theorem Inv.capFree{pins:KS}{σ:St}{H:Hp}{s:KW}{scope:Scope}(I:Inv X pins σ H s)(hk:bQ scope X.env.scope):∀x∈scope.names,x.2=.free->∃c,X.env.cells.lookup x.1=some c:=
 λx hx e=>I.ok.has x.1 (hk.free x hx e)
theorem Inv.capL{pins:KS}{σ:St}{H:Hp}{s:KW}{scope:Scope}{x:Str}{c:Addr}(I:Inv X pins σ H s)(hk:bQ scope X.env.scope)(e:(fe X.env scope.names []).lookup x=some c):X.env.cells.lookup x=some c:=
 g8 (I.capFree hk) (λ_ _ z=>by simp at z) e
theorem Inv.blkL{pins:KS}{σ:St}{H:Hp}{s:KW}{scope:Scope}{C:Addr}{x:Str}{c:Addr}(I:Inv X pins σ H s)(hk:bQ scope X.env.scope)(e:(dU X.env scope C).lookup x=some c) :
  ((x,c)∈cellsFrom (C+1) scope.names []/\C<c/\(x,NameKind.cell)∈scope.names)\/X.env.cells.lookup x=some c:=
 (iq e).imp id λz=>I.capL hk z.2
theorem E3{pins:KS}{σ:St}{H:Hp}{s:KW}{N':K3}{scope:Scope}{fp:KZ}{C:Addr}(I:Inv X pins σ H s)(hk:bQ scope X.env.scope)(hC:s.heap.objs.size<=C)
  (hf:∀b∈fp,mw X pins H b) (ho:∀b∈fp,∃o,s.heap.get? b=some o):(X.blk N' s H scope fp C).Ok where
 mod:=I.ok.mod
 kind:=hk.kind
 glob:=I.ok.glob
 blt:=I.ok.blt
 above:=hC
 inj:=λx y c e1 e2=>by
  have low:∀z,X.env.cells.lookup z=some c->c<C:=λz e=>by
   obtain⟨v,q⟩:=I.cell z c e;exact Kb q.lt hC
  rcases I.blkL hk e1 with⟨a1,a2,_⟩ | a<;>rcases I.blkL hk e2 with⟨b1,b2,_⟩ | b
  ·exact name_of_addr om a1 b1
  ·exact q0Q (low _ b) (Nat.not_lt.mpr (q0P a2))
  ·exact q0Q (low _ a) (Nat.not_lt.mpr (q0P b2))
  ·exact I.ok.inj x y c a b
 has:=λx h=>by
  refine tj ?_;have z:(x,NameKind.free)∈scope.names\/(x,NameKind.cell)∈scope.names:=by
   rcases h with h | h
   ·exact fP (osc:=X.env.scope) h (.inl rfl)
   ·exact fP (osc:=X.env.scope) h (.inr rfl)
  rcases z with z | z
  ·exact .inr (mR (.inr z))
  ·exact .inl z
 cab:=λx c z e=>by
  have k:(x,NameKind.cell)∈scope.names:=by
   have j:scope.names.contains (x,NameKind.cell)=true:=z
   simpa using j
  have i:(dU X.env scope C).lookup x=some c:=e;rcases iq i with⟨_,a,_⟩ | ⟨a,_⟩
  ·exact Kn hC (q0P a)
  ·obtain⟨d,q⟩:=tj (n:=C+1) (acc:=[]) (.inl k)
   rw[a]at q;cases q
 hd:=I.ok.hd
 frames:=I.ok.frames
 stk:=.inl rfl
 exf:=λb g=>⟨λe=>by
  obtain⟨o,q⟩:=ho b g;have i:b=C:=e;rw[i]at q;exact q0Q (Kj q) (Nat.not_lt.mpr hC),λx c e=>by
  rcases I.blkL hk e with⟨_,a,_⟩ | a
  ·obtain⟨o,q⟩:=ho b g
   intro z;rw[z]at a;exact q0Q (Kb (Kj q) hC) (Nat.not_lt.mpr (q0P a))
  ·exact(hf b g).2.2.2.2.1 x c a⟩
 bs:=I.bs
 bsz:=Kn I.ok.bsz I.sz
 noex:=λb o e g=>by
  rcases(hf b g).2.2.2.1 with z | z
  ·exact I.ok.noex b o e z
  ·exact q0Q (Kj (I.ok.bs b o e).1) (Nat.not_lt.mpr z)
 exfs:=λb g l=>by
  rcases J_.mp (I.stkSub b l) with z | z
  ·exact(hf b g).2.1 z
  ·exact(hf b g).2.2.1 z
 funs:=I.stack
 frf:=I.stkFree
theorem zI{pins:KS}{σ:St}{H:Hp}{s s1:KW}{own:K3}{js:KU}{scope:Scope}{fp:KZ}{C:Addr}{m:K0}(I:Inv X pins σ H s)(hk:bQ scope X.env.scope)(hC:s.heap.objs.size<=C)
  (hf:∀b∈fp,mw X pins H b) (ho:∀b∈fp,∃o,s.heap.get? b=some o) (hos:s1.os=s.os) (hg:s1.gens=s.gens) (hn:s1.heap.Ns C m) (keep:∀b o,s.heap.get? b=some o->s1.heap.get? b=some o)
  (hown:∀x c,(x,c)∈cellsFrom (C+1) scope.names []->s1.heap.IsCell c none) (hcap:(js.all λj=>scope.names.contains (X.N.getD j Str.empty,NameKind.free))=true) :
  Inv (X.blk (oE own js X.N) s H scope fp C) [] (qi own.length js σ) H s1:=by
 have cl:=fun{x:Str} {c:Addr} (e:(fe X.env scope.names []).lookup x=some c)=>g8 (I.capFree hk) (λ_ _ z=>by simp at z) e;refine⟨E3 I hk hC hf ho,hos,hg▸I.bare,Un.kept keep,⟨m,hn,λi x v e1 Z Y=>?_⟩,λx c e=>?_,I.hok.fresh hC,λx c e=>(I.blkL hk e).elim (λz=>I.hok.fresh (Kn hC (q0P z.2.1))) λz=>I.freeC x c z,λp O=>(nomatch O),I.hok.kept keep,?_⟩
 ·have d:(own++js.map λj=>X.N.getD j Str.empty)[i]?=some x:=e1
  have a:(List.replicate own.length none++js.map λj=>(σ[j]?).join)[i]?=some (some v):=Z
  by_cases y:i<own.length
  ·rw[Ke (by rw[List.length_replicate];exact y),List.getElem?_replicate,q07 y]at a
   cases a
  ·have k:own.length<=i:=Nat.le_of_not_lt y
   rw[Kd (by rw[List.length_replicate];exact k),List.length_replicate,JY]at a;rw[Kd k,JY]at d;cases B:js[i-own.length]? with
   |none=>rw[B]at d;cases d
   |some j=>
    rw[B]at d a;have J:X.N.getD j Str.empty=x:=q0S d;have n:(σ[j]?).join=some v:=q0S a;have G:σ[j]?=some (some v):=by
     cases q:σ[j]? with
     |none=>rw[q]at n;cases n
     |some z=>rw[q]at n;simp at n;rw[n]
    have w:j<X.N.length:=by rw[<- I.len];exact(JU.mp G).1
    have T:X.N[j]?=some x:=by rw[<- J,q0A,JT w];rfl
    have r:(x,NameKind.free)∈scope.names:=by
     have q:=KG.mp hcap j (JZ B);rw[J]at q
     simpa using q
    have D:=hk.free _ r rfl;obtain⟨mo,hno,R⟩:=I.loc;obtain⟨u,L,M⟩:=R j x v T G (D.elim (λz=>.inr (.inl z)) λz=>.inr (.inr z));refine⟨u,L,?_⟩;rcases M with⟨g,_⟩ | ⟨g,c,U,S⟩
    ·rcases D with z | z
     ·rw[show X.env.kindOf x=X.env.scope.names.lookup x from rfl,z]at g;cases g
     ·rw[show X.env.kindOf x=X.env.scope.names.lookup x from rfl,z]at g;cases g
    ·obtain⟨c',l⟩:=mR (env:=X.env) (ns:=scope.names) (acc:=[]) (x:=x) (.inr r)
     have:=cl l;rw[U]at this;cases this;refine .inr ⟨?_,c,?_,S.keeps keep⟩
     case refine_2=>
      show(dU X.env scope C).lookup x=some c;unfold dU;rw[iJ,List.lookup_append,BL (hk.sep _ r rfl)];exact l
     -- its kind within the block
     rcases Y with z | z | z
     ·exact q0Q z (hk.nl _ r rfl)
     ·exact .inl z
     ·exact .inr z
 ·rcases I.blkL hk e with z | z
  ·exact⟨none,hown x c z.1⟩
  ·obtain⟨v,z⟩:=I.cell x c z
   exact⟨v,z.keeps keep⟩
 ·show(List.replicate own.length none++js.map λj=>(σ[j]?).join).length=(own++js.map λj=>X.N.getD j Str.empty).length
  simp
def DI(env:Env)(ifs:K7):Sem Bool:=forIn ifs true λc r=>if r=true then do let ok <- isTrue c env (eval c env);pure (ForInStep.yield ok) else pure (ForInStep.yield r)
theorem rB{prog:K2}{w:K5}{A:K4}{R:Result->Shared->Prop}{s:KW}{elt target iter:Expr}{ifs:K7}{scope:Scope}{pos:Pos}{it acc:Value}{env:Env}(I:Nat->Shared->Prop)
  (turn:∀n s,I n s->wpAny (model prog w) A (pyNext it) (λr s₁=>match r with
   |none=>R (.ok .next) s₁
   |some v=>wpAny (model prog w) A (letOwnedTupleGo target it v) (λ_ s₁'=>wpAny (model prog w) A (assign target env v) (λ_ s₂=>
     wpAny (model prog w) A (DI env ifs) (λok s₃=>
      if ok=true then wpAny (model prog w) A (eval elt env) (λx s₄=>
       wpAny (model prog w) A (call (.builtin "list.append") [acc,x]) (λ_ s₅=>∃m,m<n/\I m s₅) (λ_ _=>False) s₄) (λ_ _=>False) s₃
      else ∃m,m<n/\I m s₃) (λ_ _=>False) s₂) (λ_ _=>False) s₁') (λ_ _=>False) s₁) (λ_ _=>False) s)
  (n:Nat) (h:I n s) :
  codeAny (model prog w) A (.compLoop (.ListComp elt [⟨target,iter,ifs,0⟩] scope pos) 0 it acc env) R s:=by
 refine codeAny_loop rfl I (λn s k=>?_) n h;show wpAny _ A ((compTurn (.ListComp elt [⟨target,iter,ifs,0⟩] scope pos) 0 it acc env).onRaise (λx=>do noteFrame x env;theTreesLotGoes x)) _ _ s;refine wpAny_noted ?_;rw[compTurn_list];have up:∀{α:Type} {t:Sem α} {Q Q':α->Shared->Prop} {E':KQ} {s:KW},wpAny (model prog w) A t Q (λ_ _=>False) s->(∀a s,Q a s->Q' a s)->wpAny (model prog w) A t Q' E' s:=
  λh j=>q0X h j λ_ _ f=>f.elim
 refine q04 (wpAny_standAt (q04 (up (turn n s k) λr s₁ d=>?_)));cases r with
 |none=>exact q05 d
 |some v=>
  refine q04 (up d λ_ s₁' b=>q04 (up b λ_ s₂ i=>q04 (up i λok s₃ c=>?_)));cases ok with
  |false=>exact q05 ⟨rfl,c⟩
  |true=>
   exact q04 (q04 (up c λx s₄ g=>q04 (up g λ_ s₅ e=>q05 (q05 ⟨rfl,e⟩))))
def Fr(X:Cx)(ifs:K7)(t:TT):Prop:=
 ∀(pins:KS) (s:KW) (σ:St) (H:Hp) (Q:Bool->Hp->Prop),Inv X pins σ H s->t σ H Q->wpAny (model X.prog X.w) X.A (DI X.env ifs) (TP X pins σ Q) X.xe s
def uQ:TT:=λ_ H Q=>Q true H
theorem cw{X:Cx}:Fr X [] uQ:=λpins s σ H Q I h=>wpAny_tests_nil ⟨H,I,h⟩
theorem sS{X:Cx}{c:Expr}{t:TT}(h:PT X c t):Fr X [c] t:=λpins s σ H Q I q=>wpAny_tests_one (h pins s σ H Q I q)
def fg(J:It)(g:TG)(ti:TT)(te:TE)(σ:St)(H:Hp)(Q:List V->Hp->Prop):Prop:=
 ∃W:Nat->Nat->List V->St->Hp->Prop,(∃m,W 0 m [] σ H)/\∀i m acc σ' H',W i m acc σ' H' ->
  acc.length<sizeLine/\((J.stop i H'/\Q acc H') \/
   (J.go i H'/\∃N:List V->St->Hp->Prop,(∀acc' σ2 H2,N acc' σ2 H2->∃m',m'<m/\W (i+1) m' acc' σ2 H2) /\
    ∀x H2,J.yld i H' x H2->g x σ' H2 λσ2 H3=>ti σ2 H3 λb H4=>if b=true then te σ2 H4 λv H5=>N (acc++[v]) σ2 H5 else N acc σ2 H4))
def xN(k:Nat)(js:KU)(wi:TI)(g:TG)(ti:TT)(te:TE):TE:=λσ H Q=>wi σ H λJ H1=>fg J g ti te (qi k js σ) H1 λacc H'=>∀l,H' l=none->Q (.ref l) (aE H' l (.lst acc))
abbrev gz(its:KY)(n:Nat):Obj:={cls:=.type "list",data:=.seq its.toArray n}
theorem qm{pins:KS}{σ:St}{H:Hp}{s:KW}{elt tg iter:Expr}{ifs:K7}{scope:Scope}{pos:Pos}{own:K3}{js:KU}{g:TG}{ti:TT}{te:TE}{J:It}{fp:KZ}{it:Addr}{tn:Nat->Heap->Prop}{Q:List V->Hp->Prop}{E:KQ}
  {RR:Value->Addr->Result->Shared->Prop} (hc:X.calm=true) (hk:bQ scope X.env.scope) (hcap:(js.all λj=>scope.names.contains (X.N.getD j Str.empty,NameKind.free))=true)
  (hg:∀s H fp C,PG (X.blk (oE own js X.N) s H scope fp C) tg g) (hi:∀s H fp C,Fr (X.blk (oE own js X.N) s H scope fp C) ifs ti) (he:∀s H fp C,PE (X.blk (oE own js X.N) s H scope fp C) elt te)
  (I:Inv X pins σ H s) (T:sR X.prog X.w X.K tg J fp it tn) (st:tn 0 s.heap) (hf:∀b∈fp,mw X pins H b)
  (hW:fg J g ti te (qi own.length js σ) H Q)
  (hRR:∀(D C:Addr) (s':KW) (H':Hp) (acc:List V) (m:K0),Q acc H'->H' D=none->Inv X pins σ (aE H' D (.lst acc)) s'->s'.heap.Ns C m->aE H' D (.lst acc) C=none->C≠X.env.locals->X.s₀.heap.objs.size<=C ->
   (∀x c,X.env.cells.lookup x=some c->c≠C)->(∀p∈X.pn++pins,p.1≠C)->RR (.ref D) C (.ok .next) s') :
  wpAny (model X.prog X.w) X.A (newList []) (λacc s₃=>wpAny (model X.prog X.w) X.A (newFunctionEnv scope X.env.globals (fe X.env scope.names []) [] X.env.qual none .none (some X.env)) (λcenv s₄=>
   codeAny (model X.prog X.w) X.A (.compStart (.ListComp elt [⟨tg,iter,ifs,0⟩] scope pos) 0 (.ref it) acc {cenv with scope:=relabel scope X.env}) (RR acc cenv.locals) s₄) E s₃) E s:=by
 obtain⟨W,⟨m0,w0⟩,turn⟩:=hW;refine wpAny_newObj_type (fo ?_);dsimp only;generalize b4:s.heap.push {cls:=.type "list",dict:=none,data:=.seq ([]:List Value).toArray}=H2;generalize c9:pushCells (H2.push {cls:=.type "dict",data:=.dict #[]}) scope.names=h₁;have b1:∀b o,(H2.push {cls:=.type "dict",data:=.dict #[]}).get? b=some o->h₁.get? b=some o:=λb o e=>c9▸pushCells_keeps _ _ b o e;have c6:h₁.Ns H2.objs.size λ_=>none:=by
  have q:(H2.push {cls:=.type "dict",data:=.dict #[]}).Ns H2.objs.size λ_=>none:=Heap.Ns.new ..;exact q.at' λo e=>b1 _ o e
 have b2:∀x c,(x,c)∈cellsFrom (H2.objs.size+1) scope.names []->h₁.IsCell c none:=λx c e=>by
  have ok:=cellsFrom_ok scope.names (H2.push {cls:=.type "dict",data:=.dict #[]}) (H2.objs.size+1) [] ⟨λ_ _ hm=>(nomatch hm),List.Pairwise.nil⟩ (by rw[Heap.size_push];exact Kg _);rw[Heap.size_push,c9]at ok;exact(ok.empty x c e).1
 have hC:H2.objs.size=s.heap.objs.size+1:=by rw[<- b4,Heap.size_push]
 have b6:s.heap.objs.size≠H2.objs.size:=by rw[hC];exact Kc (Kq _)
 have L:s.heap.objs.size<=H2.objs.size:=by rw[hC];exact Nat.le_succ _
 have c0:∀b,b<s.heap.objs.size->b≠H2.objs.size/\b≠s.heap.objs.size:=λb l=>⟨by rw[hC];exact Kc (Nat.lt_succ_of_lt l),Kc l⟩;have c4:∀b o,s.heap.get? b=some o->h₁.get? b=some o:=λb o e=>b1 b o (JV _ (b4▸JV _ e));have d1:h₁.get? s.heap.objs.size=some (gz [] 0):=b1 _ _ (JV _ (b4▸J1 _ rfl));have a0:∀b∈fp,∃o,s.heap.get? b=some o:=λb l=>let ⟨o,e,_⟩:=T.obj 0 _ st b l;⟨o,e⟩
 have c1:tn 0 h₁:=T.keep 0 _ _ st λb _ o e=>c4 b o e;generalize B:X.blk (oE own js X.N) s H scope fp H2.objs.size=Xb;have I₁:Inv Xb [] (qi own.length js σ) H {s with heap:=h₁}:=B▸zI I hk L hf a0 rfl rfl c6 c4 b2 hcap;have eP:Xb.prog=X.prog:=by rw[<- B];rfl
 have ew:Xb.w=X.w:=by rw[<- B];rfl
 have eK:Xb.K=X.K:=by rw[<- B];rfl
 have eA:Xb.A=X.A:=by rw[<- B];rfl
 have ec:Xb.calm=true:=by rw[<- B];exact hc
 have eE:Xb.env=compEnvC scope (dU X.env scope H2.objs.size) H2.objs.size X.env:=by rw[<- B];rfl
 have ex:Xb.xe=λ_ _=>False:=by rw[<- B];rfl
 have es:Xb.s₀=s:=by rw[<- B];rfl
 have eh:Xb.H₀=H:=by rw[<- B];rfl
 have ef:Xb.fs=wH X.stack:=by rw[<- B];rfl
 have e0:Xb.ex=fp:=by rw[<- B];rfl
 have ep:Xb.pn=[]:=by rw[<- B];rfl
 have eL:Xb.env.locals=H2.objs.size:=by rw[eE];rfl
 have e9:H s.heap.objs.size=none:=I.hok.fresh (Kg _)
 -- D is no iterator's,no frame's
 have d6:∀b∈fp,b≠s.heap.objs.size:=λb l e=>by
  obtain⟨o,q⟩:=a0 b l;rw[e]at q;exact q0Q (Kj q) (Ko _)
 have e8:s.heap.objs.size∉Xb.fs:=λz=>by
  rw[ef]at z;rcases J_.mp (I.stkSub _ z) with q | q
  ·exact q0Q I.lt (by rw[<- q];exact Ko _)
  ·exact I.nofs (Kg _) q
 have a5:∀x c,Xb.env.cells.lookup x=some c->c≠s.heap.objs.size:=λx c e q=>by
  rcases I.blkL hk (C:=H2.objs.size) (x:=x) (c:=c) (by rw[eE]at e;exact e) with⟨_,z,_⟩ | z
  ·rw[q]at z
   exact q0Q L (Nat.not_le.mpr z)
  ·obtain⟨v,o,ho,_⟩:=I.cell x c z
   rw[q]at ho;exact q0Q (Kj ho) (Ko _)
 have R:∀{pl:KS} {H':Hp},(∀b∈fp,H' b=none)->(∀p∈pl,p.1=s.heap.objs.size)->∀b∈fp,mw Xb pl H' b:=λhn S b l=>by
  refine⟨hn b l,?_,?_,.inl (by rw[e0];exact l),λx c e=>?_,λp c5=>?_⟩
  ·rw[eL];exact(c0 b (let ⟨o,q⟩:=a0 b l;Kj q)).1
  ·rw[ef];intro z
   rcases J_.mp (I.stkSub b z) with q | q
   ·exact(hf b l).2.1 q
   ·exact(hf b l).2.2.1 q
  ·rcases I.blkL hk (C:=H2.objs.size) (x:=x) (c:=c) (by rw[eE]at e;exact e) with⟨_,z,_⟩ | z
   ·intro q
    rw[q]at z;obtain⟨o,q2⟩:=a0 b l;exact q0Q (Kb (Kj q2) L) (Nat.not_lt.mpr (q0P z))
   ·exact(hf b l).2.2.2.2.1 x c z
  ·rw[ep,KJ]at c5
   rw[S p c5];exact(d6 b l).symm
 have a6:∀s₃:Shared,s₃={s with heap:=h₁} ->
   codeAny (model X.prog X.w) X.A (.compLoop (.ListComp elt [⟨tg,iter,ifs,0⟩] scope pos) 0 (.ref it) (.ref s.heap.objs.size) (compEnvC scope (dU X.env scope H2.objs.size) H2.objs.size X.env))
    (RR (.ref s.heap.objs.size) H2.objs.size) s₃:=by
  rintro s₃ rfl;refine rB (λn s'=>∃(i:Nat) (acc:List V) (a:KY) (k:Nat) (σ':St) (H':Hp),Inv Xb [] σ' H' s'/\tn i s'.heap/\(∀b∈fp,H' b=none)/\H' s.heap.objs.size=none/\s'.heap.get? s.heap.objs.size=some (gz a k)/\bv acc a/\W i n acc σ' H')
   ?_ m0 ⟨0,[],[],0,_,H,I₁,c1,λb l=>(hf b l).1,e9,d1,.nil,w0⟩
  rintro n s' ⟨i,acc,a,k,σ',H',I',c3,d7,M,e3,Z,w'⟩;obtain⟨c7,tt⟩:=turn i n acc σ' H' w'
  -- the gathered list,pinned
  have Ip:Inv Xb [(s.heap.objs.size,gz a k)] σ' H' s':=I'.pins_of λp S=>by
   have e:p=(s.heap.objs.size,gz a k):=by simpa using S
   subst e;exact⟨e3,M,by rw[eL];exact b6,e8,λv z=>by cases z⟩
  have b0:∀p∈[(s.heap.objs.size,gz a k)],p.1=s.heap.objs.size:=λp S=>by
   have e:p=(s.heap.objs.size,gz a k):=by simpa using S
   rw[e]
  rcases tt with⟨c2,q⟩ | ⟨go,N,hN,step⟩
  ·have d:=T.done Xb eP ew eK ec i _ s' σ' H' (λ_ _=>False) Ip (R d7 b0) c3 c2
   rw[eA]at d;refine q0X d (λr s1 hr=>?_) λ_ _ z=>z;obtain⟨rfl,I1⟩:=hr;have e2:s1.heap.get? s.heap.objs.size=some (gz a k):=(I1.pin _ (q0C _ (JX.mpr rfl))).1;obtain⟨mC,b3,_⟩:=I1.loc;rw[eL]at b3;obtain⟨oC,_,_,hoC,_⟩:=id b3;have f0:H' H2.objs.size=none:=by have:=I1.free;rwa [eL]at this
   have ub:Un (wH X.stack) fp H H' s.heap s1.heap:=by have:=I1.base;rwa [ef,e0,eh,es]at this
   refine hRR _ _ s1 H' acc mC q M ?_ b3 ?_ ?_ ?_ ?_ ?_
   ·-- dP outside
    refine I.call' (ch:=fp) (by have:=I1.os;rwa [es]at this) ⟨λb o e n1 h1 h2=>ub.keep b o e n1 h1 h2,λb o e n1 h1 h2=>ub.slot b o e n1 h1 h2,λb o e n1 h1=>?_,ub.there,λb xs e=>?_,λb o u e=>?_,λb ps e=>?_⟩ ?_ (by have:=I1.bare;exact this) λb l=>?_
    ·rw[av (λz=>by rw[z]at e;exact q0Q (Kj e) (Ko _))]
     exact ub.free b o e n1 h1
    ·rw[av (aJ (ub.tups b xs e) M)]
     exact ub.tups b xs e
    ·rw[av (aJ (ub.frzs b o u e) M)]
     exact ub.frzs b o u e
    ·obtain⟨more,z⟩:=ub.tbls b ps e
     exact⟨more,by rw[av (aJ z M)];exact z⟩
    ·intro b u e
     have a7:=I1.hok;rw[eP,ew]at a7
     by_cases l:b=s.heap.objs.size
     ·subst l
      rw[ag]at e;cases e;exact⟨q0P c7,a,k,Z,e2⟩
     ·rw[av l]at e
      refine(a7 b u e).stay (λc v _ z=>z) (λc z=>?_) λc xs z=>?_
      ·rw[av (aJ z M)];exact z
      ·rw[av (aJ z M)];exact z
    ·exact⟨(hf b l).2.2.2.1,(hf b l).2.1,(hf b l).2.2.2.2.1,(hf b l).2.2.2.2.2⟩
   ·rw[av b6.symm];exact f0
   ·intro z;have:=I.lt;rw[<- z]at this;exact q0Q this (Nat.not_lt.mpr L)
   ·exact Kn I.sz L
   ·intro x c e z
    obtain⟨v,o,ho,_⟩:=I.cell x c e;rw[z]at ho;exact q0Q (Kj ho) (Nat.not_lt.mpr L)
   ·intro p S z
    have:=(I.pin p S).1;rw[z]at this;exact q0Q (Kj this) (Nat.not_lt.mpr L)
  ·have d:=T.item Xb eP ew eK ec i _ s' σ' H' (λ_ _=>False) Ip (R d7 b0) c3 go
   rw[eA]at d;refine q0X d (λr s1 hr=>?_) λ_ _ z=>z;obtain⟨u,rfl,d2⟩:=hr;refine q0X d2 (λ_ s2 e7=>?_) λ_ _ z=>z;obtain⟨x,e1,I2,r2,y2,a9,f1⟩:=e7;have f3:=I2.pinned (R f1 b0) (T.obj _ _ a9);have G:=B▸hg s H fp H2.objs.size;have d3:=G _ s2 σ' e1 x u _ f3 r2 (step x e1 y2);rw[eP,ew,eA,ex,eE]at d3;refine q0X d3 (λ_ s3 e6=>?_) λ_ _ z=>z;obtain⟨σ3,H3,I3,q3⟩:=e6;have Gi:=B▸hi s H fp H2.objs.size;have d4:=Gi _ s3 σ3 H3 _ I3 q3;rw[eP,ew,eA,ex,eE]at d4;refine q0X d4 (λb s4 e5=>?_) λ_ _ z=>z;obtain⟨H4,I4,q4⟩:=e5;have U:∀{O:KW} {Y:Hp} {σ5:St},Inv Xb ([(s.heap.objs.size,gz a k)]++oo fp s2.heap) σ5 Y O->O.heap.get? s.heap.objs.size=some (gz a k)/\Y s.heap.objs.size=none/\tn (i+1) O.heap/\∀b∈fp,Y b=none:=fun{O Y σ5} I5=>by
    have pD:=I5.pin (s.heap.objs.size,gz a k) (q0C _ (q0D _ (JX.mpr rfl)));refine⟨pD.1,pD.2.1,T.keep _ _ _ a9 λb l o e=>(I5.pin (b,o) (q0C _ (q0C _ (im l e)))).1,λb l=>?_⟩;obtain⟨o,e,_⟩:=T.obj _ _ a9 b l;exact(I5.pin (b,o) (q0C _ (q0C _ (im l e)))).2.1
   have bare:∀{O:KW} {Y:Hp} {σ5:St} {pl:KS},Inv Xb pl σ5 Y O->Inv Xb [] σ5 Y O:=λI5=>I5.pins_of λp S=>nomatch S;cases b with
   |false=>
    obtain⟨m',hm,w5⟩:=hN _ _ _ q4;obtain⟨a1,a2,a3,a4⟩:=U I4;exact⟨m',hm,i+1,acc,a,k,σ3,H4,bare I4,a3,a4,a2,a1,Z,w5⟩
   |true=>
    have Ge:=B▸he s H fp H2.objs.size;have d5:=Ge _ s4 σ3 H4 _ I4 q4;rw[eP,ew,eA,ex,eE]at d5;refine q0X d5 (λy O e4=>?_) λ_ _ z=>z;obtain⟨v,Y,I5,r5,q5⟩:=e4;obtain⟨m',hm,w5⟩:=hN _ _ _ q5;obtain⟨a1,a2,a3,a4⟩:=U I5;have hl:=Z.length;refine call_meets F.slot_list_append ⟨_,a1,rfl⟩ F.entry_list_append (F.args_list_append_2 _ _) (PySem.list_append s.heap.objs.size a.toArray k y (by rw[J2];omega)) ⟨a1,?_⟩;have qu:=PySem.IsL.update a1 (λa8=>a8.push y);have qe:(a.toArray.push y)=(a++[y]).toArray:=by simp
    rw[qe]at qu;have I6:Inv Xb [] σ3 Y {O with heap:=O.heap.update s.heap.objs.size (Obj.mapSeq λa8=>a8.push y),toks:=O.toks}:=
     (bare I5).turned (λb o l e=>(J0 O.heap _ (Ne.symm l)).trans e) a2 (by rw[eL];exact b6) (.inr (by rw[es];exact Kg _)) a5 (by rw[ep];intro p S;exact nomatch S)
    refine⟨m',hm,i+1,acc++[v],a++[y],_,σ3,Y,I6,T.keep _ _ _ a3 (λb l o e=>(J0 O.heap _ (d6 b l).symm).trans e),a4,a2,qu,Z.append (.cons r5 .nil),w5⟩
 refine codeAny_compStart_list (a6 _ rfl) ?_;exact T.self _ 0 _ _ _ c1 (a6 _ rfl)
theorem cU{elt tg iter:Expr}{ifs:K7}{scope:Scope}{pos:Pos}(own:K3)(js:KU){wi:TI}{g:TG}{ti:TT}{te:TE}(hc:X.calm=true)(hk:bQ scope X.env.scope)
  (hcap:(js.all λj=>scope.names.contains (X.N.getD j Str.empty,NameKind.free))=true) (hw:PI X tg iter wi)
  (hg:∀s H fp C,PG (X.blk (oE own js X.N) s H scope fp C) tg g) (hi:∀s H fp C,Fr (X.blk (oE own js X.N) s H scope fp C) ifs ti) (he:∀s H fp C,PE (X.blk (oE own js X.N) s H scope fp C) elt te)
  (hs:autoParam (∀x,foldedSetIterable iter X.env x=pure x) zz4._auto_1):PE X (.ListComp elt [⟨tg,iter,ifs,0⟩] scope pos) (xN own.length js wi g ti te):=by
 intro c s σ H Q I h;rw[eval_ListComp];refine wpAny_comprehension_free (use:=none) rfl hs (iR (I.capFree hk)) hk.kind hk.loc (cD (hw c s σ H _ I h) λv s1 h1=>cD h1 λitv s2 h2=>?_);obtain⟨it,fp,tn,J,H2,rfl,O,T,d,f2,L⟩:=h2;refine qm (RR:=λa C=>compPost (model X.prog X.w) X.A X.xe none (EP X c σ Q) a C) (Q:=λa u=>∀l,u l=none->Q (.ref l) (aE u l (.lst a))) hc hk hcap hg hi he O T d f2 L ?_;intro D C z u a m q M R B r p i n k;refine⟨m,B,λh' y=>?_⟩;exact⟨.ref D,_,R.turned (t':=z.toks) (λb o G e=>(y.2 b G).trans e) r p (.inr i) n k,rfl,q D M⟩
theorem dm{i:Nat}{x:Str}{elt tg iter:Expr}{ifs:K7}{scope:Scope}{pos spos:Pos}{px:Pos}(own:K3)(js:KU){wi:TI}{g:TG}{ti:TT}{te:TE}(hN:X.N.Nodup)(hxi:X.N[i]?=some x)(hx:Loc X.env.scope x)
  (hsw:swapsWith (.ListComp elt [⟨tg,iter,ifs,0⟩] scope pos) (some (.Name x px)) spos.line X.env=pure true)
  (hc:X.calm=true) (hk:bQ scope X.env.scope)
  (hcap:(js.all λj=>scope.names.contains (X.N.getD j Str.empty,NameKind.free))=true) (hw:PI X tg iter wi)
  (hg:∀s H fp C,PG (X.blk (oE own js X.N) s H scope fp C) tg g) (hi:∀s H fp C,Fr (X.blk (oE own js X.N) s H scope fp C) ifs ti) (he:∀s H fp C,PE (X.blk (oE own js X.N) s H scope fp C) elt te)
  (hs:autoParam (∀x,foldedSetIterable iter X.env x=pure x) zz4._auto_1) (hf:autoParam (X.fn x=true\/X.env.scope.names.lookup x=some .local) zz2._auto_1) :
  PS X (.Assign [.Name x px] (.ListComp elt [⟨tg,iter,ifs,0⟩] scope pos) spos) (zi (xN own.length js wi g ti te) (iP i)):=by
 intro c s σ H Dn I h;rw[exec_Assign_Name_used _ _ _ _ hsw];refine q04 (wpAny_standAt (q04 ?_));show wpAny _ _ (do let _ <- comprehension (.ListComp elt [⟨tg,iter,ifs,0⟩] scope pos) scope X.env _ (newList []) false (eval iter X.env) (some (assign (.Name x px) X.env))) _ _ s;refine q04 (q0X (wpAny_comprehension_free (use:=some (assign (.Name x px) X.env)) (Q:=λ_ k=>SP X c Dn .next k) (E:=X.xe) rfl hs (iR (I.capFree hk)) hk.kind hk.loc ?_) (λ_ k q=>q05 (q05 q)) λ_ _ z=>z);refine(cD (hw c s σ H _ I h) λv s1 h1=>cD h1 λitv s2 h2=>?_);obtain⟨it,fp,tn,J,H2,rfl,I2,T,r,f2,hW⟩:=h2;refine qm (RR:=λd C=>compPost (model X.prog X.w) X.A X.xe (some (assign (.Name x px) X.env)) (λ_ k=>SP X c Dn .next k) d C) (Q:=λd S=>∀l,S l=none->iP i (.ref l) σ (aE S l (.lst d)) Dn.nx) hc hk hcap hg hi he I2 T r f2 hW ?_;intro D C k S d m q hD I' U O p G n L;show wpAny _ _ (assign (.Name x px) X.env (.ref D)) _ _ k;refine wpAny_assign_Name (qc I' hN hxi hx (v:=.ref D) rfl (λB R y=>?_) hf);obtain⟨a,y,Z⟩:=y;have M:C≠a:=by
  rcases Z with z | z
  ·rw[z];exact p
  ·exact(n x a z).symm
 refine⟨m,U.sameBut y M,λh' u=>?_⟩;exact⟨_,_,R.turned (t':=B.toks) (λb o Y e=>(u.2 b Y).trans e) O p (.inr G) n L,q D hD⟩
end
section
variable {K:KR}{g:TG}{ti:TT}{te:TE}{σ:St}{H:Hp}{Q:List V->Hp->Prop}
theorem ja{J:It}{n:Nat}(Pv:Nat->List V->St->Hp->Prop)(h0:Pv 0 [] σ H)(hz:∀i acc σ H,Pv i acc σ H->acc.length<sizeLine)(hi:∀i acc σ H,Pv i acc σ H->i<=n)
  (stop:∀acc σ H,Pv n acc σ H->J.stop n H) (go:∀i acc σ H,i<n->Pv i acc σ H->J.go i H)
  (hs:∀i x acc σ H H2,i<n->Pv i acc σ H->J.yld i H x H2->g x σ H2 λσ2 H3=>ti σ2 H3 λb H4=>if b=true then te σ2 H4 λv H5=>Pv (i+1) (acc++[v]) σ2 H5 else Pv (i+1) acc σ2 H4)
  (he:∀acc σ H,Pv n acc σ H->Q acc H) :
  fg J g ti te σ H Q:=by
 refine⟨λi m acc σ H=>Pv i acc σ H/\m=n+1-i,⟨n+1,h0,rfl⟩,?_⟩;rintro i m acc σ' a ⟨w,rfl⟩;refine⟨hz i acc σ' a w,?_⟩;have hle:=hi i acc σ' a w;rcases Nat.lt_or_ge i n with c | hge
 ·refine .inr ⟨go i acc σ' a c w,λacc' σ2 H2=>Pv (i+1) acc' σ2 H2,λacc' σ2 H2 w2=>⟨n+1-(i+1),?_,w2,rfl⟩,λx H2 y=>hs i x acc σ' a H2 c w y⟩
  have:=hi (i+1) acc' σ2 H2 w2;omega
 ·have e:i=n:=by omega
  subst e;exact .inl ⟨stop acc σ' a w,he acc σ' a w⟩
theorem d9{a:Addr}{xs:List V}(Pv:Nat->List V->St->Hp->Prop)(h0:Pv 0 [] σ H)(hz:∀i acc σ H,Pv i acc σ H->acc.length<sizeLine)(hi:∀i acc σ H,Pv i acc σ H->i<=xs.length)
  (hl:∀i acc σ H,Pv i acc σ H->aM K H a xs)
  (hs:∀i x acc σ H,xs[i]?=some x->Pv i acc σ H->g x σ H λσ2 H3=>ti σ2 H3 λb H4=>if b=true then te σ2 H4 λv H5=>Pv (i+1) (acc++[v]) σ2 H5 else Pv (i+1) acc σ2 H4)
  (he:∀acc σ H,Pv xs.length acc σ H->Q acc H):fg (By K a) g ti te σ H Q:=by
 exact ja (J:=By K a) (g:=g) (ti:=ti) (te:=te) (Q:=Q) (n:=xs.length) Pv h0 hz hi (λacc σ H w=>⟨xs,hl _ _ _ _ w,Kg _⟩)
  (λi acc σ H hlt w=>⟨xs,xs[i],hl _ _ _ _ w,JT hlt⟩) (λi x acc σ H H2 hlt w y=>by obtain⟨rfl,c⟩:=y;exact hs i x acc σ H2 (c xs (hl _ _ _ _ w)) w) he
theorem jX{lo:Int}{n:Nat}(Pv:Nat->List V->St->Hp->Prop)(h0:Pv 0 [] σ H)(hz:∀i acc σ H,Pv i acc σ H->acc.length<sizeLine)(hi:∀i acc σ H,Pv i acc σ H->i<=n)
  (hs:∀i acc σ H,i<n->Pv i acc σ H->g (.int (lo+i)) σ H λσ2 H3=>ti σ2 H3 λb H4=>if b=true then te σ2 H4 λv H5=>Pv (i+1) (acc++[v]) σ2 H5 else Pv (i+1) acc σ2 H4)
  (he:∀acc σ H,Pv n acc σ H->Q acc H):fg (wo lo n) g ti te σ H Q:=by
 exact ja (J:=wo lo n) (g:=g) (ti:=ti) (te:=te) (Q:=Q) (n:=n) Pv h0 hz hi (λacc σ H w=>Kg _) (λi acc σ H hlt w=>hlt) (λi x acc σ H H2 hlt w y=>by obtain⟨rfl,rfl⟩:=y;exact hs i acc σ H2 hlt w) he
end
structure dF(P:K2)(w:K5)(K:KR)(mg:K0)(base:Heap)(CX:j0)(k:Nat)(x:Str)(ps:K3)(sp:Sp):Prop where
 ex:∃(f:Addr) (fd:K1),bw P w K mg base CX k f fd ps sp/\mg x=some (.ref f)/\PySem.W.keepIn K (.ref f)=true/\dX K fd ps []
structure NB(mg:K0):Prop where
 len:mg "len"=none
 range:mg "range"=none
 list:mg "list"=none
 tuple:mg "tuple"=none
 isinstance:mg "isinstance"=none
 int:mg "int"=none
 bool:mg "bool"=none
 str:mg "str"=none
 reversed:mg "reversed"=none
 all:mg "all"=none
 enumerate:mg "enumerate"=none
 zip:mg "zip"=none
 sorted:mg "sorted"=none
 set:mg "set"=none
 dict:mg "dict"=none
 min:mg "min"=none
 max:mg "max"=none
 sum:mg "sum"=none
 ValueError:mg "ValueError"=none
section
variable {X:Cx}{CX:j0}{k:Nat}{x:Str}{ps:K3}{sp:Sp}{E:XK}{p pos:Pos}{e:Expr}{es:K7}{t:TA}
theorem aG(C:dF X.prog X.w X.K X.mg X.base CX k x ps sp)(hr:c8 k X.A)(hg:Gl X x)(hx:dC CX X E)(ha:PA X (e::es) t)(hdb:autoParam ((x==("__debug__":Str))=false) zz3._auto_1)
  (hst:autoParam (starEach (e::es) X.env=(false,eval e X.env)::starEach es X.env) zz0._auto_1) (hpl:autoParam ((backTo pos (starEach es X.env)).any (·.1)=false) zz0._auto_1):PE X (.Call (.Name x p) (e::es) [] pos) (j_ sp [] E t):=by
 obtain⟨f,fd,F,a,b,c⟩:=C.ex;exact Ch F hr hg a b c .nil hx ha hdb hst hpl
theorem q00{j:Nat}(C:dF X.prog X.w X.K X.mg X.base bD k x ps sp)(hr:c8 j X.A)(ha:PA X (e::es) t)(hk:autoParam (k<=j) zz1._auto_1)(hg:autoParam (Gl X x) zz0._auto_1)(hdb:autoParam ((x==("__debug__":Str))=false) zz3._auto_1)
  (hst:autoParam (starEach (e::es) X.env=(false,eval e X.env)::starEach es X.env) zz0._auto_1) (hpl:autoParam ((backTo pos (starEach es X.env)).any (·.1)=false) zz0._auto_1):PE X (.Call (.Name x p) (e::es) [] pos) (j_ sp [] E0 t):=aG C (hr.mono hk) hg aK ha hdb hst hpl
end
section
variable {X:Cx}{tg:Expr}
def AT(_ j:Int):Prop:=0<j/\j<18446744073709551616
theorem aP:bd X (binaryOp .FloorDiv) (rI AT λi j=>.int (i/j)):=Gv λi j _ _ _ _ _ hc q=>by
 have h1:(0:Int)<j:=hc.1;have h2:j<18446744073709551616:=hc.2;refine floordiv_int ⋯ (by rw[Int.fdiv_eq_ediv_of_nonneg i ⋯];exact q) (.inl (PyProof.noPylong_of_log2 ?_));have h64:j.natAbs.log2<64:=(Nat.log2_lt ⋯).mpr ⋯;omega
theorem d0:∀{ys:K3} {us:KY},bv (ys.map V.str) us->StrsAre us ys
 | [],_,.nil=>.nil
 |y::ys,_,.cons r t=>by
  obtain⟨tk,rfl⟩:=r;exact .cons y tk (d0 t)
def u_(K:KR):V->List V->Hp->VK->Prop:=λx xs H Q=>∃z p ys,x=.str z/\xs=[.ref p]/\(aM K H p (ys.map V.str)\/dZ K H p (ys.map V.str))/\(ys.map (·.length)).sum+ys.length*z.length<=16777216/\Q (.str (Txt.join z ys)) H
theorem C9:Gj X "str.join" (u_ X.K):=by
 intro pins s σ H x xs v us Q I rx rv h;obtain⟨z,p,ys,rfl,rfl,hs,d,q⟩:=h;obtain⟨t,rfl⟩:=rx;obtain⟨u,rfl,e⟩:=rv.one;cases e;rcases hs with hs | hs
 ·obtain⟨c,r,b,_⟩:=I.list hs
  exact join_list b.isList (by simpa using d0 r) d λa k=>⟨.str _,H,I.tok k,⟨a,rfl⟩,q⟩
 ·obtain⟨c,r,b,_⟩:=I.tuple hs
  exact join_tuple b (by simpa using d0 r) d λa k=>⟨.str _,H,I.tok k,⟨a,rfl⟩,q⟩
def FS(x:Str):It:=⟨λi _=>i<x.cps.size,λi H v H'=>H'=H/\∃c,x.cps[i]?=some c/\v=.str ⟨#[c]⟩,λi _=>x.cps.size<=i⟩
theorem Am{P:K2}{w:K5}{K:KR}{tg:Expr}(x:Str)(t:Tok)(it:Addr):sR P w K tg (FS x) [it] it (λi h=>h.IsStrIter it (strIterType x) x t i) where
 mem:=by simp
 obj:=λi h g b l=>by
  have e:b=it:=by simpa using l
  subst e;obtain⟨o,e,c,d⟩:=g;exact⟨o,e,λv z=>by rw[d]at z;cases z⟩
 keep:=λi h m g k=>by
  obtain⟨o,e,c,d⟩:=g;exact⟨o,k it (by simp) o e,c,d⟩
 item:=by
  intro X M G O L i j s σ H E I hf g hg;subst M G O;obtain⟨D,C,f2,B,y,r⟩:=hf it (by simp);have J:i<x.cps.size:=hg;have p:x.cps[i]?=some x.cps[i]:=Array.getElem?_eq_getElem J;have fin:∀m,m.IsStrIter it (strIterType x) x t (i+1)->Heap.SameBut it s.heap m->∃u,(some (Value.str ⟨#[x.cps[i]]⟩ s.toks))=some u /\
    wpAny (model X.prog X.w) X.A (letOwnedTupleGo tg (.ref it) u) (λ_ S=>∃v H',Inv X j σ H' S/\bK v u/\(FS x).yld i H v H'/\S.heap.IsStrIter it (strIterType x) x t (i+1)/\∀b∈[it],H' b=none) E {s with heap:=m,toks:=s.toks+1}:=λm q T=>by
   have U:Inv X j σ H {s with heap:=m,toks:=s.toks+1}:=I.turned (λb o l e=>(T.2 b l).trans e) D C B y r;obtain⟨o,e,c,d⟩:=id q;refine⟨_,rfl,vp (s:={s with heap:=m,toks:=s.toks+1}) e c d ?_ ⟨.str ⟨#[x.cps[i]]⟩,H,U,⟨_,rfl⟩,⟨rfl,_,p,rfl⟩,q,λb l=>(hf b l).1⟩⟩;unfold strIterType
   split<;>decide
  cases n:x.cps.all (· < 128) with
  |true=>
   have a:strIterType x="str_ascii_iterator":=by unfold strIterType;rw[n];rfl
   rw[a]at g fin ⊢;exact wpAny_pyNext_ascii_item g p fin
  |false=>
   have a:strIterType x="str_iterator":=by unfold strIterType;rw[n];rfl
   rw[a]at g fin ⊢;exact wpAny_pyNext_wide_item g p fin
 done:=by
  intro X M G O L i j s σ H E I hf g hg;subst M G O;obtain⟨D,C,f2,B,y,r⟩:=hf it (by simp);have J:x.cps.size<=i:=hg;have p:x.cps[i]?=none:=Array.getElem?_eq_none J;cases n:x.cps.all (· < 128) with
  |true=>
   have a:strIterType x="str_ascii_iterator":=by unfold strIterType;rw[n];rfl
   rw[a]at g;exact wpAny_pyNext_ascii_end (I.ok.hd L) g p λm R=>⟨rfl,I.turned (t':=s.toks) (λb o l e=>R b o l e) D C B y r⟩
  |false=>
   have a:strIterType x="str_iterator":=by unfold strIterType;rw[n];rfl
   rw[a]at g;exact wpAny_pyNext_wide_end (I.ok.hd L) g p λm R=>⟨rfl,I.turned (t':=s.toks) (λb o l e=>R b o l e) D C B y r⟩
 self:=λA i s Q E g h=>by
  cases n:x.cps.all (· < 128) with
  |true=>
   have a:strIterType x="str_ascii_iterator":=by unfold strIterType;rw[n];rfl
   rw[a]at g;exact wpAny_pyIter_striter_ascii g h
  |false=>
   have a:strIterType x="str_iterator":=by unfold strIterType;rw[n];rfl
   rw[a]at g;exact wpAny_pyIter_striter_wide g h
def D6(tl:TE):TI:=λσ H R=>tl σ H λv H1=>∃x,v=.str x/\R (FS x) H1
theorem EY{l:Expr}{tl:TE}(hl:PE X l tl):PI X tg l (D6 tl):=by
 intro a s σ H R I h;refine cD (hl a s σ H _ I h) λv c ⟨x,H1,d,g,i⟩=>?_;obtain⟨x,rfl,q⟩:=i;obtain⟨t,rfl⟩:=g;refine wpAny_pyIter_strU ?_;refine⟨c.heap.objs.size,[c.heap.objs.size],_,_,H1,rfl,d.kept (t':=c.toks) λb o e=>JV _ e,Am x t _,⟨_,J1 _ rfl,rfl,rfl⟩,λb j=>?_,q⟩;have e:b=c.heap.objs.size:=by simpa using j
 subst e;exact d.fpOk (Kg _) (d.hok.fresh (Kg _))
def F4(K:KR)(a:Addr)(n:Nat):It:=
 ⟨λi H=>∃xs x,aM K H a xs/\i<n/\xs[n-1-i]?=some x,λi H x H'=>H'=H/\∀xs,aM K H a xs->xs[n-1-i]?=some x,λi _=>i=n⟩
theorem AK{P:K2}{w:K5}{K:KR}{tg:Expr}(a it:Addr)(n:Nat):sR P w K tg (F4 K a n) [it] it (λi h=>h.IsRevIter it a ((n:Int)-1-(i:Int))) where
 mem:=by simp
 obj:=λi h g b m=>by
  have e:b=it:=by simpa using m
  subst e;obtain⟨o,e,c,d⟩:=g;exact⟨o,e,λv z=>by rw[d]at z;cases z⟩
 keep:=λi h r g k=>g.at λo e=>k it (by simp) o e
 item:=by
  intro X B y C T i j s σ H E I hf g hg;subst B y C;obtain⟨xs,x,R,S,O⟩:=hg;obtain⟨its,Y,p,hz⟩:=I.list R;obtain⟨u,hu,Z⟩:=Y.get O;obtain⟨M,L,f2,J,G,D⟩:=hf it (by simp);have e:(n:Int)-1-(i:Int)=((n-1-i:Nat):Int):=by omega
  have q:=g;rw[e]at q;refine wpAny_pyNext_rev_item q p.isList (x:=u) (by simpa using hu) λr l U=>?_;have e2:((n-1-i:Nat):Int)-1=(n:Int)-1-((i+1:Nat):Int):=by omega
  rw[e2]at l;have I1:Inv X j σ H {s with heap:=r }:=I.turned (t':=s.toks) (λb o m e=>(U.2 b m).trans e) M L J G D;obtain⟨o,e,c,d⟩:=id l;exact⟨u,rfl,vp (s:={s with heap:=r }) e c d (by decide) ⟨x,H,I1,Z,⟨rfl,λys hy=>by rw[I.list_inj hy R];exact O⟩,l,λb m=>(hf b m).1⟩⟩
 done:=by
  intro X B y C T i j s σ H E I hf g hg;subst B y C;obtain⟨M,L,f2,J,G,D⟩:=hf it (by simp);have S:i=n:=hg;subst S;have e:(i:Int)-1-(i:Int) = -1:=by omega
  rw[e]at g;exact wpAny_pyNext_rev_end (I.ok.hd T) g λr eb=>⟨rfl,I.turned (t':=s.toks) (λb o m e=>eb b o m e) M L J G D⟩
 self:=λ_ _ _ _ _ g h=>wpAny_pyIter_revIter g h
def Cu(K:KR)(ta:TA):TI:=λσ H R=>ta σ H λvs H1=>∃a xs,vs=[.ref a]/\aM K H1 a xs/\R (F4 K a xs.length) H1
theorem Aw{a:Expr}{ta:TA}{p pos:Pos}(hg:Gl X "reversed")(hm:X.mg "reversed"=none)(ha:PA X [a] ta)(hs:autoParam (starEach [a] X.env=[(false,eval a X.env)]) zz0._auto_1):PI X tg (.Call (.Name "reversed" p) [a] [] pos) (Cu X.K ta):=by
 intro d s σ H R I h;refine Call_ (eS I hg hm boot_reversed (PyProof.Rows.callWith_type1 (cD (ha pos d s σ H _ I h) λus c ⟨vs,H1,j,v,w⟩=>?_) hs rfl));obtain⟨l,g,rfl,y,q⟩:=w;obtain⟨u,rfl,r⟩:=v.one;cases r;obtain⟨k,n,x,hz⟩:=j.list y;have i:=n.length;refine call_reversed_list x.isList ?_;have B:k.toArray.size=g.length:=by rw[J2,i]
 rw[B];have C:Inv X d σ H1 {c with heap:=c.heap.push (revObj l ((g.length:Int)-1))}:=j.kept (t':=c.toks) λb o e=>JV _ e;have m:(c.heap.push (revObj l ((g.length:Int)-1))).IsRevIter c.heap.objs.size l ((g.length:Int)-1-((0:Nat):Int)):=⟨_,J1 _ rfl,rfl,by simp[revObj]⟩;refine wpAny_pyIter_revIter m ?_;refine⟨c.heap.objs.size,[c.heap.objs.size],_,_,H1,rfl,C,AK l _ g.length,m,λb z=>?_,q⟩;have e:b=c.heap.objs.size:=by simpa using z
 subst e;exact j.fpOk (Kg _) (j.hok.fresh (Kg _))
def EK:V->Option Int->Option Int->Hp->VK->Prop:=λx lo hi H Q=>∃z,x=.str z/\z.length<=sizeLine/\Q (.str (Txt.slice z lo hi)) H
theorem pp:Gy X EK:=by
 intro a s σ H x v vl vu lo hi sl Q I rx hs pl pu h;obtain⟨z,rfl,b,q⟩:=h;obtain⟨t,rfl⟩:=rx;have fin:∀c k,EP X a σ Q (.str (Txt.slice z lo hi) c) {s with toks:=k}:=λc k=>⟨.str _,H,I.tok k,⟨c,rfl⟩,q⟩;refine⟨"str",_,F.slot_str_getitem.lookup,typeIs_str _ _ _,?_⟩;cases pl with
 |none=>
  cases pu with
  |none=>exact wpAny_getItem_str_slice (l:=none) (u:=none) (st:=none) hs rfl (post_val_or_str ⟨Kn (Txt.slice_le z _ _) b,fin⟩)
  |int j uj=>exact wpAny_getItem_str_slice (l:=none) (u:=some (j,uj)) (st:=none) hs rfl (post_val_or_str ⟨Kn (Txt.slice_le z _ _) b,fin⟩)
 |int i ui=>
  cases pu with
  |none=>exact wpAny_getItem_str_slice (l:=some (i,ui)) (u:=none) (st:=none) hs rfl (post_val_or_str ⟨Kn (Txt.slice_le z _ _) b,fin⟩)
  |int j uj=>exact wpAny_getItem_str_slice (l:=some (i,ui)) (u:=some (j,uj)) (st:=none) hs rfl (post_val_or_str ⟨Kn (Txt.slice_le z _ _) b,fin⟩)
def Gk(sep:Str)(ta:TA):TE:=λσ H Q=>ta σ H λvs H1=>∃x,vs=[.str x]/\x.length<=1000/\sep.length<=1000/\Q (.str (Txt.join sep (x.cps.toList.reverse.map λc=>(⟨#[c]⟩:Str)))) H1
theorem ou{e:Expr}{ta:TA}{sep:Str}{j:Nat}{p0 ap p1 p2 cpos:Pos}(hc:X.calm=true)(hg:Gl X "reversed")(hm:X.mg "reversed"=none)(ha:PA X [e] ta)
  (hfew:autoParam (((backTo cpos (starEach [.Call (.Name "reversed" p1) [e] [] p2] X.env)).all (λx=>!x.1)&&(backToKw cpos (keywordEach [] X.env)).all (λx=>x.1.isSome)
   && decide ([Expr.Call (.Name "reversed" p1) [e] [] p2].length+([]:List Keyword).length+(if([]:List Keyword).isEmpty then 0 else 1)<30))=true) zz0._auto_1)
  (hline:autoParam ((ap.endLine==cpos.line)=true) zz0._auto_1) (hs:autoParam (starEach [e] X.env=[(false,eval e X.env)]) zz0._auto_1) :
  PE X (.Call (.Attribute (.Constant (.str sep) j p0) "join" ap) [.Call (.Name "reversed" p1) [e] [] p2] [] cpos) (Gk sep ta):=by
 intro c s σ H Q I h;refine wpAny_Call_method_late rfl hfew hline rfl (cD (lB (X:=X) c s σ H (λv H1=>v=.str sep/\H1=H) I ⟨rfl,rfl⟩) λv l ⟨x,H1,n,y,D⟩=>?_);obtain⟨rfl,rfl⟩:=D;obtain⟨t0,rfl⟩:=y;refine⟨"str",_,F.plainAttrs_str,F.slot_str_join,F.type_str_join,typeIs_str _ _ _,(λa z=>nomatch z),?_⟩;refine Calls.callWith_builtin rfl (Calls.evalArgs_plain ?_);show wpAny _ _ (spliced ((false,eval (.Call (.Name "reversed" p1) [e] [] p2) X.env)::[])) _ _ l;refine Calls.spliced_cons ?_;refine Call_ (eS n hg hm boot_reversed (PyProof.Rows.callWith_type1 (cD (ha p2 c l σ H1 _ n h) λus d ⟨vs,H2,i,w,B⟩=>?_) hs rfl));obtain⟨x,rfl,C,g,q⟩:=B;obtain⟨u,rfl,r⟩:=w.one;obtain⟨t,rfl⟩:=r;have hsl:sizeLine=16777216:=q0W;refine kz ⋯ (Calls.spliced_nil ?_);have m:Inv X c σ H2 {d with heap:=d.heap.push (wz x t ((x.length:Int)-1)),toks:=d.toks+1+1}:=i.kept λb o e=>JV _ e;have J:=i.fpOk (b:=d.heap.objs.size) (H':=H2) (Kg _) (i.hok.fresh (Kg _));obtain⟨S,R,f2,O,M,L⟩:=J;refine AJ (m.ok.hd hc) (I:=d.heap.objs.size) (x:=x) (t:=t) ⟨_,J1 _ rfl,rfl,rfl⟩ C g λp t' k keep U Y T=>?_;obtain⟨h',g',d',k',o'⟩:=p;cases U;cases Y;cases T;exact⟨.str _,H2,m.turned (t':=k) (λb o G e=>keep b o G e) S R O M L,⟨t',rfl⟩,q⟩
def CF:V->Value
 | .ty n=>.type n
 | .ref a=>.ref a
 |_=>.none
def tM:V->Bool
 | .ty _=>true
 | .ref _=>true
 |_=>false
theorem Dr{c:V}{u:Value}(r:bK c u)(h:tM c=true):u=CF c:=by
 cases c with
 |ty n=>exact r
 |ref a=>exact r
 |_=>cases h
def Dc(K:KR):List V->Hp->VK->Prop:=λxs H Q=>∃x c t b,xs=[x,c]/\tM c=true/\jd K H x t/\PySem.W.kitOne K t (CF c)=some b/\Q (.bl b) H
theorem b7:eR X (.builtin "isinstance") (Dc X.K):=by
 intro pins s σ H xs us Q I r h;obtain⟨x,c,t,b,rfl,i,ty,e,q⟩:=h;obtain⟨u,v,rfl,g,d⟩:=r.two;rw[Dr d i];exact yz I g ty e λa=>⟨.bl b,H,I.tok a,rfl,q⟩
theorem iH(K:KR)(n:String):PySem.W.kitOne K (.type n) (.type n)=some true:=by
 unfold PySem.W.kitOne;rw[q07 (beq_self_eq_true _)]
inductive Dt where
 |non | bl (b:Bool) | int (i:Int) | str (x:Str) | lst (ds:List Dt) | tup (ds:List Dt)
mutual
def kC(K:KR)(H:Hp):Dt->V->Prop
 | .non,v=>v=.non
 | .bl b,v=>v=.bl b
 | .int i,v=>v=.int i
 | .str x,v=>v=.str x
 | .lst ds,v=>∃a xs,v=.ref a/\aM K H a xs/\eY K H ds xs
 | .tup ds,v=>∃a xs,v=.ref a/\dZ K H a xs/\eY K H ds xs
def eY(K:KR)(H:Hp):List Dt->List V->Prop
 | [],xs=>xs=[]
 |d::ds,xs=>∃x r,xs=x::r/\kC K H d x/\eY K H ds r
end
mutual
def Dt.dep:Dt->Nat
 | .lst ds=>Dt.deps ds+1
 | .tup ds=>Dt.deps ds+1
 |_=>0
def Dt.deps:List Dt->Nat
 | []=>0
 |d::ds=>max (Dt.dep d) (Dt.deps ds)
end
theorem eY.length{K:KR}{H:Hp}:∀{ds:List Dt} {xs:List V},eY K H ds xs->xs.length=ds.length
 | [],_,h=>by unfold eY at h;rw[h];rfl
 |d::ds,xs,h=>by
  unfold eY at h;obtain⟨x,r,rfl,_,h2⟩:=h;simp[eY.length h2]
theorem eY.get{K:KR}{H:Hp}:∀{ds:List Dt} {xs:List V} {j:Nat} {x:V},eY K H ds xs->xs[j]?=some x->∃d,ds[j]?=some d/\kC K H d x
 | [],_,_,_,h,e=>by unfold eY at h;rw[h]at e;simp at e
 |d::ds,xs,j,x,h,e=>by
  unfold eY at h;obtain⟨y,r,rfl,h1,h2⟩:=h;cases j with
  |zero=>simp at e;subst e;exact⟨d,rfl,h1⟩
  |succ j=>
   obtain⟨d',e1,e2⟩:=eY.get (j:=j) h2 (by simpa using e);exact⟨d',by simpa using e1,e2⟩
theorem iV:∀{ds:List Dt} {j:Nat} {d:Dt},ds[j]?=some d->d.dep<=Dt.deps ds
 | [],_,_,e=>by simp at e
 |d'::ds,0,d,e=>by simp at e;subst e;unfold Dt.deps;omega
 |d'::ds,j+1,d,e=>by
  have:=iV (ds:=ds) (j:=j) (by simpa using e);unfold Dt.deps;omega
theorem gS(n:Nat):(List.range n).all (λ_=>true)=true:=by simp
theorem Aq{pins:KS}{σ:St}{H:Hp}{s:KW}(I:Inv X pins σ H s):∀(n:Nat) (d:Dt) (A:K4) {v u:V} {vv uu:Value},d.dep<=n->A.units+n<cLine->kC X.K H d v->kC X.K H d u->bK v vv->bK u uu->SeqAt.EqAt A s vv uu true:=by
 intro n
 induction n with
 |zero=>
  intro d A v u vv uu S hA h1 h2 l k;cases d with
  |non=>unfold kC at h1 h2;subst h1 h2;have:=ie (A:=A) (s:=s) l k rfl rfl;exact this
  |bl b=>unfold kC at h1 h2;subst h1 h2;have:=ie (A:=A) (s:=s) l k rfl rfl;simpa[CJ]using this
  |int i=>unfold kC at h1 h2;subst h1 h2;have:=ie (A:=A) (s:=s) l k rfl rfl;simpa[CJ]using this
  |str x=>unfold kC at h1 h2;subst h1 h2;have:=ie (A:=A) (s:=s) l k rfl rfl;simpa[CJ]using this
  |lst ds=>unfold Dt.dep at S;omega
  |tup ds=>unfold Dt.dep at S;omega
 |succ n ih=>
  intro d A v u vv uu S hA h1 h2 l k;cases d with
  |non=>unfold kC at h1 h2;subst h1 h2;have:=ie (A:=A) (s:=s) l k rfl rfl;exact this
  |bl b=>unfold kC at h1 h2;subst h1 h2;have:=ie (A:=A) (s:=s) l k rfl rfl;simpa[CJ]using this
  |int i=>unfold kC at h1 h2;subst h1 h2;have:=ie (A:=A) (s:=s) l k rfl rfl;simpa[CJ]using this
  |str x=>unfold kC at h1 h2;subst h1 h2;have:=ie (A:=A) (s:=s) l k rfl rfl;simpa[CJ]using this
  |lst ds=>
   unfold kC at h1 h2;obtain⟨a,J,rfl,ha,o⟩:=h1;obtain⟨b,D,rfl,hb,m⟩:=h2;cases l;cases k
   by_cases p:a=b
   ·subst p;exact SeqAt.EqAt.same _
   ·unfold Dt.dep at S
    obtain⟨g,O,pa,_⟩:=I.list ha;obtain⟨c,M,Z,_⟩:=I.list hb;have l1:=O.length;have l2:=M.length;have l3:=o.length;have l4:=m.length
    have a0:g.toArray.size=c.toArray.size:=by simp;omega
    have q:=SeqAt.RcAt.lists (A:=A) (s:=s) (e:=λ_=>true) pa.isList Z.isList a0 ⋯ λj g1 g2=>by
     have C:j<g.length:=by simpa using g1
     have B:j<c.length:=by simpa using g2
     have L:J[j]?=some J[j]:=JT ⋯;have G:D[j]?=some D[j]:=JT ⋯;obtain⟨d,Y,z⟩:=o.get L;obtain⟨d',U,y⟩:=m.get G;rw[Y]at U;cases U
     obtain⟨w1,T,w⟩:=O.get L;obtain⟨w2,f2,r⟩:=M.get G;rw[JT C]at T;rw[JT B]at f2;cases T;cases f2
     have R:=iV Y;simp only[KI];exact ih d A.in1 ⋯ (by show A.units+1+n<cLine;omega) z y w r
    rw[gS]at q;exact SeqAt.EqAt.of_refs p q
  |tup ds=>
   unfold kC at h1 h2;obtain⟨a,J,rfl,ha,o⟩:=h1;obtain⟨b,D,rfl,hb,m⟩:=h2;cases l;cases k
   by_cases p:a=b
   ·subst p;exact SeqAt.EqAt.same _
   ·unfold Dt.dep at S
    obtain⟨g,O,pa,_⟩:=I.tuple ha;obtain⟨c,M,Z,_⟩:=I.tuple hb;have l1:=O.length;have l2:=M.length;have l3:=o.length;have l4:=m.length
    have q:=SeqAt.RcAt.tuples (A:=A) (s:=s) (e:=λ_=>true) (show s.heap.IsTuple a g.toArray from pa) (show s.heap.IsTuple b c.toArray from Z) ⋯ λj g1 g2=>by
     have C:j<g.length:=by simpa using g1
     have B:j<c.length:=by simpa using g2
     have L:J[j]?=some J[j]:=JT ⋯;have G:D[j]?=some D[j]:=JT ⋯;obtain⟨d,Y,z⟩:=o.get L;obtain⟨d',U,y⟩:=m.get G;rw[Y]at U;cases U
     obtain⟨w1,T,w⟩:=O.get L;obtain⟨w2,f2,r⟩:=M.get G;rw[JT C]at T;rw[JT B]at f2;cases T;cases f2
     have R:=iV Y;simp only[KI];exact ih d A.in1 ⋯ (by show A.units+1+n<cLine;omega) z y w r
    have e0:((List.range (min g.toArray.size c.toArray.size)).all (λ_=>true)&&g.toArray.size==c.toArray.size)=true:=by
     rw[gS,Bool.true_and];simp;omega
    rw[e0]at q;exact SeqAt.EqAt.of_refs p q
def DA(K:KR)(neg:Bool):R2:=λx y H Q=>
 (∃ds,Dt.deps ds<=40/\((kC K H (.lst ds) x/\kC K H (.lst ds) y)\/(kC K H (.tup ds) x/\kC K H (.tup ds) y))/\Q (.bl (!neg)) H) \/
 (∃a b xs ys,x=.ref a/\y=.ref b/\aM K H a xs/\aM K H b ys/\xs.length≠ys.length/\Q (.bl neg) H)
theorem sF(hu:X.A.units+64<cLine):bd X (compareOp .NotEq) (DA X.K true):=by
 intro r s σ H x y v u Q I rx ry h;rcases h with⟨ds,hd,h,q⟩ | ⟨a,b,o,n,rfl,rfl,C,B,hne,q⟩
 ·have fin:EP X r σ Q (.bool false) s:=⟨.bl false,H,I,rfl,q⟩
  have p:∀{o n:List V} {g c:KY},eY X.K H ds o->eY X.K H ds n->bv o g->bv n c->∀j (h1:j<g.toArray.size) (h2:j<c.toArray.size),SeqAt.EqAt X.A.in1 s g.toArray[j] c.toArray[j] true:=fun{o n g c} k i m l j g1 g2=>by
   have O:=m.length;have M:=l.length;have Z:=k.length;have Y:=i.length
   have S:j<g.length:=by simpa using g1
   have R:j<c.length:=by simpa using g2
   have U:o[j]?=some o[j]:=JT ⋯;have T:n[j]?=some n[j]:=JT ⋯;obtain⟨d,e1,L⟩:=k.get U;obtain⟨d',e2,J⟩:=i.get T;rw[e1]at e2;cases e2
   obtain⟨w1,f1,G⟩:=m.get U;obtain⟨w2,f2,D⟩:=l.get T;rw[JT S]at f1;rw[JT R]at f2;cases f1;cases f2
   have hdep:=iV e1;simp only[KI];exact Aq I 40 d X.A.in1 ⋯ (by show X.A.units+1+40<cLine;omega) L J G D
  rcases h with⟨h1,h2⟩ | ⟨h1,h2⟩
  ·unfold kC at h1 h2
   obtain⟨a,o,rfl,C,k⟩:=h1;obtain⟨b,n,rfl,B,i⟩:=h2;cases rx;cases ry
   obtain⟨g,m,z,_⟩:=I.list C;obtain⟨c,l,w,_⟩:=I.list B;have O:=m.length;have M:=l.length;have Z:=k.length;have Y:=i.length
   have q:=SeqAt.RcNeAt.lists (A:=X.A) (s:=s) (e:=λ_=>true) z.isList w.isList (by simp;omega) ⋯ (p k i m l);rw[gS]at q;exact q _ _ _ _ fin
  ·unfold kC at h1 h2
   obtain⟨a,o,rfl,C,k⟩:=h1;obtain⟨b,n,rfl,B,i⟩:=h2;cases rx;cases ry
   obtain⟨g,m,z,_⟩:=I.tuple C;obtain⟨c,l,w,_⟩:=I.tuple B;have O:=m.length;have M:=l.length;have Z:=k.length;have Y:=i.length
   have q:=SeqAt.RcNeAt.tuples (A:=X.A) (s:=s) (e:=λ_=>true) (show s.heap.IsTuple a g.toArray from z) (show s.heap.IsTuple b c.toArray from w) ⋯ (p k i m l);have e0:((List.range (min g.toArray.size c.toArray.size)).all (λ_=>true)&&g.toArray.size==c.toArray.size)=true:=by
    rw[gS,Bool.true_and];simp;omega
   rw[e0]at q;exact q _ _ _ _ fin
 ·cases rx;cases ry
  obtain⟨g,m,z,_⟩:=I.list C;obtain⟨c,l,w,_⟩:=I.list B;have O:=m.length;have M:=l.length
  exact SeqAt.RcNeAt.lists_lengths z.isList w.isList (by simp;omega) ⋯ _ _ _ _ ⟨.bl true,H,I,rfl,q⟩
theorem yd{K:KR}{H:Hp}{ys:K3}:eY K H (ys.map Dt.str) (ys.map V.str):=by
 induction ys with
 |nil=>unfold eY;rfl
 |cons y ys ih=>
  show eY K H (Dt.str y::ys.map Dt.str) (V.str y::ys.map V.str);unfold eY;exact⟨_,_,rfl,by unfold kC;rfl,ih⟩
theorem zJ(ys:K3):Dt.deps (ys.map Dt.str)=0:=by
 induction ys with
 |nil=>rfl
 |cons y ys ih=>show max (Dt.dep (.str y)) (Dt.deps (ys.map Dt.str))=0;rw[ih];rfl
end
end L2
namespace aL
abbrev Hg:=List Nat
abbrev aL:=List Hg
def rect(p:aL)(r c:Nat):Prop:=p.length=r/\∀x∈p,x.length=c
def zO(p:aL)(i j:Nat):Nat:=(p.getD i []).getD j 0
def mirror(p:aL):aL:=p.map List.reverse
def rM(p:aL)(i:Nat):Hg:=p.reverse.map λx=>x.getD i 0
def bx(p:aL):aL:=(List.range (p.headD []).length).map (rM p)
def aV:Nat->aL->aL
 |0,p=>p
 |n+1,p=>aV n (bx p)
def turned(p:aL)(t:Nat):aL:=aV (t%4) (if 4<=t then mirror p else p)
theorem AR{p:aL}{r c i:Nat}(h:rect p r c)(hi:i<r):(p.getD i []).length=c:=by
 have a:i<p.length:=by rw[h.1];exact hi
 rw[q0A,JT a];exact h.2 _ (J3 a)
theorem bg{p:aL}{r c:Nat}(h:rect p r c)(hr:0<r):(p.headD []).length=c:=by
 have:=AR h hr;cases p with
 |nil=>have:=h.1;simp at this;omega
 |cons x p=>simpa using this
theorem cr{p:aL}{r c:Nat}(h:rect p r c):rect (mirror p) r c:=by
 refine⟨by simp[mirror,h.1],λx b=>?_⟩;obtain⟨y,a,rfl⟩:=KF.mp b;rw[Ka];exact h.2 y a
theorem bO{p:aL}{r c:Nat}(h:rect p r c)(hr:0<r):rect (bx p) c r:=by
 refine⟨by unfold bx;rw[JW,q0J,bg h hr],λx a=>?_⟩;obtain⟨i,_,rfl⟩:=KF.mp a;simp[rM,h.1]
theorem i8{p:aL}{r c i j:Nat}(h:rect p r c)(hi:i<r)(hj:j<c):zO (mirror p) i j=zO p i (c-1-j):=by
 have a:i<p.length:=by rw[h.1];exact hi
 have b:(p[i]).length=c:=h.2 _ (J3 a);unfold zO mirror;rw[q0A (l:=List.map _ _),JY,JT a,q0A (l:=p),JT a];simp only[Option.map_some,q0L];rw[q0A,List.getElem?_reverse (by rw[b];exact hj),b,q0A]
theorem cM{p:aL}{r c i j:Nat}(h:rect p r c)(hr:0<r)(hi:i<c)(hj:j<r):zO (bx p) i j=zO p (r-1-j) i:=by
 unfold zO bx;rw[bg h hr,q0A (l:=List.map _ _),JY,List.getElem?_range hi];simp only[Option.map_some,q0L];unfold rM;rw[q0A,JY,List.getElem?_reverse (by rw[h.1];exact hj),h.1];have a:r-1-j<p.length:=by rw[h.1];omega
 rw[JT a,q0A (l:=p),JT a]
 rfl
theorem kr{p q:aL}{r c:Nat}(hp:rect p r c)(hq:rect q r c)(h:∀i j,i<r->j<c->zO p i j=zO q i j):p=q:=by
 refine List.ext_getElem (by rw[hp.1,hq.1]) λi h1 h2=>?_;have a:=hp.2 _ (J3 h1);have d:=hq.2 _ (J3 h2);refine List.ext_getElem (by rw[a,d]) λj b g=>?_;have e:=h i j (by rw[<- hp.1];exact h1) (by rw[<- a];exact b);unfold zO at e
 simpa[q0A,JT,h1,h2,b,g]using e
theorem Dm(p:aL):mirror (mirror p)=p:=by simp[mirror,J9,Function.comp_def]
theorem AD{p:aL}{r c:Nat}(h:rect p r c)(hr:0<r)(hc:0<c):bx (bx (bx (bx p)))=p:=by
 have h1:=bO h hr;have h2:=bO h1 hc;have b:=bO h2 hr;have e:=bO b hc;refine kr e h λi j a d=>?_;rw[cM b hc a d,cM h2 hr ⋯ a,cM h1 hc ⋯ ⋯,cM h hr ⋯ ⋯]
 congr 1<;>omega
theorem nI{p:aL}{r c:Nat}(h:rect p r c)(hr:0<r)(hc:0<c):mirror (bx p)=bx (bx (bx (mirror p))):=by
 have m:=cr h;have h1:=bO m hr;have h2:=bO h1 hc;have d:=bO h2 hr;have q:=bO h hr;refine kr (cr q) d λi j a b=>?_;rw[i8 q a b,cM h hr a ⋯,cM h2 hr a b,cM h1 hc ⋯ a,cM m hr ⋯ ⋯,i8 h ⋯ ⋯]
 congr 1<;>omega
theorem cZ:∀(n:Nat) {p:aL} {r c:Nat},rect p r c->0<r->0<c->rect (aV n p) (if n%2=0 then r else c) (if n%2=0 then c else r)
 |0,_,_,_,h,_,_=>h
 |n+1,p,r,c,h,hr,hc=>by
  have:=cZ n (bO h hr) hc hr;show rect (aV n (bx p)) _ _
  by_cases e:n%2=0
  ·rw[q07 e,q07 e]at this
   rw[q06 ⋯,q06 ⋯];exact this
  ·rw[q06 e,q06 e]at this
   rw[q07 ⋯,q07 ⋯];exact this
theorem cT{p:aL}{r c:Nat}(h:rect p r c)(hr:0<r)(hc:0<c)(t:Nat):rect (turned p t) (if t%2=0 then r else c) (if t%2=0 then c else r):=by
 unfold turned;have e:t%4%2=t%2:=by omega
 rw[<- e]
 split
 ·exact cZ _ (cr h) hr hc
 ·exact cZ _ h hr hc
theorem cK(a b:Nat)(p:aL):aV a (aV b p)=aV (b+a) p:=by
 induction b generalizing p with
 |zero=>rw[Nat.zero_add];rfl
 |succ b ih=>show aV a (aV b (bx p))=_;rw[ih,Nat.add_right_comm];rfl
theorem fq{p:aL}{r c:Nat}(h:rect p r c)(hr:0<r)(hc:0<c)(n:Nat):aV n p=aV (n%4) p:=by
 induction n using Nat.strongRecOn generalizing p r c with
 |ind n ih=>
  by_cases a:n<4
  ·rw[Nat.mod_eq_of_lt a]
  ·obtain⟨m,rfl⟩:∃m,n=m+4:=⟨n-4,⋯⟩
   have e:aV (m+4) p=aV m (bx (bx (bx (bx p)))):=rfl;rw[e,AD h hr hc,ih m ⋯ h hr hc]
   congr 1
   omega
theorem ir{p:aL}{r c:Nat}(h:rect p r c)(hr:0<r)(hc:0<c):∀n,mirror (aV n p)=aV (3*n) (mirror p):=by
 intro n
 induction n generalizing p r c with
 |zero=>rfl
 |succ n ih=>
  show mirror (aV n (bx p))=_;rw[ih (bO h hr) hc hr,nI h hr hc];have e:bx (bx (bx (mirror p)))=aV 3 (mirror p):=rfl;rw[e,cK]
  congr 1
  omega
def after(t u:Nat):Nat:=if u<4 then t/4*4+(t+u)%4 else(1-t/4)*4+(u+8-t)%4
def dP(t:Nat):Nat:=if t<4 then(4-t)%4 else t
theorem bW{p:aL}{r c:Nat}(h:rect p r c)(hr:0<r)(hc:0<c){t u:Nat}(ht:t<8)(hu:u<8):turned (turned p t) u=turned p (after t u):=by
 have m:=cr h;unfold turned after
 by_cases h1:4<=t<;>by_cases h2:4<=u
 ·rw[q07 h1,q07 h2,q06 ⋯,q06 ⋯]
  rw[ir m hr hc,Dm,cK,fq h hr hc]
  congr 1;omega
 ·rw[q07 h1,q06 h2,q07 ⋯,q07 ⋯]
  rw[cK,fq m hr hc]
  congr 1;omega
 ·rw[q06 h1,q07 h2,q06 ⋯,q07 ⋯]
  rw[ir h hr hc,cK,fq m hr hc]
  congr 1;omega
 ·rw[q06 h1,q06 h2,q07 ⋯,q06 ⋯]
  rw[cK,fq h hr hc]
  congr 1;omega
theorem lW(p:aL):turned p 0=p:=rfl
theorem gB{t u:Nat}(ht:t<8)(hu:u<8):after t u<8:=by unfold after;split<;>omega
theorem i5{t:Nat}(ht:t<8):dP t<8:=by unfold dP;split<;>omega
theorem vL{t:Nat}(ht:t<8):after t (dP t)=0:=by
 unfold after dP
 by_cases h:t<4
 ·rw[q07 h,q07 ⋯];omega
 ·rw[q06 h,q06 ⋯];omega
theorem vz{t:Nat}(ht:t<8):after (dP t) t=0:=by
 unfold after dP
 by_cases h:t<4
 ·rw[q07 h,q07 ⋯];omega
 ·rw[q06 h,q06 ⋯];omega
theorem iE{p:aL}{r c:Nat}(h:rect p r c)(hr:0<r)(hc:0<c){t:Nat}(ht:t<8):turned (turned p t) (dP t)=p:=by
 rw[bW h hr hc ht (i5 ht),vL ht];rfl
end aL
namespace QL
open PySem L2 aL
def tx(r:KU):Str:=⟨r.toArray⟩
def aq(p:aL):List V:=p.map λr=>V.str (tx r)
theorem ax(r:KU):(tx r).length=r.length:=by show r.toArray.size=r.length;simp
theorem cV(r:KU):(tx r).cps.toList=r:=by show r.toArray.toList=r;simp
theorem aj(p:aL):(aq p).length=p.length:=by unfold aq;simp
theorem fO(p:aL):aq p=(p.map tx).map V.str:=by unfold aq;rw[J9];rfl
theorem bc{p:aL}{i:Nat}(h:i<p.length):(aq p)[i]?=some (V.str (tx p[i])):=by unfold aq;rw[JY,JT h];rfl
theorem bX(p:aL)(r:KU):aq (p++[r])=aq p++[V.str (tx r)]:=by unfold aq;simp
theorem join_nil:∀(ys:List (List Nat)),Txt.join (Str.ofString "") (ys.map tx)=tx ys.flatten
 | []=>rfl
 |y::ys=>by
  have key:∀(zs:List (List Nat)) (a:KU),(zs.map tx).foldl (λacc (p:Str)=>acc++(Str.ofString "").cps++p.cps) a.toArray=(a++zs.flatten).toArray:=by
   intro zs
   induction zs with
   |nil=>intro a;simp
   |cons z zs ih=>
    intro a;rw[Km,List.foldl_cons];have e:a.toArray++(Str.ofString "").cps++(tx z).cps=(a++z).toArray:=by
     have b:(Str.ofString "").cps=#[]:=rfl;rw[b];show a.toArray ++ #[]++z.toArray=_;simp
    rw[e,ih];simp
  show(⟨(ys.map tx).foldl (λacc (p:Str)=>acc++(Str.ofString "").cps++p.cps) (tx y).cps⟩:Str)=_;show(⟨(ys.map tx).foldl (λacc (p:Str)=>acc++(Str.ofString "").cps++p.cps) y.toArray⟩:Str)=_;rw[key]
  rfl
theorem i6(r:KU):Txt.join (Str.ofString "") (r.map λc=>(⟨#[c]⟩:Str))=tx r:=by
 have e:(r.map λc=>(⟨#[c]⟩:Str))=(r.map λc=>[c]).map tx:=by rw[J9];rfl
 rw[e,join_nil]
 congr 1
 clear e
 induction r with
 |nil=>rfl
 |cons c r ih=>simp[ih]
def eM(p:aL):Prop:=p.length<=64/\∀r∈p,r.length<=64
theorem eM.of{p:aL}{r c:Nat}(h:rect p r c)(hr:r<=64)(hc:c<=64):eM p:=⟨by rw[h.1];exact hr,λx hx=>by rw[h.2 x hx];exact hc⟩
theorem aX{n:Nat}(h:n<=1000000):n<sizeLine:=by have:=q0W;omega
theorem ay{n:Nat}(h:n<=1000000):n<=sizeLine:=by have:=q0W;omega
theorem ar{H:Hp}{l:Addr}{o:HO}(h:H l=none):aD H (aE H l o):=λb u e=>by rw[av (aJ e h)];exact e
theorem bE{H0 H:Hp}{l:Addr}{o:HO}(s:aD H0 H)(h:H0 l=none):aD H0 (aE H l o):=λb u e=>by rw[av (aJ e h)];exact s b u e
theorem cX{p:aL}{r c i:Nat}(h:rect p r c)(hi:i<r):∃hl:i<p.length,(p[i]).length=c:=⟨by rw[h.1];exact hi,h.2 _ (J3 _)⟩
def gG(H:Hp)(p:aL)(Q:VK):Prop:=∀(l:Addr) (H':Hp),H l=none->H' l=some (.lst (aq p))->aD H H'->Q (.ref l) H'
theorem sv(K:KR):PySem.W.kitOne K (.type "int") (.type "bool")=some false:=by kernel_rfl
end QL
namespace L2
open PySem PySem.Spec PyProof.Rows
section
variable {X:Cx}
theorem aQ:eR X (.builtin "len") (λxs H Q=>∃p ys,xs=[.ref p]/\aM X.K H p ys/\Q (.int ys.length) H):=λpins s σ H xs us Q I r ⟨p,ys,e,h,q⟩=>kg pins s σ H xs us Q I r ⟨p,ys,e,.inl h,q⟩
theorem zq:eR X (.builtin "len") (λxs H Q=>∃p ys,xs=[.ref p]/\dZ X.K H p ys/\Q (.int ys.length) H):=λpins s σ H xs us Q I r ⟨p,ys,e,h,q⟩=>kg pins s σ H xs us Q I r ⟨p,ys,e,.inr h,q⟩
theorem uJ{K:KR}{g:TG}{ti:TT}{te:TE}{σ:St}{H:Hp}{Q:List V->Hp->Prop}{a:Addr}{xs:List V}(Pv:Nat->List V->St->Hp->Prop)(h0:Pv 0 [] σ H)(hz:∀i acc σ H,Pv i acc σ H->acc.length<sizeLine)(hi:∀i acc σ H,Pv i acc σ H->i<=xs.length)
  (hl:∀i acc σ H,Pv i acc σ H->aM K H a xs)
  (hs:∀i x acc σ H,xs.reverse[i]?=some x->Pv i acc σ H->g x σ H λσ2 H3=>ti σ2 H3 λb H4=>if b=true then te σ2 H4 λv H5=>Pv (i+1) (acc++[v]) σ2 H5 else Pv (i+1) acc σ2 H4)
  (he:∀acc σ H,Pv xs.length acc σ H->Q acc H):fg (F4 K a xs.length) g ti te σ H Q:=by
 have c:∀{i:Nat} {x:V},i<xs.length->xs[xs.length-1-i]?=some x->xs.reverse[i]?=some x:=fun{i x} hi e=>by rw[List.getElem?_reverse hi];exact e
 exact ja (J:=F4 K a xs.length) (g:=g) (ti:=ti) (te:=te) (Q:=Q) (n:=xs.length) Pv h0 hz hi (λacc σ H w=>rfl)
  (λi acc σ H hlt w=>⟨xs,xs[xs.length-1-i]'⋯,hl _ _ _ _ w,hlt,JT ⋯⟩) (λi x acc σ H H2 hlt w y=>by obtain⟨rfl,d⟩:=y;exact hs i x acc σ H2 (c hlt (d xs (hl _ _ _ _ w))) w) he
theorem CB(i j:Int):(AO (.int i) (.int j)=true)=True:=by simp[AO]
theorem fc{a:Expr}{ta:TE}(ha:PE X a ta)(he:∀whole,isTrue a X.env whole=(do let v <- whole;standAt a.pos;holding [v] (truthy v))):PT X a (xZ ta):=by
 intro b s σ H Q I h;rw[he];refine q04 (cD (ha b s σ H _ I h) λv s1 ⟨x,H1,d,c,k,e,q⟩=>?_);subst e;cases c;exact q04 (wpAny_standAt (q0Y (wpAny_truthy_bool ⟨H1,d,q⟩)))
def ww(J:It)(g:TG)(tb:TS)(D:gu)(σ:St)(H:Hp):Prop:=∃W:Nat->Nat->St->Hp->Prop,(∃m,W 0 m σ H)/\∀i m σ H,W i m σ H ->
 (J.stop i H/\D.nx σ H)\/(J.go i H/\∃N:St->Hp->Prop,(∀σ' H',N σ' H'->∃m',m'<m/\W (i+1) m' σ' H')/\∀x H',J.yld i H x H'->g x σ H' λσ2 H2=>tb {D with nx:=N,ct:=N,bk:=D.nx} σ2 H2)
def Br(wi:TI)(g:TG)(tb:TS):TS:=λD σ H=>wi σ H λJ H1=>ww J g tb D σ H1
theorem aY{tg iter:Expr}{body:List Stmt}{wi:TI}{g:TG}{tb:TS}{pos:Pos}(hp:PassesOwn (model X.prog X.w) X.A X.env X.xe)(hc:X.calm=true)(hi:PI X tg iter wi)(hg:PG X tg g)(hb:vB X body tb)
  (hs:autoParam (∀x,foldedSetIterable iter X.env x=pure x) zz4._auto_1):PS X (.For tg iter body [] pos) (Br wi g tb):=EN hp hc hi hg hb hs
section
variable {K:KR}{g:TG}{tb:TS}{D:gu}{σ:St}{H:Hp}
theorem b5{a:Addr}{xs:List V}(Pv:Nat->St->Hp->Prop)(h0:Pv 0 σ H)(hl:∀i σ H,i<=xs.length->Pv i σ H->aM K H a xs)
  (hs:∀i x σ H,xs[i]?=some x->Pv i σ H->g x σ H λσ2 H2=>tb {D with nx:=Pv (i+1),ct:=Pv (i+1),bk:=D.nx} σ2 H2) (hd:∀σ H,Pv xs.length σ H->D.nx σ H):ww (By K a) g tb D σ H:=zP Pv h0 hl hs hd
theorem bz{lo:Int}{n:Nat}(Pv:Nat->St->Hp->Prop)(h0:Pv 0 σ H)
  (hs:∀i σ H,i<n->Pv i σ H->g (.int (lo+i)) σ H λσ2 H2=>tb {D with nx:=Pv (i+1),ct:=Pv (i+1),bk:=D.nx} σ2 H2) (hd:∀σ H,Pv n σ H->D.nx σ H):ww (wo lo n) g tb D σ H:=yv Pv h0 hs hd
end
end
theorem aS:bootBuiltins "len"=some (.builtin "len"):=by decide +kernel
theorem du:bootBuiltins "list"=some (.type "list"):=by decide +kernel
theorem Be:bootBuiltins "tuple"=some (.type "tuple"):=by decide +kernel
theorem Er:bootBuiltins "int"=some (.type "int"):=by decide +kernel
theorem Du:bootBuiltins "bool"=some (.type "bool"):=by decide +kernel
theorem Bb:bootBuiltins "str"=some (.type "str"):=by decide +kernel
theorem cn:bootBuiltins "isinstance"=some (.builtin "isinstance"):=by decide +kernel
theorem Eb:bootBuiltins "all"=some (.builtin "all"):=by decide +kernel
theorem qA:bootBuiltins "sorted"=some (.builtin "sorted"):=by decide +kernel
theorem CT:bootBuiltins "dict"=some (.type "dict"):=by decide +kernel
end L2
namespace L2
open PySem PySem.Spec PyProof.Rows
section
variable {X:Cx}{a b c d:Expr}{ta tb tc td:TE}{pos:Pos}
def D9(K:KR):List V->Hp->VK->Prop:=λxs H Q=>∃(p:Addr) (bs:List Bool),xs=[.ref p]/\aM K H p (bs.map V.bl)/\Q (.bl (bs.all id)) H
theorem xL:∀{bs:List Bool} {us:KY} {i:Nat} {u:Value},bv (bs.map V.bl) us->us[i]?=some u->∃k,bs[i]?=some k/\u=.bool k
 | [],_,_,_,.nil,e=>by simp at e
 |k::bs,_,0,u,.cons r _,e=>by simp at e;subst e;exact⟨k,rfl,r⟩
 |k::bs,_,i+1,u,.cons _ t,e=>by
  obtain⟨k',h1,h2⟩:=xL (i:=i) t (by simpa using e);exact⟨k',by simpa using h1,h2⟩
theorem zn(bs:List Bool):((List.range bs.length).all λi=>(bs[i]?).getD true)=bs.all id:=by
 rw[Bool.eq_iff_iff,KG,KG]
 constructor
 ·intro h x c
  obtain⟨i,b,e⟩:=List.getElem_of_mem c;have q:=h i (List.mem_range.mpr b);rw[JT b,q0L,e]at q;exact q
 ·intro h i b
  have a:=List.mem_range.mp b;rw[JT a,q0L];exact h _ (J3 a)
theorem Ax(hc:X.calm=true):eR X (.builtin "all") (D9 X.K):=by
 intro pins s σ H xs us Q I r h;obtain⟨p,bs,rfl,x,q⟩:=h;obtain⟨u,rfl,w⟩:=r.one;cases w;obtain⟨a,m,d,_⟩:=I.list x;have g:p<s.heap.objs.size:=by obtain⟨_,e,_⟩:=d.isList;exact Kj e
 have c:a.length=bs.length:=by rw[<- m.length,JW]
 refine call_all_walk (wpAny_pyIter_list d.isList ?_);refine⟨s.heap.objs.size,[s.heap.objs.size,p],[s.heap.objs.size],a.toArray.size,_,_,λi=>(bs[i]?).getD true,rfl,Walks.list (A:=X.A.in1) (I.ok.hd hc) _ p (Kc g) a.toArray,
  ⟨⟨_,J1 _ rfl,rfl,rfl⟩,d.isList.push _⟩,λi v s' Q' E' B j=>?_,λh' n z=>?_⟩
 ·obtain⟨k,e,rfl⟩:=xL (i:=i) m (by simpa using B)
  dsimp only at j;rw[e,q0L]at j;exact wpAny_truthy_bool j
 ·have e:((List.range a.toArray.size).all λi=>(bs[i]?).getD true)=bs.all id:=by rw[J2,c];exact zn bs
  rw[e];exact⟨.bl _,H,I.kept (t':=n) λb o l=>z b o (λy=>by rw[JX.mp y]at l;exact Ko _ (Kj l)) (JV _ l),rfl,q⟩
end
end L2
namespace QL
open PySem L2 aL PySem.Builtin PySem.Builtin.Str
theorem vS(row:KU)(i k:Nat)(h:i+k<=row.length):((List.range k).map λm=>i+m).filterMap (λj=>row[j]?)=(row.drop i).take k:=by
 rw[List.filterMap_map]
 induction k with
 |zero=>simp
 |succ k ih=>
  rw[q0M,List.filterMap_append,ih ⋯,q0E,List.getElem?_drop];have e:i+k<row.length:=by omega
  simp[JT e]
def A5(n:Nat)(d:Int):Option Int->Int
 |none=>d
 |some i=>max 0 (min (if i<0 then i+(n:Int) else i) (n:Int))
theorem uG(n d:Nat)(v:Option Int):A5 n (d:Int) v=((HT.sIx n d v:Nat):Int):=by
 cases v with
 |none=>rfl
 |some v=>
  show max 0 (min (if v<0 then v+(n:Int) else v) (n:Int))=(((if v<0 then(v+(n:Int)).toNat else min v.toNat n:Nat)):Int)
  by_cases a:v<0
  ·rw[q07 a,q07 a,Int.max_def,Int.min_def]
   split<;>split at * <;> omega
  ·rw[q06 a,q06 a,Int.max_def,Int.min_def]
   split<;>split at * <;> omega
theorem wM(lo hi:Option Int)(n:Nat):strSliceIndices lo hi 1 n=sliceRange (A5 n ((0:Nat):Int) lo) (A5 n (n:Int) hi) 1:=by cases lo<;>cases hi<;>rfl
theorem gD(row:KU)(lo hi:Option Int):Txt.slice (tx row) lo hi=tx ((row.drop (HT.sIx row.length 0 lo)).take (HT.sIx row.length row.length hi-HT.sIx row.length 0 lo)):=by
 have hl:=HT.sIx_le row.length 0 (Kh _) lo;have hh:=HT.sIx_le row.length row.length (Kg _) hi;have key:strSliceIndices lo hi 1 (tx row).length=(List.range (HT.sIx row.length row.length hi-HT.sIx row.length 0 lo)).map λm=>HT.sIx row.length 0 lo+m:=by
  rw[ax,wM,uG,uG];generalize HT.sIx row.length 0 lo=a;generalize HT.sIx row.length row.length hi=b;unfold sliceRange;have en:(if(1:Int)>0 then(if(a:Int)<(b:Int) then((b:Int)-(a:Int)+1-1)/1 else 0) else(if(a:Int)>(b:Int) then((a:Int)-(b:Int)-1-1)/(-1) else 0)).toNat=b-a:=by
   rw[q07 (by decide)]
   split<;>omega
  show(List.range (if(1:Int)>0 then(if(a:Int)<(b:Int) then((b:Int)-(a:Int)+1-1)/1 else 0) else(if(a:Int)>(b:Int) then((a:Int)-(b:Int)-1-1)/(-1) else 0)).toNat).map (fun(k:Nat)=>((a:Int)+1*(k:Int)).toNat)=_;rw[en];refine q0K λm _=>?_;omega
 unfold Txt.slice;rw[key];generalize HT.sIx row.length 0 lo=a at hl ⊢;generalize HT.sIx row.length row.length hi=b at hh ⊢
 by_cases hab:a+(b-a)<=row.length
 ·have e:(((List.range (b-a)).map λm=>a+m).filterMap λj=>(tx row).cps[j]?)=(row.drop a).take (b-a):=by
   rw[<- vS row a (b-a) hab]
   congr 1
   funext j
   show row.toArray[j]?=row[j]?;simp
  rw[e]
  split
  ·rename_i hw
   simp at hw;rw[ax]at hw;have ha0:a=0:=by omega
   have hb0:b-a=row.length:=by omega
   rw[ha0,KP];rw[ha0]at hb0;rw[hb0,Kv]
  ·rfl
 ·exact q0Q hab ⋯
end QL
namespace L2
open PySem PySem.Spec PyProof.Rows
section
variable {X:Cx}{K:KR}{tg:Expr}
theorem gM(hK:X.K=K):eR X (.builtin "isinstance") (Dc K):=hK▸b7
theorem vM(hK:X.K=K):eR X (.builtin "len") (λxs H Q=>∃p ys,xs=[.ref p]/\aM K H p ys/\Q (.int ys.length) H):=hK▸aQ
theorem Ae(hK:X.K=K):D5 X (wY K):=hK▸rq
end
end L2
namespace PySem
open Sem (wp)
def TrD(cp:Value->Prop)(h base:Heap)(e:Addr)(cls:Value)(od:K6)(fl:Value):Prop:=
 ∃oe vs T oT ts,h.get? e=some oe/\oe.cls=cls/\oe.dict=od/\oe.data=.fields vs/\vs[1]?=some (.ref T)/\base.get? T=none/\T≠e/\h.get? T=some oT/\oT.data=.fields ts/\ts[3]?=some fl/\∃cx,vs[2]?=some cx/\cp cx
end PySem
namespace L2
open PySem PySem.Spec PyProof.Rows
end L2
namespace L2
open PySem PySem.Spec PyProof.Rows
section
variable {X:Cx}{pins:KS}{σ:St}{H:Hp}{s:KW}
theorem Inv.moved{ch:KZ}{h':Heap}{tk:Nat}(I:Inv X pins σ H s)(hf:∀b∈ch,mw X pins H b)(k:∀b o,b∉ch->s.heap.get? b=some o->h'.get? b=some o):Inv X pins σ H {s with heap:=h',toks:=tk}:=by
 have a:∀b o,H b=some o->b∉ch:=λb o e z=>by rw[(hf b z).1]at e;cases e
 refine I.call' (s':={s with heap:=h',toks:=tk}) (ch:=ch) rfl ⟨λb o e _ _ hc=>k b o hc e,λb o e _ _ hc=>⟨o.slots,k b o hc e⟩,λb o e n hc=>n,λb o e hc=>⟨o,k b o hc e⟩,λb xs q=>q,λb o y q=>q,λb qs q=>⟨#[],by rw[q];simp⟩⟩
  (λb o e=>(I.hok b o e).stay (λc u hc q=>k c u (by
   rcases hc with rfl | hc
   ·exact a _ _ e
   ·exact a _ _ hc) q) (λ_ q=>q) λ_ _ q=>q) I.bare λb d=>?_
 obtain⟨f0,l,f2,j,i,g⟩:=hf b d;exact⟨j,l,i,g⟩
theorem Inv.movedT{ch:KZ}{h':Heap}{tk:Nat}{T:Addr}{ob:HO}(I:Inv X pins σ H s)(hf:∀b∈ch,mw X pins H b)(k:∀b o,b∉ch->s.heap.get? b=some o->h'.get? b=some o)(hT:s.heap.objs.size<=T)(new:ci X.prog X.w (aE H T ob) h' T ob) :
  Inv X pins σ (aE H T ob) {s with heap:=h',toks:=tk}:=by
 have g:∀b o,H b=some o->b∉ch:=λb o e z=>by rw[(hf b z).1]at e;cases e
 have a:H T=none:=I.hok.fresh hT;have j:∀b o,s.heap.get? b=some o->b≠T:=λb o e z=>by rw[z]at e;exact q0Q (Kj e) (Nat.not_lt.mpr hT)
 refine I.call' (s':={s with heap:=h',toks:=tk}) (ch:=ch) rfl ⟨λb o e _ _ hc=>k b o hc e,λb o e _ _ hc=>⟨o.slots,k b o hc e⟩,λb o e n hc=>by rw[av (j b o e)];exact n,λb o e hc=>⟨o,k b o hc e⟩,λb i q=>by rw[av (aJ q a)];exact q,λb o y q=>by rw[av (aJ q a)];exact q,λb qs q=>⟨#[],by rw[av (aJ q a),q];simp⟩⟩
  (λb o e=>?_) I.bare λb d=>?_
 ·by_cases d:b=T
  ·subst d
   rw[ag]at e;cases e;exact new
  ·rw[av d]at e
   exact(I.hok b o e).stay (λc u hc q=>k c u (by
    rcases hc with rfl | hc
    ·exact g _ _ e
    ·exact g _ _ hc) q) (λc q=>by rw[av (aJ q a)];exact q) λc i q=>by rw[av (aJ q a)];exact q
 ·obtain⟨f0,r,f2,p,m,l⟩:=hf b d
  exact⟨p,r,m,l⟩
end
def Fj(K:KR)(a b:Addr):It:=
 ⟨λi H=>∃xs ys x y,aM K H a xs/\aM K H b ys/\xs[i]?=some x/\ys[i]?=some y,λi H v H'=>∃T x y,v=.ref T/\H T=none/\H'=aE H T (.tup [x,y])/\(∀xs,aM K H a xs->xs[i]?=some x)/\∀ys,aM K H b ys->ys[i]?=some y,
  λi H=>∃xs ys,aM K H a xs/\aM K H b ys/\(xs.length<=i\/ys.length<=i)⟩
theorem BQ{P:K2}{w:K5}{K:KR}{elts:K7}{x1:Nat}{tp:Pos}{z TI TO i1 i2 l1 l2:Addr}(D:ZipApart z TI TO i1 i2 l1 l2) :
  sR P w K (.Tuple elts x1 tp) (Fj K l1 l2) [z,TI,TO,i1,i2] z (λi h=>IsZip h z TI TO .none/\IsPair h TI (.ref i1) (.ref i2)/\(∃a b,IsPair h TO a b)/\h.IsListIter i1 l1 i/\h.IsListIter i2 l2 i) where
 mem:=by simp
 obj:=λi h m b J=>by
  obtain⟨n,d,⟨a,c,g⟩,⟨o1,e1,c1,d1⟩,⟨o2,e2,c2,d2⟩⟩:=m;simp only[J_,List.not_mem_nil,or_false]at J;rcases J with rfl | rfl | rfl | rfl | rfl
  ·exact⟨_,n,λv q=>by cases q⟩
  ·exact⟨_,d,λv q=>by cases q⟩
  ·exact⟨_,g,λv q=>by cases q⟩
  ·exact⟨_,e1,λv q=>by rw[d1]at q;cases q⟩
  ·exact⟨_,e2,λv q=>by rw[d2]at q;cases q⟩
 keep:=λi h h' m l=>by
  obtain⟨n,d,⟨a,b,g⟩,h1,h2⟩:=m;exact⟨l z (by simp) _ n,l TI (by simp) _ d,⟨a,b,l TO (by simp) _ g⟩,h1.at λo e=>l i1 (by simp) o e,h2.at λo e=>l i2 (by simp) o e⟩
 item:=by
  intro X hP hw hK k i L s σ H E I hf m hg;subst hP hw hK;obtain⟨xs,ys,x,y,r,p,hx,hy⟩:=hg;obtain⟨O,B,p1,a7⟩:=I.list r;obtain⟨M,u,Z,a0⟩:=I.list p;obtain⟨T,b0,Y⟩:=B.get hx;obtain⟨S,a9,U⟩:=u.get hy;obtain⟨n,d,⟨a,b,g⟩,h1,h2⟩:=m;refine wpAny_pyNext_zip_item D n d g h1 h2 p1.isList Z.isList (x:=T) (y:=S) (by simpa using b0) (by simpa using a9) λh' a1 a2 a3 a4 a5 a6 l=>?_;refine⟨_,rfl,wpAny_letOwnedTupleGo_zip a1 λR a8 j=>?_⟩;have G:H s.heap.objs.size=none:=I.hok.fresh (Kg _);have lt:∀{c o},s.heap.get? c=some o->s.heap.objs.size≠c:=λe=>Nat.ne_of_gt (Kj e);have kk:∀c o,c∉[z,TI,TO,i1,i2]->s.heap.get? c=some o->R.get? c=some o:=λc o k e=>
   j.extBut _ _ (λq=>k (by simp[q])) (l c o (λq=>k (by simp[q])) (λq=>k (by simp[q])) (λq=>k (by simp[q])) (λq=>k (by simp[q])) e)
  have hT:R.get? s.heap.objs.size=some {cls:=.type "tuple",data:=.seq #[T,S]}:=j.extBut _ _ (lt n) a5;refine⟨.ref s.heap.objs.size,aE H s.heap.objs.size (.tup [x,y]),I.movedT (tk:=s.toks) hf kk (Kg _) ⟨show 2<=sizeLine from by decide +kernel,[T,S],.cons Y (.cons U .nil),_,hT,rfl,_,rfl⟩,rfl,
   ⟨_,x,y,rfl,G,rfl,λzs C=>by rw[I.list_inj C r];exact hx,λzs C=>by rw[I.list_inj C p];exact hy⟩,
   ⟨a8,j.extBut _ _ D.TIz (l _ _ D.TIz D.TITO D.TIi1 D.TIi2 d),⟨_,_,j.extBut _ _ D.TOz a2⟩,a3.extBut j.extBut D.i1z,a4.extBut j.extBut D.i2z⟩,λb J=>?_⟩
  have b1:b≠s.heap.objs.size:=by
   obtain⟨o1,e1,_⟩:=h1;obtain⟨o2,e2,_⟩:=h2;simp only[J_,List.not_mem_nil,or_false]at J;rcases J with rfl | rfl | rfl | rfl | rfl
   ·exact(lt n).symm
   ·exact(lt d).symm
   ·exact(lt g).symm
   ·exact(lt e1).symm
   ·exact(lt e2).symm
  rw[av b1];exact(hf b J).1
 done:=by
  intro X hP hw hK k i L s σ H E I hf m hg;subst hP hw hK;obtain⟨xs,ys,r,p,hx⟩:=hg;obtain⟨O,B,p1,a7⟩:=I.list r;obtain⟨M,u,Z,a0⟩:=I.list p;obtain⟨n,d,⟨a,b,g⟩,h1,h2⟩:=m;have l1':=B.length;have l2':=u.length;refine wpAny_pyNext_zip_end (I.ok.hd k) D n d g h1 h2 p1.isList Z.isList ?_ λh' l=>⟨rfl,I.moved (tk:=s.toks) hf λc o k e=>l c o (λq=>k (by simp[q])) (λq=>k (by simp[q])) (λq=>k (by simp[q])) (λq=>k (by simp[q])) e⟩;rcases hx with hx | hx
  ·exact .inl (by simp;omega)
  ·exact .inr (by simp;omega)
 self:=λ_ _ _ _ _ m h=>wpAny_pyIter_zip m.1 h
theorem zH(n l1 l2:Nat)(h1:l1<n)(h2:l2<n):ZipApart (n+4) (n+2) (n+3) n (n+1) l1 l2:=by
 constructor<;>exact λe=>q0Q (show(_:Nat)=_ from e) ⋯
section
variable {X:Cx}{elts:K7}{x1:Nat}{tp:Pos}
def EW(K:KR)(ta:TA):TI:=λσ H R=>ta σ H λvs H1=>∃a b xs ys,vs=[.ref a,.ref b]/\aM K H1 a xs/\aM K H1 b ys/\R (Fj K a b) H1
theorem A7{a b:Expr}{ta:TA}{p pos:Pos}(hg:Gl X "zip")(hm:X.mg "zip"=none)(ha:PA X [a,b] ta)(hs:autoParam (starEach [a,b] X.env=[(false,eval a X.env),(false,eval b X.env)]) zz0._auto_1)(hs2:autoParam (starEach [b] X.env=[(false,eval b X.env)]) zz0._auto_1):PI X (.Tuple elts x1 tp) (.Call (.Name "zip" p) [a,b] [] pos) (EW X.K ta):=by
 intro d s σ H R I h;refine Call_ (eS I hg hm boot_zip (PyProof.Rows.callWith_type1 (cD (ha pos d s σ H _ I h) λus c ⟨vs,H1,i,G,J⟩=>?_) (by rw[hs,hs2]) (by rw[hs2];rfl)));obtain⟨l1,l2,xs,ys,rfl,m,l,q⟩:=J;obtain⟨u,v,rfl,D,C⟩:=G.two;cases D;cases C;obtain⟨its1,rv1,r,_⟩:=i.list m;obtain⟨its2,rv2,o,_⟩:=i.list l;refine call_zip_2 r.isList o.isList λM n B z y x z6 L=>?_;have k:l1<c.heap.objs.size:=by obtain⟨_,e,_⟩:=r.isList;exact Kj e
 have j:l2<c.heap.objs.size:=by obtain⟨_,e,_⟩:=o.isList;exact Kj e
 have O:Inv X d σ H1 {c with heap:=M }:=i.kept (t':=c.toks) L;refine wpAny_pyIter_zip n ?_;refine⟨c.heap.objs.size+4,[c.heap.objs.size+4,c.heap.objs.size+2,c.heap.objs.size+3,c.heap.objs.size,c.heap.objs.size+1],_,_,H1,rfl,O,BQ (l1:=l1) (l2:=l2) ?_,⟨n,B,⟨_,_,z⟩,y,x⟩,λb w=>?_,q⟩
 ·exact zH _ _ _ k j
 ·have g:c.heap.objs.size<=b:=by
   simp only[J_,List.not_mem_nil,or_false]at w;rcases w with e | e | e | e | e<;>(rw[e];first | exact Kg _ | exact Nat.le_add_right _ _)
  exact i.fpOk g (i.hok.fresh g)
end
end L2
namespace PySem.W
open PySem PySem.Spec PySem.Calls PyProof.Rows
section
variable {prog:K2}{w:K5}{A:K4}{E:KQ}{s:KW}{K:Frag}{x D:Addr}{ox:Obj}{odo:Option Obj}{name:Str}
end
end PySem.W
namespace L2
open PySem PySem.Spec PyProof.Rows
theorem m7{X:Cx}{K:KR}{es:K7}{k:Nat}{t:DU}{n:Nat}{pos:Pos}(hK:X.K=K)(hc:X.calm=true)(h:FW X es t)
  (hn:autoParam ((assignEach es X.env).length=n) zz0._auto_1) (hst:autoParam ((assignEach es X.env).findIdx? (·.1)=none) zz0._auto_1):PG X (.Tuple es k pos) (AZ K n t):=hK▸ic hc h hn hst
section
variable {K:KR}{g:TG}{ti:TT}{te:TE}{σ:St}{H:Hp}{Q:List V->Hp->Prop}
theorem Ao{a b:Addr}{xs ys:List V}{n:Nat}(hn:n=min xs.length ys.length)(Pv:Nat->List V->St->Hp->Prop)(h0:Pv 0 [] σ H)(hz:∀i acc σ H,Pv i acc σ H->acc.length<sizeLine)(hi:∀i acc σ H,Pv i acc σ H->i<=n)
  (hl:∀i acc σ H,Pv i acc σ H->aM K H a xs/\aM K H b ys)
  (hs:∀i x y acc σ H T,xs[i]?=some x->ys[i]?=some y->Pv i acc σ H->H T=none->g (.ref T) σ (aE H T (.tup [x,y])) λσ2 H3=>ti σ2 H3 λb H4=>if b=true then te σ2 H4 λv H5=>Pv (i+1) (acc++[v]) σ2 H5 else Pv (i+1) acc σ2 H4)
  (he:∀acc σ H,Pv n acc σ H->Q acc H):fg (Fj K a b) g ti te σ H Q:=by
 refine ja (J:=Fj K a b) (g:=g) (ti:=ti) (te:=te) (Q:=Q) (n:=n) Pv h0 hz hi (λacc σ H w=>⟨xs,ys,(hl _ _ _ _ w).1,(hl _ _ _ _ w).2,⋯⟩)
  (λi acc σ H hlt w=>⟨xs,ys,xs[i]'⋯,ys[i]'⋯,(hl _ _ _ _ w).1,(hl _ _ _ _ w).2,JT ⋯,JT ⋯⟩) (λi x acc σ H H2 hlt w y=>?_) he
 obtain⟨T,x,y,rfl,e,rfl,d,c⟩:=y;exact hs i x y acc σ H T (d xs (hl _ _ _ _ w).1) (c ys (hl _ _ _ _ w).2) w e
end
end L2
namespace L2
open PySem PySem.Spec PyProof.Rows
def FJ(K:KR)(a:Addr):It:=
 ⟨λi H=>∃xs x,aM K H a xs/\xs[i]?=some x,λi H v H'=>∃T x,v=.ref T/\H T=none/\H'=aE H T (.tup [.int (i:Int),x])/\∀xs,aM K H a xs->xs[i]?=some x,λi H=>∃xs,aM K H a xs/\xs.length<=i⟩
theorem zh{P:K2}{w:K5}{K:KR}{elts:K7}{x1:Nat}{tp:Pos}{e it l:Addr}(hei:e≠it) :
  sR P w K (.Tuple elts x1 tp) (FJ K l) [e,it] e (λi h=>(∃old,IsEnum h e it i old)/\h.IsListIter it l i) where
 mem:=by simp
 obj:=λi h d b n=>by
  obtain⟨⟨old,a⟩,⟨Z,S,c1,d1⟩⟩:=d;simp only[J_,List.not_mem_nil,or_false]at n;rcases n with rfl | rfl
  ·exact⟨_,a,λv q=>by cases q⟩
  ·exact⟨_,S,λv q=>by rw[d1]at q;cases q⟩
 keep:=λi h T d m=>by
  obtain⟨⟨old,a⟩,h1⟩:=d;exact⟨⟨old,m e (by simp) _ a⟩,h1.at λo e'=>m it (by simp) o e'⟩
 item:=by
  intro X O J R g i r s σ H E I hf d hg;subst O J R;obtain⟨U,x,y,G⟩:=hg;obtain⟨C,B,p,hz⟩:=I.list y;obtain⟨u,hu,Y⟩:=B.get G;obtain⟨⟨old,a⟩,h1⟩:=d;obtain⟨Z,S,_⟩:=id h1;refine wpAny_pyNext_enum_item a h1 p.isList (x:=u) (by simpa using hu) hei λT a1 a2 a3 a4 m=>?_;refine⟨_,rfl,wpAny_letOwnedTupleGo_enum a1 λh2 M j=>?_⟩;have k:H s.heap.objs.size=none:=I.hok.fresh (Kg _);have lt:∀{c o},s.heap.get? c=some o->s.heap.objs.size≠c:=λe=>Nat.ne_of_gt (Kj e);have kk:∀c o,c∉[e,it]->s.heap.get? c=some o->h2.get? c=some o:=λc o g q=>
   j.extBut _ _ (λz=>g (by simp[z])) (m c o (λz=>g (by simp[z])) (λz=>g (by simp[z])) q)
  have hT:h2.get? s.heap.objs.size=some {cls:=.type "tuple",data:=.seq #[.int i s.toks,u]}:=j.extBut _ _ (lt a) a3;refine⟨.ref s.heap.objs.size,aE H s.heap.objs.size (.tup [.int i,x]),I.movedT (tk:=s.toks+1) hf kk (Kg _) ⟨show 2<=sizeLine from by decide +kernel,[.int i s.toks,u],.cons ⟨_,rfl⟩ (.cons Y .nil),_,hT,rfl,_,rfl⟩,rfl,
   ⟨_,x,rfl,k,rfl,λzs D=>by rw[I.list_inj D y];exact G⟩,⟨⟨u,by simpa using M⟩,a2.extBut j.extBut (Ne.symm hei)⟩,λb n=>?_⟩
  have L:b≠s.heap.objs.size:=by
   simp only[J_,List.not_mem_nil,or_false]at n;rcases n with rfl | rfl
   ·exact(lt a).symm
   ·exact(lt S).symm
  rw[av L];exact(hf b n).1
 done:=by
  intro X O J R g i r s σ H E I hf d hg;subst O J R;obtain⟨U,y,G⟩:=hg;obtain⟨C,B,p,hz⟩:=I.list y;obtain⟨⟨old,a⟩,h1⟩:=d;have l1':=B.length;refine wpAny_pyNext_enum_end (I.ok.hd g) a h1 p.isList (by simp;omega) λT m=>⟨rfl,I.moved (tk:=s.toks) hf λc o g e=>m c o (λq=>g (by simp[q])) e⟩
 self:=λ_ _ _ _ _ d h=>let ⟨⟨_,a⟩,_⟩:=d;wpAny_pyIter_enum a h
section
variable {X:Cx}{elts:K7}{x1:Nat}{tp:Pos}
def zY(K:KR)(ta:TA):TI:=λσ H R=>ta σ H λvs H1=>∃a xs,vs=[.ref a]/\aM K H1 a xs/\R (FJ K a) H1
theorem mT{a:Expr}{ta:TA}{p pos:Pos}(hg:Gl X "enumerate")(hm:X.mg "enumerate"=none)(ha:PA X [a] ta)(hs:autoParam (starEach [a] X.env=[(false,eval a X.env)]) zz0._auto_1):PI X (.Tuple elts x1 tp) (.Call (.Name "enumerate" p) [a] [] pos) (zY X.K ta):=by
 intro c s σ H R I h;refine Call_ (eS I hg hm boot_enumerate (PyProof.Rows.callWith_type1 (cD (ha pos c s σ H _ I h) λus d ⟨vs,H1,i,o,r⟩=>?_) (by rw[hs];rfl) (by rfl)));obtain⟨l,xs,rfl,w,q⟩:=r;obtain⟨u,rfl,n⟩:=o.one;cases n;obtain⟨its,rv,v,_⟩:=i.list w;refine call_enumerate_list v.isList λy j m z3 x=>?_;have z:Inv X c σ H1 {d with heap:=y }:=i.kept (t':=d.toks) x;refine wpAny_pyIter_enum j ?_;refine⟨d.heap.objs.size+1,[d.heap.objs.size+1,d.heap.objs.size],_,_,H1,rfl,z,zh (l:=l) (Nat.ne_of_gt (Kq _)),⟨⟨_,j⟩,m⟩,λb k=>?_,q⟩;have g:d.heap.objs.size<=b:=by
  simp only[J_,List.not_mem_nil,or_false]at k;rcases k with e | e<;>(rw[e];first | exact Kg _ | exact Nat.le_add_right _ _)
 exact i.fpOk g (i.hok.fresh g)
end
section
variable {K:KR}{g:TG}{tb:TS}{D:gu}{σ:St}{H:Hp}
theorem lI{a:Addr}{xs:List V}(Pv:Nat->St->Hp->Prop)(h0:Pv 0 σ H)(hl:∀i σ H,i<=xs.length->Pv i σ H->aM K H a xs)
  (hs:∀(i:Nat) x σ H T,xs[i]?=some x->Pv i σ H->H T=none->g (.ref T) σ (aE H T (.tup [.int (i:Int),x])) λσ2 H2=>tb {D with nx:=Pv (i+1),ct:=Pv (i+1),bk:=D.nx} σ2 H2) (hd:∀σ H,Pv xs.length σ H->D.nx σ H):ww (FJ K a) g tb D σ H:=by
 refine⟨λi m σ H=>m=xs.length-i/\i<=xs.length/\Pv i σ H,⟨xs.length,by simp,Kh _,h0⟩,?_⟩;rintro i m σ H ⟨rfl,c,p⟩;have q:=hl i σ H c p
 by_cases b:i<xs.length
 ·refine .inr ⟨⟨xs,xs[i],q,by simp[b]⟩,Pv (i+1),λσ' j p'=>⟨xs.length-(i+1),⋯,rfl,b,p'⟩,λx j y=>?_⟩
  obtain⟨T,x,rfl,d,rfl,y⟩:=y;exact hs i x σ _ T (y xs q) p d
 ·have e:i=xs.length:=by omega
  subst e;exact .inl ⟨⟨xs,q,Kg _⟩,hd σ H p⟩
end
end L2
namespace PySem.W
open PySem PySem.Spec PySem.Calls PyProof.Rows
open Builtin Builtin.ObjectAttr
def DQ:List Value->List Value
 | .ref _::r=>DQ r
 |l=>l
end PySem.W
namespace L2
open PySem PySem.Spec PyProof.Rows
end L2
namespace PySem.W
open PySem PySem.Spec PySem.Calls PyProof.Rows
end PySem.W
namespace SpM
open PySem
def glue(c:Nat):List (List Nat)->List Nat
 | []=>[]
 | [p]=>p
 |p::q::r=>p++c::glue c (q::r)
def step(c:Nat)(rows:List (List Nat))(d:Nat):List (List Nat):=if d=c then rows++[[]] else rows.dropLast++[rows.getLastD []++[d]]
def parts(c:Nat)(x:KU):List (List Nat):=x.foldl (step c) [[]]
theorem xx{c:Nat}:∀{p q a b:KU},c∉p->c∉q->p++c::a=q++c::b->p=q/\a=b
 | [],[],a,b,_,_,e=>⟨rfl,by simpa using e⟩
 | [],y::q,a,b,_,hq,e=>by simp at e;exact q0Q e.1 (λz=>hq (by simp[z]))
 |x::p,[],a,b,hp,_,e=>by simp at e;exact q0Q e.1.symm (λz=>hp (by simp[z]))
 |x::p,y::q,a,b,hp,hq,e=>by
  simp at e;obtain⟨e1,e2⟩:=xx (p:=p) (q:=q) (λz=>hp (by simp[z])) (λz=>hq (by simp[z])) e.2;exact⟨by rw[e.1,e1],e2⟩
theorem glue_inj(c:Nat):∀{rows rows':List (List Nat)},rows≠[]->rows'≠[]->(∀p∈rows,c∉p)->(∀p∈rows',c∉p)->glue c rows=glue c rows'->rows=rows'
 | [p],[q],_,_,_,_,e=>by simpa[glue]using e
 | [p],q::q'::r,_,_,hf,_,e=>by
  have:c∈p:=by rw[show p=q++c::glue c (q'::r) from e];simp
  exact q0Q this (hf p (by simp))
 |p::p'::r,[q],_,_,_,hf,e=>by
  have:c∈q:=by rw[show q=p++c::glue c (p'::r) from e.symm];simp
  exact q0Q this (hf q (by simp))
 |p::p'::r,q::q'::r',_,_,h1,h2,e=>by
  obtain⟨d,b⟩:=xx (h1 p (by simp)) (h2 q (by simp)) (show p++c::glue c (p'::r)=q++c::glue c (q'::r') from e);have:=glue_inj c (rows:=p'::r) (rows':=q'::r') (by simp) (by simp) (λz a=>h1 z (by simp[a])) (λz a=>h2 z (by simp[a])) b;rw[d,this]
theorem join_glue(c:Nat):∀(ys:K3),(Builtin.Str.glued ⟨#[c]⟩ ys).cps.toList=glue c (ys.map λy=>y.cps.toList)
 | []=>rfl
 |y::ys=>by
  have key:∀(zs:K3) (a:Array Nat),(zs.foldl (λacc (p:Str)=>acc++(⟨#[c]⟩:Str).cps++p.cps) a).toList=glue c (a.toList::zs.map λy=>y.cps.toList):=by
   intro zs
   induction zs with
   |nil=>intro a;rfl
   |cons z zs ih=>
    intro a;rw[List.foldl_cons,ih];show glue c ((a ++ #[c]++z.cps).toList::_)=a.toList++c::glue c (z.cps.toList::_);have e:(a ++ #[c]++z.cps).toList=a.toList++c::z.cps.toList:=by simp
    rw[e];cases zs with
    |nil=>simp[glue]
    |cons w ws=>simp[glue]
  exact key ys y.cps
end SpM
namespace PyProof.Rows
open PySem PySem.Spec PySem.Builtin PySem.Builtin.Str
end PyProof.Rows
namespace L2
open PySem PySem.Spec PyProof.Rows QL
structure BX(K:KR)(C:Addr)(m:Str)(f:Addr):Prop where
 sp:PySem.W.specialIn K (.ref C) "__getattribute__"=some (some (.builtin "type.__getattribute__"))
 rd:PySem.W.readsIn K C (.type "type")=true
 fi:PySem.W.findCls K (.ref C) (.type "type") m=some (.val (.ref f))
 kp:PySem.W.keepIn K (.ref f)=true
section
variable {X:Cx}{CX:j0}{k:Nat}{f C:Addr}{fd:K1}{ps:K3}{sp:Sp}{E:XK}{x m:Str}{p pos apos:Pos}{e:Expr}{es:K7}{t:TA}
theorem BN{pl:Sem Bool}(c:BX X.K C m f)(F:bw X.prog X.w X.K X.mg X.base CX k f fd ps sp)(hr:c8 k X.A)(hg:Gl X x)(hm:X.mg x=some (.ref C))(hb:dX X.K fd ps [])(hx:dC CX X E)(ha:PA X (e::es) t)
  (hdb:autoParam ((x==("__debug__":Str))=false) zz3._auto_1) (hst:autoParam (starEach (e::es) X.env=(false,eval e X.env)::starEach es X.env) zz0._auto_1) (hpl:autoParam ((backTo pos (starEach es X.env)).any (·.1)=false) zz0._auto_1)
  (ht:autoParam (eval (.Call (.Attribute (.Name x p) m apos) (e::es) [] pos) X.env=(do
   let ov <- eval (.Name x p) X.env
   standAt apos.atName
   let (f,first) <- holding [ov] (getMethod ov m pl)
   callWith pos f first (backTo pos (starEach (e::es) X.env)) (backToKw pos (keywordEach [] X.env)))) zz0._auto_1) :
  PE X (.Call (.Attribute (.Name x p) m apos) (e::es) [] pos) (j_ sp [] E t):=by
 intro a s σ H Q I h;refine PySem.W.methodCall_KW (pl:=pl) (mX I hg hm ?_ hdb) ht;refine PySem.W.method_cls I.kIn c.sp (PySem.W.cls_value I.kIn c.rd c.fi rfl ?_);have g:=I.tok (s.toks+1);refine PySem.W.callWith_K (first:=[]) (h₀:=X.base) I.ok.mod.kin c.kp (cD (ha pos a _ σ H _ g h) λus s2 ⟨vs,H2,b,r,d⟩=>⟨b.kIn,?_⟩) hst hpl;exact li F hr hb .nil hx b r d
end
section
variable (P:K2)(w:K5)(K:KR)(mg:K0)(base:Heap)(CX:j0)
structure yF(k:Nat)(x m:Str)(ps:K3)(sp:Sp):Prop where
 ex:∃(C f:Addr) (fd:K1),bw P w K mg base CX k f fd ps sp/\mg x=some (.ref C)/\BX K C m f/\dX K fd ps []
structure kX(k:Nat)(x:Str)(C:Addr)(ps:K3)(sp:Sp):Prop where
 ex:∃(f:Addr) (fd:K1),bw P w K mg base CX k f fd ps sp/\mg x=some (.ref C)/\Mk K C f/\dX K fd ps []
structure ji(k:Nat)(C:Addr)(m:Str)(ps:K3)(sp:Sp):Prop where
 ex:∃(f:Addr) (fd:K1),bw P w K mg base CX k f fd ps sp/\jx K C/\iM K C m f/\dX K fd ps []
end
section
variable {X:Cx}{CX:j0}{k:Nat}{C:Addr}{ps:K3}{sp:Sp}{E:XK}{x m:Str}{p pos apos:Pos}{e o:Expr}{es:K7}{t:TA}{ta:TE}
theorem m6{pl:Sem Bool}(c:yF X.prog X.w X.K X.mg X.base CX k x m ps sp)(hr:c8 k X.A)(hg:Gl X x)(hx:dC CX X E)(ha:PA X (e::es) t)
  (hdb:autoParam ((x==("__debug__":Str))=false) zz3._auto_1) (hst:autoParam (starEach (e::es) X.env=(false,eval e X.env)::starEach es X.env) zz0._auto_1) (hpl:autoParam ((backTo pos (starEach es X.env)).any (·.1)=false) zz0._auto_1)
  (ht:autoParam (eval (.Call (.Attribute (.Name x p) m apos) (e::es) [] pos) X.env=(do
   let ov <- eval (.Name x p) X.env
   standAt apos.atName
   let (f,first) <- holding [ov] (getMethod ov m pl)
   callWith pos f first (backTo pos (starEach (e::es) X.env)) (backToKw pos (keywordEach [] X.env)))) zz0._auto_1) :
  PE X (.Call (.Attribute (.Name x p) m apos) (e::es) [] pos) (j_ sp [] E t):=by
 obtain⟨C,f,fd,F,a,d,b⟩:=c.ex;exact BN d F hr hg a b hx ha hdb hst hpl ht
theorem iZ(c:kX X.prog X.w X.K X.mg X.base CX k x C ps sp)(hr:c8 (k+1) X.A)(hg:Gl X x)(hx:dC CX X E)(ha:PA X (e::es) t)
  (hdb:autoParam ((x==("__debug__":Str))=false) zz3._auto_1) (hst:autoParam (starEach (e::es) X.env=(false,eval e X.env)::starEach es X.env) zz0._auto_1) (hpl:autoParam ((backTo pos (starEach es X.env)).any (·.1)=false) zz0._auto_1) :
  PE X (.Call (.Name x p) (e::es) [] pos) (xY C sp [] E t):=by
 obtain⟨f,fd,F,a,M,b⟩:=c.ex;exact Cm M F hr hg a b .nil hx ha hdb hst hpl
theorem sH{pl:Sem Bool}(c:ji X.prog X.w X.K X.mg X.base CX k C m ps sp)(hr:c8 k X.A)(hx:dC CX X E)(he:PE X o ta)(ha:PA X (e::es) t)
  (hst:autoParam (starEach (e::es) X.env=(false,eval e X.env)::starEach es X.env) zz0._auto_1) (hpl:autoParam ((backTo pos (starEach es X.env)).any (·.1)=false) zz0._auto_1)
  (ht:autoParam (eval (.Call (.Attribute o m apos) (e::es) [] pos) X.env=(do
   let ov <- eval o X.env
   standAt apos.atName
   let (f,first) <- holding [ov] (getMethod ov m pl)
   callWith pos f first (backTo pos (starEach (e::es) X.env)) (backToKw pos (keywordEach [] X.env)))) zz0._auto_1) :
  PE X (.Call (.Attribute o m apos) (e::es) [] pos) (qo C m sp [] E ta t):=by
 obtain⟨f,fd,F,d,a,b⟩:=c.ex;exact C8 he d a F hr b .nil hx ha hst hpl ht
theorem pC{pl:Sem Bool}(c:ji X.prog X.w X.K X.mg X.base CX k C m ps sp)(hr:c8 k X.A)(hx:dC CX X E)(he:PE X o ta)
  (ht:autoParam (eval (.Call (.Attribute o m apos) [] [] pos) X.env=(do
   let ov <- eval o X.env
   standAt apos.atName
   let (f,first) <- holding [ov] (getMethod ov m pl)
   callWith pos f first (backTo pos (starEach [] X.env)) (backToKw pos (keywordEach [] X.env)))) zz0._auto_1) :
  PE X (.Call (.Attribute o m apos) [] [] pos) (qo C m sp [] E ta k9):=by
 obtain⟨f,fd,F,d,a,b⟩:=c.ex;exact A0 he d a F hr b .nil hx ht
end
section
variable {g:TG}{ti:TT}{te:TE}{σ:St}{H:Hp}{Q:List V->Hp->Prop}
theorem A_{x:Str}(Pv:Nat->List V->St->Hp->Prop)(h0:Pv 0 [] σ H)(hz:∀i acc σ H,Pv i acc σ H->acc.length<sizeLine)(hi:∀i acc σ H,Pv i acc σ H->i<=x.cps.size)
  (hs:∀i c acc σ H,x.cps[i]?=some c->Pv i acc σ H->g (.str ⟨#[c]⟩) σ H λσ2 H3=>ti σ2 H3 λb H4=>if b=true then te σ2 H4 λv H5=>Pv (i+1) (acc++[v]) σ2 H5 else Pv (i+1) acc σ2 H4)
  (he:∀acc σ H,Pv x.cps.size acc σ H->Q acc H):fg (FS x) g ti te σ H Q:=by
 exact ja (J:=FS x) (g:=g) (ti:=ti) (te:=te) (Q:=Q) (n:=x.cps.size) Pv h0 hz hi (λacc σ H w=>Kg _) (λi acc σ H hlt w=>hlt)
  (λi v acc σ H H2 hlt w y=>by obtain⟨rfl,c,a,rfl⟩:=y;exact hs i c acc σ H2 a w) he
end
section
variable (P:K2)(w:K5)(K:KR)(mg:K0)(base:Heap)(CX:j0)
structure vC(k:Nat)(m:Str)(os:List (Addr×Sp)):Prop where
 ex:∀o∈os,∃ps,ji P w K mg base CX k o.1 m ps o.2
end
def sr(m:Str)(os:List (Addr×Sp))(E:XK)(ta:TE)(t:TA):TE:=λσ H Q=>ta σ H λx H1=>∃o∈os,∃a dx fs,x=.ref a/\H1 a=some (.ins o.1 dx fs)/\fs.lookup m=none /\
 t σ H1 λvs H2=>o.2 (x::(vs++[])) H2 Q E
section
variable {X:Cx}{CX:j0}{k:Nat}{os:List (Addr×Sp)}{E:XK}{m:Str}{pos apos:Pos}{e o:Expr}{es:K7}{t:TA}{ta:TE}
theorem C7{pl:Sem Bool}(c:vC X.prog X.w X.K X.mg X.base CX k m os)(hr:c8 k X.A)(hx:dC CX X E)(he:PE X o ta)(ha:PA X (e::es) t)
  (hst:autoParam (starEach (e::es) X.env=(false,eval e X.env)::starEach es X.env) zz0._auto_1) (hpl:autoParam ((backTo pos (starEach es X.env)).any (·.1)=false) zz0._auto_1)
  (ht:autoParam (eval (.Call (.Attribute o m apos) (e::es) [] pos) X.env=(do
   let ov <- eval o X.env
   standAt apos.atName
   let (f,first) <- holding [ov] (getMethod ov m pl)
   callWith pos f first (backTo pos (starEach (e::es) X.env)) (backToKw pos (keywordEach [] X.env)))) zz0._auto_1) :
  PE X (.Call (.Attribute o m apos) (e::es) [] pos) (sr m os E ta t):=by
 intro b s σ H Q I h;refine PySem.W.methodCall_KW (pl:=pl) (cD (he b s σ H _ I h) λu j ⟨x,H1,i,n,v,w,a,dx,fs,ex,z,l,q⟩=>?_) ht;subst ex;obtain rfl:u=Value.ref a:=n;obtain⟨ps,B⟩:=c.ex v w;obtain⟨f,fd,F,C,d,y⟩:=B.ex;refine fL i z C d l ?_;refine PySem.W.callWith_K (first:=[.ref a]) (h₀:=X.base) I.ok.mod.kin d.kp (cD (ha pos b j σ H1 _ i q) λus s2 ⟨vs,H2,g,r,p⟩=>⟨g.kIn,?_⟩) hst hpl;exact li (us:=.ref a::us) (vs:=.ref a::vs) F hr y .nil hx g (.cons rfl r) p
theorem A1{pl:Sem Bool}(c:vC X.prog X.w X.K X.mg X.base CX k m os)(hr:c8 k X.A)(hx:dC CX X E)(he:PE X o ta)
  (ht:autoParam (eval (.Call (.Attribute o m apos) [] [] pos) X.env=(do
   let ov <- eval o X.env
   standAt apos.atName
   let (f,first) <- holding [ov] (getMethod ov m pl)
   callWith pos f first (backTo pos (starEach [] X.env)) (backToKw pos (keywordEach [] X.env)))) zz0._auto_1) :
  PE X (.Call (.Attribute o m apos) [] [] pos) (sr m os E ta k9):=by
 intro b s σ H Q I h;refine PySem.W.methodCall_KW (pl:=pl) (cD (he b s σ H _ I h) λu s1 ⟨x,H1,d,g,i,j,a,dx,fs,ex,p,l,q⟩=>?_) ht;subst ex;obtain rfl:u=Value.ref a:=g;obtain⟨ps,r⟩:=c.ex i j;obtain⟨f,fd,F,v,e,n⟩:=r.ex;refine fL d p v e l ?_;exact PySem.W.callWith_K0 (first:=[.ref a]) d.kIn e.kp (li (us:=[.ref a]) (vs:=[.ref a]) F hr n .nil hx d (.cons rfl .nil) q)
end
structure jl(K:KR)(C:Addr):Prop where
 cl:jx K C
 ha:PySem.W.findIn K (.ref C) "__class__"=some (some (.builtin "object.__class__"))
 hn:PySem.W.specialIn K (.builtin "object.__class__") "__get__"=some (some (.builtin "getset_descriptor.__get__"))
 htk:PySem.W.takesIn K (.builtin "object.__class__")=some true
 hm:PySem.W.mroIn K C (.type "object")=some true
theorem jl.ty{K:KR}{C a dx:Addr}{H:Hp}{fs:List (Str×V)}(i:jl K C)(e:H a=some (.ins C dx fs)):jd K H (.ref a) (.ref C):=.ins e i.cl i.ha i.hn i.htk i.hm
section
variable {X:Cx}{es:K7}{t:TA}
theorem fK{x j p}(hr:PA X es t):PA X (.Constant (.str x) j p::es) (gI (tC (.str x)) t):=ac lB hr rfl
theorem b_{x j p}(hr:PA X es t):PA X (.Constant (.int x) j p::es) (gI (tC (.int x)) t):=ac af hr rfl
end
end L2
namespace PyProof.Rows
open PySem PySem.Spec PySem.Builtin PySem.Builtin.Str
end PyProof.Rows
namespace L2
open PySem PySem.Spec PyProof.Rows QL
theorem mZ:∀(xs:List V) (us:KY),xs.length=us.length->(∀(j:Nat) (x:V) (u:Value),xs[j]?=some x->us[j]?=some u->bK x u)->bv xs us
 | [],[],_,_=>.nil
 |x::xs,u::us,hl,h=>.cons (h 0 x u rfl rfl) (mZ xs us (by simpa using hl) λj y v e1 e2=>h (j+1) y v (by simpa using e1) (by simpa using e2))
section
variable {X:Cx}
def xp:List V->Hp->VK->Prop:=λxs H Q=>∃z,xs=[.str z]/\z.length<=sizeLine/\∀l,H l=none->Q (.ref l) (aE H l (.lst (z.cps.toList.map λc=>V.str ⟨#[c]⟩)))
theorem wB(hc:X.calm=true):eR X (.type "list") xp:=by
 intro pins s σ H xs us Q I r h;obtain⟨z,rfl,i,q⟩:=h;obtain⟨u,rfl,t,rfl⟩:=lX r;refine PySem.call_list_str (hn:=i) (I.ok.hd hc) z t λh' k b w n o a=>?_;have l:bv (z.cps.toList.map λc=>V.str ⟨#[c]⟩) b.toList:=by
  refine mZ _ _ (by rw[JW];simp[a.1]) λj x u g v=>?_;obtain⟨c,tk2,d,rfl⟩:=a.2 j u (by simpa using v);rw[JY]at g;have p:z.cps.toList[j]?=some c:=by simpa using d
  rw[p]at g;cases g;exact⟨_,rfl⟩
 have m:(z.cps.toList.map λc=>V.str ⟨#[c]⟩).length<=sizeLine:=by
  rw[JW];have e:z.cps.toList.length=z.length:=by show z.cps.toList.length=z.cps.size;simp
  rw[e];exact i
 exact⟨.ref s.heap.objs.size,aE H s.heap.objs.size (.lst (z.cps.toList.map λc=>V.str ⟨#[c]⟩)),I.laid (t':=k) n (Kg _) ⟨m,b.toList,w,l,by simpa using o⟩,rfl,q _ (I.hok.fresh (Kg _))⟩
end
section
variable {X:Cx}{pins:KS}{σ:St}{H:Hp}{s:KW}{a:Addr}{kvs:List (cP×V)}{k:cP}{u r:Value}{d:V}{A:K4}{E:KQ}
theorem Bv{Q:KQ}(I:Inv X pins σ H s)(e:H a=some (.dK kvs))(ry:bK (kV k) u)(rd:bK d r)(hl:kvs.length<sizeLine)
  (h1:∀v w' s',dL kvs k=some v->Inv X pins σ H s'->bK v w'->Q w' s') (h2:dL kvs k=none->∀s',Inv X pins σ (aE H a (.dK (dH kvs k d))) s'->Q r s') :
  wpAny (model X.prog X.w) A (call (.builtin "dict.setdefault") [.ref a,u,r]) Q E s:=by
 obtain⟨z,j,vs,c,l⟩:=nv I.hok e;have m:vs.length<=sizeLine:=by rw[<- c.length];exact z
 have i:(dH kvs k d).length<=sizeLine:=by have:=gi kvs k d;omega
 refine call_meetsIn PySem.F.slot_dict_setdefault l.typeIs PySem.F.entry_dict_setdefault (PySem.F.args_dict_setdefault_3 _ _ _) (kt_meets_setdefault (cz X.prog X.w) a (oS ry) j r) ⟨vs,l,m,λv n=>?_,λp y g o=>?_⟩
 ·have q:=c.val k
  rw[n]at q;cases b:dL kvs k with
  |none=>rw[b]at q;exact False.elim q
  |some v0=>rw[b]at q;exact h1 v0 v _ b (I.tok _) q
 ·have q:=c.val k
  rw[p]at q;have b:dL kvs k=none:=by
   cases b:dL kvs k with
   |none=>rfl
   |some v0=>rw[b]at q;exact False.elim q
  have x:∃q,y.get? a=some q:=let ⟨q,_,_,hq,_⟩:=g;⟨q,hq⟩
  exact h2 b _ (mU I (by rw[e];exact True.intro) o x (v7 i j (c.put k rd) g))
end
def vd(td ty tx:TE):TE:=λσ H Q=>td σ H λx H1=>∃a,x=.ref a/\Hb H1 a/\ty σ H1 λy H2=>tx σ H2 λz H3=>∃kvs k,H3 a=some (.dK kvs)/\y=kV k/\kvs.length<sizeLine /\
 (∀v,dL kvs k=some v->Q v H3)/\(dL kvs k=none->Q z (aE H3 a (.dK (dH kvs k z))))
section
variable {X:Cx}{o e f:Expr}{apos cpos:Pos}{td ty tx:TE}
theorem nO(ho:PE X o td)(he:PE X e ty)(hf:PE X f tx)(m:M2 X o "setdefault" apos e f cpos):PE X (.Call (.Attribute o "setdefault" apos) [e,f] [] cpos) (vd td ty tx):=by
 intro b s σ H Q I h;refine wpAny_Call_method m.base m.few m.line PySem.F.plainAttrs_dict PySem.F.slot_dict_setdefault PySem.F.type_dict_setdefault (cD (ho b s σ H _ I h) λu r ⟨x,H1,j,B,a,T,d,G⟩=>?_);subst T;obtain rfl:u=Value.ref a:=B;obtain⟨n,l,_⟩:=zW j d;refine⟨n,l,?_⟩;rw[m.trees];refine Calls.callWith_builtin rfl (Calls.evalArgs_plain (Calls.spliced_cons (cD (he b r σ H1 _ j G) λiv q ⟨y,H2,Y,w,D⟩=>
  Calls.spliced_cons (cD (hf b q σ H2 _ Y D) λfv s3 ⟨z,Z,U,i,kvs,k,M,S,c,R,O⟩=>Calls.spliced_nil ?_))))
 subst S;exact Bv U M w i c (λv w' p J g C=>⟨v,Z,g,C,R v J⟩) λL p g=>⟨z,_,g,i,O L⟩
end
theorem DJ{P:K2}{w:K5}{k:cP}{u:Value}(h:(cz P w).is k u=true):bK (kV k) u:=by
 rcases cF (show ot k u=true from h) with⟨i,t,rfl,rfl⟩ | ⟨x,t,rfl,rfl⟩<;>exact⟨_,rfl⟩
section
variable {X:Cx}
def vD:List V->Hp->VK->Prop:=λxs H Q=>∃a kvs,xs=[.ref a]/\H a=some (.dK kvs)/\∀l,H l=none->Q (.ref l) (aE H l (.lst (kvs.map λkv=>kV kv.1)))
theorem vX(hc:X.calm=true):eR X (.type "list") vD:=by
 intro pins s σ H xs us Q I r h;obtain⟨a,g,rfl,e,q⟩:=h;obtain⟨u,rfl,o⟩:=lX r;obtain rfl:u=Value.ref a:=o;obtain⟨z,hd,vs,d,J⟩:=nv I.hok e;obtain⟨ep,L⟩:=J.dictAt;have p:vs.length<=sizeLine:=by rw[<- d.length];exact z
 refine PySem.W.kdl_call (PySem.W.kdl_dict hd) (I.ok.hd hc) L p λh' n c M B D b=>?_;have v:bv (g.map λi=>kV i.1) c.toList:=by
  refine mZ _ _ (by rw[JW];simp[b.1,d.length]) λj x u m G=>?_;obtain⟨k,w,l,C⟩:=b.2 j u (by simpa using G);have y:(g.map λi=>kV i.1)=(vs.map (·.1)).map kV:=by rw[<- d.keys,J9];rfl
  rw[y,JY,JY,l]at m;cases m;exact DJ C
 exact⟨.ref s.heap.objs.size,aE H s.heap.objs.size (.lst (g.map λi=>kV i.1)),I.laid (t':=n) B (Kg _) ⟨by rw[JW];exact z,c.toList,M,v,by simpa using D⟩,rfl,q _ (I.hok.fresh (Kg _))⟩
end
section
variable {K:Type}[DecidableEq K]
def dM(σ:List K)(v:K):List K:=if v∈σ then σ else σ++[v]
def met(l:List K):List K:=l.foldl dM []
theorem uz(σ:List K)(v k:K):decide (k∈dM σ v)=(decide (k∈σ)||decide (k=v)):=by
 unfold dM
 by_cases h:v∈σ
 ·rw[q07 h]
  by_cases e:k=v
  ·subst e;simp[h]
  ·simp[e]
 ·rw[q06 h]
  simp[J8]
theorem me(σ:List K)(v:K):(dM σ v).length=if decide (v∈σ) then σ.length else σ.length+1:=by
 unfold dM
 by_cases h:v∈σ<;>simp[h]
theorem ut(l:List K)(v:K):met (l++[v])=dM (met l) v:=by unfold met;rw[List.foldl_append];rfl
theorem xS:∀(l σ:List K),(l.foldl dM σ).length<=σ.length+l.length
 | [],σ=>Kg _
 |v::l,σ=>by
  have h:=xS l (dM σ v);have e:=me σ v;rw[List.foldl_cons,J6]
  split at e<;>omega
theorem Ad(n:Nat)(l:List K)(h:l.length=n):(met l).length<=n:=by
 have:=xS l [];rw[<- h];unfold met;simpa using this
end
section
variable {prog:K2}{w:K5}{K:Type}[DecidableEq K]{knd:KeyKind prog w K}{A:K4}{R:Result->Shared->Prop}{I:Addr}{fp wr:KZ}{G:Array GenState->Array GenState->Prop}{n:Nat}{P:Nat->Value->Prop}{St:Nat->Shared->Prop}
theorem Dq(W:WalksS prog w A.in1 I fp wr G n P St)(S:Addr)(hSf:S∉fp)(l:List K)(hl:l.length=n)
  (hval:∀i v,P i v->∃k,l[i]?=some k/\knd.is k v=true/\v.scannable=true) (hb:n+1<scanBound) :
  ∀(k i:Nat) (s:KW),n-i=k->i<=n->St i s ->
   s.heap.SetOf knd S (λk'=>decide (k'∈met (l.take i))) (met (l.take i)).length ->
   (∀s',Moved (S::wr) G s s'->s'.heap.SetOf knd S (λk'=>decide (k'∈met l)) (met l).length->R (.ok (.ret .none)) s') ->
   codeAny (model prog w) A (.builtin "set.update.loop" ⟨[.ref S,.ref I],[]⟩) R s:=by
 have y:S∉wr:=λh=>hSf (W.sub _ h);have a:∀b∈wr,b∈S::wr:=λb hb=>J' _ hb;intro k
 induction k with
 |zero=>
  intro i s hk hi c B U;have L:i=n:=by omega
  subst L;rw[<- hl,Kv]at B;refine codeAny_builtin F.entry_set_update_loop ?_;rw[Around.under_plainId F.plain_set_update_loop _];show wpAny _ A.in1 (pyNext (.ref I) >>= _) _ _ s;refine q04 (W.done s _ _ c λs' q=>?_);show wpAny _ A.in1 (ret Value.none) _ _ s';refine q05 (U s' (q.mono a) ?_);obtain⟨o,Y,Z,t,J,bU⟩:=B;exact⟨o,Y,Z,t,q.heap S _ y J,bU⟩
 |succ k ih=>
  intro i s hk hi c B U;have r:i<n:=by omega
  refine codeAny_builtin F.entry_set_update_loop ?_;rw[Around.under_plainId F.plain_set_update_loop _];show wpAny _ A.in1 (pyNext (.ref I) >>= _) _ _ s;refine q04 (W.item i s _ _ r c λv s' hP j q=>?_);obtain⟨g,u,x,D⟩:=hval i v hP;have T:s'.heap.SetOf knd S (λk'=>decide (k'∈met (l.take i))) (met (l.take i)).length:=by
   obtain⟨o,Y,Z,tb,J,bU⟩:=B;exact⟨o,Y,Z,tb,q.heap S _ y J,bU⟩
  show wpAny _ A.in1 (holding [v] (setAdd S v) >>= _) _ _ s';refine q04 (q0Y ?_);unfold setAdd;refine q0Y ?_;refine q04 (knd.pyHash (k:=g) x ?_);have d:(met (l.take i)).length+1<scanBound:=by have:=Ad i (l.take i) (by rw[Kw];omega);omega
  refine wpAny_setAddHashed_of (knd:=knd) (s:={s' with toks:=s'.toks+1}) x D T d λh' m O=>?_;have ht:l.take (i+1)=l.take i++[g]:=by rw[q0E,u];rfl
  have M:h'.SetOf knd S (λk'=>decide (k'∈met (l.take (i+1)))) (met (l.take (i+1))).length:=
   SetOf_congr O (λk'=>by rw[ht,ut,uz]) (by rw[ht,ut,me])
  refine q05 ⟨plainId_quiet F.plain_set_update_loop _,ih (i+1) _ ⋯ r (W.frame _ s' _ _ j (Nat.le_succ _) λb hb o e=>?_) M λC p z=>?_⟩
  ·rw[m.2 b (λh:b=S=>hSf (by rw[<- h];exact hb))];exact e
  ·refine U C (Moved.trans W.gtrans ((q.mono a).then_heap (Nat.le_succ _) λb o hb e=>?_) p) z
   rw[m.2 b (λh:b=S=>hb (by rw[h];exact q0B))];exact e
end
def cR(z:Str):List Str:=z.cps.toList.map λc=>(⟨#[c]⟩:Str)
section
variable {prog:K2}{w:K5}{A:K4}{E:KQ}{s:KW}
def BV(s:KW)(led:Bool):Shared:={s with heap:=s.heap.push {cls:=.type "set",dict:=none,data:=.set #[] 0 (.fresh 0 0 led)} }
set_option maxHeartbeats 3200000 in
theorem si{v:Value}{R:Heap->Nat->Prop}{Q:KQ}
  (hi:∀led,(BV s led).TypeIs (.ref s.heap.objs.size) "set"->codeAny (model prog w) A.in1 (.call (.builtin "set.__init__") {pos:=[.ref s.heap.objs.size,v]})
   (wants (λr s₂=>r=.none/\∃h' tk,s₂={s with heap:=h',toks:=tk}/\R h' tk) E) (BV s led))
  (h:∀(h':Heap) (tk:Nat),R h' tk->Q (.ref s.heap.objs.size) {s with heap:=h',toks:=tk}) :
  wpAny (model prog w) A (call (.type "set") [v]) Q E s:=by
 obtain⟨c,tl,hmro⟩:=PySem.F.called_set.mro;have hmade:=PySem.F.called_set.made;have hsub:=PySem.F.called_set.sub;refine wpAny_call (codeAny_of_tree ?_);show wpAny _ _ (callAny (.type "set") _) _ _ _;refine q05 ⟨Code.quiet_builtin _ (by decide +kernel),codeAny_builtin PySem.F.entry_type_call ?_⟩;rw[Around.under_plain (weight_type_call_type "set" [v] []) rfl];have h1:=PySem.F.called_set.notType;have h2:=PySem.F.called_set.canCreate;have hct:=PySem.F.typeCall_set_1 v
 repeat (any_goals (first | with_reducible assumption | with_reducible refine q05 ?_ | with_reducible refine q04 ?_ | with_reducible refine q0Y ?_ | with_reducible refine wpAny_of_eq (by assumption) ?_ | with_reducible refine wpAny_isInstance (by assumption) (by assumption) ?_ | with_reducible refine wpAny_specialOf (by assumption) (by assumption) ?_ | with_reducible refine wpAny_call ?_ | ((with_reducible apply wpAny_ite_false);focus (rfl;done)) | wp_delta))
 refine codeAny_mono (code_set_new_1 v (E:=E) (Q₁:=λb d=>∃led:Bool,b=.ref s.heap.objs.size/\d=BV s led) λled=>⟨led,rfl,rfl⟩) λr d hr=>?_;cases r with
 |error e=>exact hr
 |ok fl=>
  cases fl with
  |ret b=>
   obtain⟨led,rfl,rfl⟩:=hr;have i:(BV s led).TypeIs (.ref s.heap.objs.size) "set":=⟨_,J1 _ rfl,rfl⟩;have hli:=PySem.F.called_set.init.lookup;have hbi:=PySem.F.called_set.init.bind (.ref s.heap.objs.size)
   repeat (any_goals (first | with_reducible assumption | with_reducible refine q05 ?_ | with_reducible refine q04 ?_ | with_reducible refine q0Y ?_ | with_reducible refine wpAny_of_eq (by assumption) ?_ | with_reducible refine wpAny_isInstance (by assumption) (by assumption) ?_ | with_reducible refine wpAny_specialOf (by assumption) (by assumption) ?_ | with_reducible refine wpAny_call ?_ | ((with_reducible apply wpAny_ite_false);focus (rfl;done)) | wp_delta))
   refine codeAny_mono (hi led i) λg s₂ a=>?_;cases g with
   |error e=>exact a
   |ok fl₂=>
    cases fl₂ with
    |ret r=>
     obtain⟨rfl,h',tk,rfl,j⟩:=a
     repeat (any_goals (first | with_reducible assumption | with_reducible refine q05 ?_ | with_reducible refine q04 ?_ | with_reducible refine q0Y ?_ | with_reducible refine wpAny_of_eq (by assumption) ?_ | with_reducible refine wpAny_isInstance (by assumption) (by assumption) ?_ | with_reducible refine wpAny_specialOf (by assumption) (by assumption) ?_ | with_reducible refine wpAny_call ?_ | ((with_reducible apply wpAny_ite_false);focus (rfl;done)) | wp_delta))
     exact h _ _ j
    |_=>exact a.elim
  |_=>exact hr.elim
theorem p6{x:Str}{t:Tok}{Q:KQ}(hh:A.handled=none)(hb:x.cps.size+1<scanBound)
  (h:∀(h':Heap) (tk:Nat),h'.SetOf (strKind prog w) s.heap.objs.size (λk'=>decide (k'∈met (cR x))) (met (cR x)).length ->
   (∀b o,s.heap.get? b=some o->h'.get? b=some o)->Q (.ref s.heap.objs.size) {s with heap:=h',toks:=tk}) :
  wpAny (model prog w) A (call (.type "set") [.str x t]) Q E s:=by
 refine si (R:=λh' _=>h'.SetOf (strKind prog w) s.heap.objs.size (λk'=>decide (k'∈met (cR x))) (met (cR x)).length/\∀b o,s.heap.get? b=some o->h'.get? b=some o)
  (λa q=>?_) λh' tk hr=>h h' tk hr.1 hr.2
 refine codeAny_call_builtin PySem.F.called_set.init.plain PySem.F.entry_set_init (check_set_init_1 q ?_);unfold BV at q ⊢;have B:(s.heap.push {cls:=.type "set",dict:=none,data:=.set #[] 0 (.fresh 0 0 a)}).get? s.heap.objs.size=some {cls:=.type "set",dict:=none,data:=.set #[] 0 (.fresh 0 0 a)}:=J1 _ rfl;have hsls:=PySem.F.sub_str_set;have hslf:=PySem.F.sub_str_frozenset;have hne:(Value.type "str" == Value.type "dict")=false:=by decide
 unfold Builtin.«set.__init__» noKeywords Builtin.Frozenset.updateFrom;generalize n:pyIter=PI
 wp_walk
 subst n;refine wpAny_pyIter_str λo St W k=>?_;refine q04 (wpAny_runValue ?_);have l:s.heap.objs.size∉[(s.heap.push {cls:=.type "set",dict:=none,data:=.set #[] 0 (.fresh 0 0 a)}).objs.size]:=by
  rw[Heap.size_push];simp only[JX]
  exact Kc (Kq _)
 refine Dq (knd:=strKind prog w) ((W _ (by simp[hh])).toS) s.heap.objs.size l (cR x) (by simp[cR])
  (λi v ⟨c,u,z,p⟩=>⟨⟨#[c]⟩,by unfold cR;rw[JY,q0G,z];rfl,by rw[p];exact strKind_is _ _ _ _,by rw[p];rfl⟩) hb (x.cps.size-0) 0 _ ⋯ (Kh _) k ?hS0 ?hR
 case hS0=>
  exact SetOf_congr ((setObjOf_fresh (knd:=strKind prog w) a).setOf (JV _ B) (by unfold scanBound;omega)) (λ_=>rfl) rfl
 case hR=>
  intro r d m;obtain⟨h',C,J,g,j⟩:=r;have G:C=s.gens:=d.gens;have I:J=s.drawn:=d.drawn;have D:j=s.os:=d.os;subst G;subst I;subst D
  show wpAny _ _ _ _ _ _;refine q05 ?_;show wpAny _ _ (ret Value.none) _ _ _;refine q05 ⟨rfl,h',g,rfl,m,λb y e=>?_⟩;have hb:=Kj e;refine d.heap b y ?_ (JV _ (JV _ e));simp only[J_,List.not_mem_nil,or_false,not_or,Heap.size_push];exact⟨Kc hb,Kc (Nat.lt_succ_of_lt hb)⟩
end
def rY(t:TE):TE:=λσ H Q=>t σ H λx H1=>∃z,x=.str z/\z.cps.size+1<scanBound/\Q (.int (met (cR z)).length) H1
section
variable {X:Cx}{e:Expr}{t:TE}{p p2 pos pos2:Pos}
theorem yI(hc:X.calm=true)(ha:PE X e t)(g1:Gl X "len")(m1:X.mg "len"=none)(g2:Gl X "set")(m2:X.mg "set"=none)
  (he1:autoParam (starEach [.Call (.Name "set" p2) [e] [] pos2] X.env=[(false,eval (.Call (.Name "set" p2) [e] [] pos2) X.env)]) zz0._auto_1)
  (he2:autoParam (starEach [e] X.env=[(false,eval e X.env)]) zz0._auto_1) :
  PE X (.Call (.Name "len" p) [.Call (.Name "set" p2) [e] [] pos2] [] pos) (rY t):=by
 intro a s σ H Q I h;have k:bootBuiltins "len"=some (.builtin "len"):=by decide +kernel
 have i:bootBuiltins "set"=some (.type "set"):=by decide +kernel
 refine wpAny_Call_Name_kw (eS I g1 m1 k ?_);refine PyProof.Rows.callWith_builtin1 ?_ he1 rfl;rw[he1];show wpAny _ _ (spliced [(false,eval (.Call (.Name "set" p2) [e] [] pos2) X.env)]) _ _ _;refine Calls.spliced_cons ?_;refine wpAny_Call_Name_kw (eS (I.tok _) g2 m2 i ?_);refine PyProof.Rows.callWith_type1 ?_ he2 rfl;rw[he2];show wpAny _ _ (spliced [(false,eval e X.env)]) _ _ _;refine Calls.spliced_cons (cD (ha a _ σ H _ (I.tok _) h) λu s1 ⟨x,H1,v,g,z,r,c,q⟩=>Calls.spliced_nil ?_);subst r;obtain⟨tk,rfl⟩:=g;refine p6 (I.ok.hd hc) c λh' tk' n l=>Calls.spliced_nil ?_;obtain⟨o,j,b,es,ep,tb,hd,_,_,d,m⟩:=n.objOf;have hle:=Ad z.cps.size (cR z) (by simp[cR]);have hb:z.cps.size<4096:=by unfold scanBound at c;omega
 refine call_len_set j b hd m (by rw[d];have:((4096:Nat):Int)<2^63:=(by decide);omega) ?_;rw[d];exact⟨.int _,H1,(v.kept (t':=_) l),⟨_,rfl⟩,q⟩
end
abbrev NT:=List (Str×Addr×List Nat)
def uR(t:NT):List (cP×V):=t.map λx=>(Sum.inr x.1,V.ref x.2.1)
def xi(ns:KU):List V:=ns.map fun(n:Nat)=>V.int (n:Int)
structure dl(H:Hp)(p:Addr)(t:NT):Prop where
 dict:H p=some (.dK (uR t))
 list:∀x∈t,H x.2.1=some (.lst (xi x.2.2))
 apart:(t.map (·.2.1)).Nodup
theorem dl.grow{H H':Hp}{p:Addr}{t:NT}(N:dl H p t)(k:∀a o,H a=some o->H' a=some o):dl H' p t:=⟨k _ _ N.dict,λx hx=>k _ _ (N.list x hx),N.apart⟩
theorem AF(z:Str):∀t:NT,dL (uR t) (.inr z)=(t.find? λx=>decide (x.1=z)).map λx=>V.ref x.2.1
 | []=>rfl
 |x::t=>by
  have ih:=AF z t;unfold uR at ih ⊢;rw[Km,List.find?_cons]
  by_cases e:x.1=z
  ·rw[fG (by rw[e])];simp[e]
  ·rw[fT (λh=>e (Sum.inr.inj h)),ih];simp[e]
theorem dl.new{H:Hp}{p l:Addr}{t:NT}{z:Str}(N:dl H p t)(hl:H l=none)(hz:dL (uR t) (.inr z)=none) :
  dl (aE (aE H l (.lst [])) p (.dK (dH (uR t) (.inr z) (.ref l)))) p (t++[(z,l,[])]):=by
 have d:p≠l:=λe=>by have:=N.dict;rw[e,hl]at this;exact nomatch this
 have c:∀x∈t,x.2.1≠l/\x.2.1≠p:=λx c=>by
  have q:=N.list x c
  constructor
  ·intro e;rw[e,hl]at q;exact nomatch q
  ·intro e;rw[e,N.dict]at q;exact nomatch q
 refine⟨?_,λx h=>?_,?_⟩
 ·rw[ag,BW _ hz];unfold uR;rw[J7];rfl
 ·rcases J8.mp h with h | h
  ·rw[av (c x h).2,av (c x h).1];exact N.list x h
  ·rw[JX.mp h,av (Ne.symm d),ag];rfl
 ·rw[J7]
  refine List.nodup_append.mpr ⟨N.apart,by simp,λa i b g=>?_⟩;obtain⟨x,h1,rfl⟩:=KF.mp i;rw[List.map_singleton]at g;rw[JX.mp g];exact(c x h1).1
theorem dl.put{H:Hp}{p:Addr}{t:NT}{i k:Nat}{x:Str×Addr×List Nat}(N:dl H p t)(hi:t[i]?=some x) :
  dl (aE H x.2.1 (.lst (xi (x.2.2++[k])))) p (t.set i (x.1,x.2.1,x.2.2++[k])):=by
 have l:x∈t:=JZ hi;have g:p≠x.2.1:=λe=>by have:=N.list x l;rw[<- e,N.dict]at this;exact nomatch this
 have a:i<t.length:=(JU.mp hi).1;have m:uR (t.set i (x.1,x.2.1,x.2.2++[k]))=uR t:=by
  unfold uR;apply List.ext_getElem?;intro j;rw[JY,JY,List.getElem?_set]
  by_cases e:i=j
  ·subst e;rw[q07 rfl,q07 a,hi];rfl
  ·rw[q06 e]
 have n:(t.set i (x.1,x.2.1,x.2.2++[k])).map (·.2.1)=t.map (·.2.1):=by
  apply List.ext_getElem?;intro j;rw[JY,JY,List.getElem?_set]
  by_cases e:i=j
  ·subst e;rw[q07 rfl,q07 a,hi];rfl
  ·rw[q06 e]
 refine⟨by rw[av g,m];exact N.dict,λy d=>?_,by rw[n];exact N.apart⟩;obtain⟨j,b⟩:=List.mem_iff_getElem?.mp d;rw[List.getElem?_set]at b
 by_cases e:i=j
 ·rw[q07 e,q07 a]at b
  cases b;exact ag
 ·rw[q06 e]at b
  have c:y.2.1≠x.2.1:=by
   intro q;have h1:(t.map (·.2.1))[i]?=some x.2.1:=by rw[JY,hi];rfl
   have h2:(t.map (·.2.1))[j]?=some x.2.1:=by rw[JY,b];simp[q]
   exact e ((List.getElem?_inj (JU.mp h1).1 N.apart).mp (h1.trans h2.symm))
  rw[av c];exact N.list y (JZ b)
def iY(t:NT):List (Str×List Nat):=t.map λx=>(x.1,x.2.2)
def cB(m:List (Str×List Nat))(z:Str):List (Str×List Nat):=if z∈m.map (·.1) then m else m++[(z,[])]
theorem AA{t:NT}{z:Str}{v:V}(h:dL (uR t) (.inr z)=some v):∃(i:Nat) (x:Str×Addr×List Nat),t[i]?=some x/\x.1=z/\v=.ref x.2.1:=by
 rw[AF]at h;cases a:t.find? (λx=>decide (x.1=z)) with
 |none=>rw[a]at h;exact nomatch h
 |some x=>
  rw[a]at h;have c:V.ref x.2.1=v:=q0S h;obtain⟨i,d⟩:=List.mem_iff_getElem?.mp (List.mem_of_find?_eq_some a);have b:=List.find?_some a;exact⟨i,x,d,of_decide_eq_true b,c.symm⟩
theorem xW(t:NT):(iY t).map (·.1)=t.map (·.1):=by unfold iY;rw[J9];rfl
theorem EG{t:NT}{z:Str}(h:dL (uR t) (.inr z)=none):¬ z∈(iY t).map (·.1):=by
 intro m;rw[xW]at m;obtain⟨x,a,e⟩:=KF.mp m;refine BJ h (KF.mpr ⟨(.inr x.1,.ref x.2.1),KF.mpr ⟨x,a,rfl⟩,?_⟩);show(Sum.inr x.1:cP)=Sum.inr z;rw[e]
theorem dl.setdef{H:Hp}{p l:Addr}{t:NT}{z:Str}{Q:VK}(N:dl H p t)(hl:H l=none)(hn:t.length<sizeLine)
  (h:∀(H':Hp) (t':NT) (i:Nat) (x:Str×Addr×List Nat),dl H' p t'->t'[i]?=some x->x.1=z->iY t'=cB (iY t) z->(∀y∈t',y∈t\/y.2.1=l)->(∀a o,a≠p->H a=some o->H' a=some o)->Q (.ref x.2.1) H') :
  ∃kvs k,aE H l (.lst []) p=some (.dK kvs)/\V.str z=kV k/\kvs.length<sizeLine/\(∀v,dL kvs k=some v->Q v (aE H l (.lst []))) /\
   (dL kvs k=none->Q (.ref l) (aE (aE H l (.lst [])) p (.dK (dH kvs k (.ref l))))):=by
 have hpl:p≠l:=λe=>by have:=N.dict;rw[e,hl]at this;exact nomatch this
 have b:∀a o,H a=some o->aE H l (.lst []) a=some o:=λa o e=>by
  rw[av (λq=>by rw[q,hl]at e;exact nomatch e)];exact e
 refine⟨uR t,.inr z,b _ _ N.dict,rfl,by unfold uR;rw[JW];exact hn,λv m=>?_,λd=>?_⟩
 ·obtain⟨i,x,j,g,rfl⟩:=AA m
  refine h _ t i x (N.grow b) j g ?_ (λy c=>.inl c) λa o _ e=>b a o e;have n:z∈(iY t).map (·.1):=by rw[xW];exact KF.mpr ⟨x,JZ j,g⟩
  unfold cB;rw[q07 n]
 ·refine h _ (t++[(z,l,[])]) t.length (z,l,[]) (N.new hl d) (by simp) rfl ?_ (λy c=>(J8.mp c).imp id λq=>by rw[JX.mp q]) λa o r e=>by rw[av r];exact b a o e
  unfold cB;rw[q06 (EG d)];unfold iY;rw[J7];rfl
theorem Cf{t:NT}{i:Nat}{x:Str×Addr×List Nat}(k:Nat):iY (t.set i (x.1,x.2.1,x.2.2++[k]))=(iY t).set i (x.1,x.2.2++[k]):=by
 unfold iY;rw[List.map_set]
theorem ku{m:List (Str×List Nat)}{z:Str}(h:(m.map (·.1)).Nodup):((cB m z).map (·.1)).Nodup:=by
 unfold cB
 by_cases e:z∈m.map (·.1)
 ·rw[q07 e];exact h
 ·rw[q06 e,J7]
  refine List.nodup_append.mpr ⟨h,by simp,λa d b c=>?_⟩;rw[List.map_singleton]at c;rw[JX.mp c];exact λq=>e ((show a=z from q)▸d)
section
variable {X:Cx}{K:KR}{tg:Expr}
theorem Co{a:Expr}{ta:TA}{p pos:Pos}(hK:X.K=K)(hg:Gl X "reversed")(hm:X.mg "reversed"=none)(ha:PA X [a] ta)(hs:autoParam (starEach [a] X.env=[(false,eval a X.env)]) zz0._auto_1):PI X tg (.Call (.Name "reversed" p) [a] [] pos) (Cu K ta):=hK▸Aw hg hm ha hs
end
theorem qE{X:Cx}{e:Expr}{t:TA}{x:Str}{j:Nat}{p apos cpos:Pos}(ha:PA X [e] t)(hline:(apos.endLine==cpos.line)=true)(hs:starEach [e] X.env=[(false,eval e X.env)]) :
  PE X (.Call (.Attribute (.Constant (.str x) j p) "join" apos) [e] [] cpos) (Ft X.K "str" (u_ X.K) (tC (.str x)) t):=
 cJ PySem.F.plainAttrs_str PySem.F.slot_str_join PySem.F.type_str_join C9 lB ha rfl (by rw[hs];rfl) hline hs rfl
theorem D_{X:Cx}{K:KR}{e:Expr}{t:TA}{x:Str}{j:Nat}{p apos cpos:Pos}(hK:X.K=K)(ha:PA X [e] t)(hline:(apos.endLine==cpos.line)=true)(hs:starEach [e] X.env=[(false,eval e X.env)]) :
  PE X (.Call (.Attribute (.Constant (.str x) j p) "join" apos) [e] [] cpos) (Ft K "str" (u_ K) (tC (.str x)) t):=hK▸qE ha hline hs
end L2
namespace QL
open PySem PySem.Spec PyProof.Rows
theorem Ed:bootBuiltins "max"=some (.builtin "max"):=by decide +kernel
end QL
namespace L2
open PySem PySem.Spec PyProof.Rows QL
section
variable {K:KR}{g:TG}{ti:TT}{te:TE}{σ:St}{H:Hp}{Q:List V->Hp->Prop}{α:Type}
theorem ng{as:List α}{f:α->Option V}{i:Nat}{x:α}(hx:as[i]?=some x):(as.take (i+1)).filterMap f=(as.take i).filterMap f++(f x).toList:=by
 rw[q0E,hx,List.filterMap_append];show _++List.filterMap f [x]=_;cases h:f x<;>simp[h]
theorem A9{as:List α}{f:α->Option V}(i:Nat):((as.take i).filterMap f).length<=as.length:=Kn (List.length_filterMap_le _ _) (by rw[Kw];omega)
theorem i'{as:List α}(f:α->V):as.filterMap (λx=>some (f x))=as.map f:=by induction as with | nil=>rfl | cons x xs ih=>simp
theorem fR{a:Addr}{as:List α}{emb:α->V}{f:α->Option V}(S:St->Prop)(h0:S σ)(hl:∀H',aD H H'->aM K H' a (as.map emb))(hn:as.length<=1000000)
  (hs:∀(i:Nat) x,as[i]?=some x->∀σ H' (N1:V->St->Hp->Prop) (N0:St->Hp->Prop),S σ->aD H H'->(∀v σ2 H2,f x=some v->aD H H2->S σ2->N1 v σ2 H2)->(∀σ2 H2,f x=none->aD H H2->S σ2->N0 σ2 H2) ->
   g (emb x) σ H' λσ2 H3=>ti σ2 H3 λb H4=>if b=true then te σ2 H4 λv H5=>N1 v σ2 H5 else N0 σ2 H4)
  (he:∀H',aD H H'->Q (as.filterMap f) H'):fg (By K a) g ti te σ H Q:=by
 refine d9 (xs:=as.map emb) (λi c σ H'=>aD H H'/\c=(as.take i).filterMap f/\i<=as.length/\S σ) ⟨λ_ _ e=>e,rfl,Kh _,h0⟩ ?_ ?_ ?_ ?_ ?_
 ·rintro i c σ H' ⟨_,rfl,_⟩
  have:=A9 (as:=as) (f:=f) i;exact aX ⋯
 ·rintro i c σ H' ⟨_,_,h,_⟩
  rw[JW];exact h
 ·rintro i c σ H' ⟨sm,_⟩
  exact hl _ sm
 ·rintro i x c σ H' j ⟨sm,rfl,hi,l⟩
  have d:i<as.length:=by have:=(JU.mp j).1;rwa [JW]at this
  rw[JY,JT d]at j;cases j;have k:as[i]?=some as[i]:=JT d;refine hs i as[i] k σ H' (λv σ2 H5=>_) (λσ2 H4=>_) l sm (λv σ2 H2 hf s2 hS2=>⟨s2,?_,d,hS2⟩) (λσ2 H2 hf s2 hS2=>⟨s2,?_,d,hS2⟩)
  ·rw[ng k,hf];rfl
  ·rw[ng k,hf];simp
 ·rintro c σ H' ⟨sm,rfl,_⟩
  have e:(as.take (as.map emb).length).filterMap f=as.filterMap f:=by rw[JW,Kv]
  rw[e];exact he _ sm
theorem vG{a:Addr}{as:List α}{emb:α->V}{f:Nat->α->Option V}(S:St->Prop)(h0:S σ)(hl:∀H',aD H H'->aM K H' a (as.map emb))(hn:as.length<=1000000)
  (hs:∀(i:Nat) x,as[i]?=some x->∀σ H' T (N1:V->St->Hp->Prop) (N0:St->Hp->Prop),S σ->aD H H'->H' T=none->(∀v σ2 H2,f i x=some v->aD H H2->S σ2->N1 v σ2 H2)->(∀σ2 H2,f i x=none->aD H H2->S σ2->N0 σ2 H2) ->
   g (.ref T) σ (aE H' T (.tup [.int (i:Int),emb x])) λσ2 H3=>ti σ2 H3 λb H4=>if b=true then te σ2 H4 λv H5=>N1 v σ2 H5 else N0 σ2 H4)
  (he:∀H',aD H H'->Q (as.zipIdx.filterMap λx=>f x.2 x.1) H'):fg (FJ K a) g ti te σ H Q:=by
 have k:as.zipIdx.length=as.length:=List.length_zipIdx;refine ja (J:=FJ K a) (n:=as.length) (λi c σ H'=>aD H H'/\c=(as.zipIdx.take i).filterMap (λx=>f x.2 x.1)/\i<=as.length/\S σ) ⟨λ_ _ e=>e,rfl,Kh _,h0⟩ ?_ ?_ ?_ ?_ ?_ ?_
 ·rintro i c σ H' ⟨_,rfl,_⟩
  have:=A9 (as:=as.zipIdx) (f:=λx=>f x.2 x.1) i;exact aX ⋯
 ·rintro i c σ H' ⟨_,_,h,_⟩
  exact h
 ·rintro c σ H' ⟨sm,_⟩
  exact⟨_,hl _ sm,by rw[JW];exact Kg _⟩
 ·rintro i c σ H' d ⟨sm,_⟩
  exact⟨_,emb as[i],hl _ sm,by rw[JY,JT d];rfl⟩
 ·rintro i x c σ H' H2 d ⟨sm,rfl,hi,p⟩ ⟨T,y,rfl,o,rfl,j⟩
  have l:as[i]?=some as[i]:=JT d;have j:=j _ (hl _ sm);rw[JY,l]at j;cases j;have m:as.zipIdx[i]?=some (as[i],i):=by rw[List.getElem?_zipIdx,l];simp
  refine hs i as[i] l σ H' T (λv σ2 H5=>_) (λσ2 H4=>_) p sm o (λv σ2 H2 hf s2 hS2=>⟨s2,?_,d,hS2⟩) (λσ2 H2 hf s2 hS2=>⟨s2,?_,d,hS2⟩)
  ·rw[ng m];simp only[hf];rfl
  ·rw[ng m];simp[hf]
 ·rintro c σ H' ⟨sm,rfl,_⟩
  have e:(as.zipIdx.take as.length).filterMap (λx=>f x.2 x.1)=as.zipIdx.filterMap (λx=>f x.2 x.1):=by rw[<- k,Kv]
  rw[e];exact he _ sm
theorem lY{n:Nat}{f:Nat->Option V}(S:St->Prop)(h0:S σ)(hn:n<=1000000)
  (hs:∀i,i<n->∀σ H' (N1:V->St->Hp->Prop) (N0:St->Hp->Prop),S σ->aD H H'->(∀v σ2 H2,f i=some v->aD H H2->S σ2->N1 v σ2 H2)->(∀σ2 H2,f i=none->aD H H2->S σ2->N0 σ2 H2) ->
   g (.int (0+(i:Int))) σ H' λσ2 H3=>ti σ2 H3 λb H4=>if b=true then te σ2 H4 λv H5=>N1 v σ2 H5 else N0 σ2 H4)
  (he:∀H',aD H H'->Q ((List.range n).filterMap f) H'):fg (wo 0 n) g ti te σ H Q:=by
 refine jX (lo:=0) (n:=n) (λi a σ H'=>aD H H'/\a=(List.range i).filterMap f/\i<=n/\S σ) ⟨λ_ _ e=>e,rfl,Kh _,h0⟩ ?_ ?_ ?_ ?_
 ·rintro i a σ H' ⟨_,rfl,c,_⟩
  have:=List.length_filterMap_le f (List.range i);rw[q0J]at this;exact aX ⋯
 ·rintro i a σ H' ⟨_,_,h,_⟩
  exact h
 ·rintro i a σ H' c ⟨sm,rfl,_,d⟩
  refine hs i c σ H' (λv σ2 H5=>_) (λσ2 H4=>_) d sm (λv σ2 H2 hf s2 hS2=>⟨s2,?_,c,hS2⟩) (λσ2 H2 hf s2 hS2=>⟨s2,?_,c,hS2⟩)
  ·rw[q0M,List.filterMap_append];simp[hf]
  ·rw[q0M,List.filterMap_append];simp[hf]
 ·rintro a σ H' ⟨sm,rfl,_⟩
  exact he _ sm
end
end L2
namespace ThM
open PySem L2
def addNew(ks:K3)(z:Str):List Str:=if z∈ks then ks else ks++[z]
theorem mem_addNew{ks:K3}{z y:Str}:y∈addNew ks z↔y∈ks\/y=z:=by
 unfold addNew
 split
 ·rename_i h
  exact⟨.inl,λq=>q.elim id λe=>e▸h⟩
 ·rw[J8,JX]
def trueD(zs:K3):List (cP×V):=zs.map λz=>(Sum.inr z,V.bl true)
theorem trueD_val(z:Str):∀zs:List Str,(dL (trueD zs) (.inr z)).isSome=decide (z∈zs)
 | []=>rfl
 |y::zs=>by
  have ih:=trueD_val z zs;unfold trueD at ih ⊢;rw[Km]
  by_cases e:y=z
  ·rw[fG (by rw[e])]
   simp[e]
  ·rw[fT (λq=>e (Sum.inr.inj q)),ih]
   have:¬ z=y:=λq=>e q.symm;simp[this]
theorem trueD_put(zs:K3)(z:Str):dH (trueD zs) (.inr z) (V.bl true)=trueD (addNew zs z):=by
 unfold dH;rw[gU,trueD_val];unfold addNew
 by_cases h:z∈zs
 ·rw[q09 h,q07 rfl,q07 h]
  unfold trueD;rw[J9];refine q0K λy _=>?_;show(if(Sum.inr y:cP)=Sum.inr z then _ else _)=_
  split<;>rfl
 ·rw[q08 h,q06 (by decide),q06 h]
  unfold trueD;rw[J7];rfl
theorem trueD_len(zs:K3):(trueD zs).length=zs.length:=by unfold trueD;rw[JW]
section
variable {α:Type}(f:List α->List α)
def G3:Nat->List α->List α
 |0,s=>s
 |n+1,s=>f (G3 n s)
variable {f}
end
abbrev NR:=Str×List Str
def Cj(ks:K3)(r:NR):List Str:=if(∀z∈r.2,z∈ks) then addNew ks r.1 else ks
def AN(rs:List NR)(ks:K3):List Str:=rs.foldl Cj ks
theorem nd_len{ks ms:K3}(hn:ks.Nodup)(h:∀z∈ks,z∈ms):ks.length<=ms.length:=by
 induction ks generalizing ms with
 |nil=>exact Kh _
 |cons k ks ih=>
  rw[q0c]at hn;have c:=h k q0B;have h1:=ih (ms:=ms.erase k) hn.2 λz b=>by
   have a:z≠k:=λe=>hn.1 (e▸b);exact(List.mem_erase_of_ne a).mpr (h z (J' _ b))
  have h2:=List.length_erase_of_mem c;have h3:=List.length_pos_of_mem c;rw[J6];omega
def Ei(rs:List NR):List Str:=G3 (AN rs) rs.length []
end ThM
namespace ThM
open PySem L2
theorem kB{y:Str}:∀(zs ks:K3),y∈zs.foldl addNew ks↔y∈ks\/y∈zs
 | [],ks=>by simp
 |z::zs,ks=>by
  rw[List.foldl_cons,kB zs,mem_addNew,J_];exact⟨λh=>h.elim (λh=>h.elim .inl λe=>.inr (.inl e)) λh=>.inr (.inr h),λh=>h.elim (λh=>.inl (.inl h)) λh=>h.elim (λe=>.inl (.inr e)) .inr⟩
def zQ(ks:K3)(r:NR):List Str:=if r.1∈ks then r.2.foldl addNew ks else ks
def yZ(rs:List NR)(ks:K3):List Str:=rs.foldl zQ ks
def FT(ks:K3)(r:NR):Prop:=r.1∈ks/\∀z∈r.2,z∈ks
noncomputable instance (ks:K3)(r:NR):Decidable (FT ks r):=by unfold FT;infer_instance
def Ez(st:Str)(rs:List NR):List Str:=G3 (yZ rs) rs.length [st]
def DM(rs:List NR)(r:NR):Bool:=decide (∀z∈r.2,z∈Ei rs)
def G0(rs:List NR):List NR:=rs.filter (DM rs)
def GQ(st:Str)(rs:List NR):List Str:=Ez st (G0 rs)
def keep(st:Str)(rs:List NR)(r:NR):Bool:=decide (r.1∈GQ st rs)&&DM rs r
end ThM
namespace L2
open PySem PySem.Spec PyProof.Rows
section
variable {X:Cx}{body:List Stmt}{h₀:ExceptHandler}{hs:List ExceptHandler}{tb:TS}{pos:Pos}
theorem m9{e:Expr}{ta:TE}{f:Str}{K:KR}(hK:X.K=K)(he:PE X e ta)(hb:attributeBase e f X.env (eval e X.env)=eval e X.env):PE X (.Attribute e f pos) (Df K ta f):=hK▸cH he hb
end
section
variable {X:Cx}{es:K7}{t:TA}{te:TE}
end
end L2
namespace L2
open PySem PySem.Spec PyProof.Rows QL
section
variable {X:Cx}
theorem Af{x:V}(h:u7 x=true):CJ x x=true:=by cases x<;>simp_all [u7,CJ]
end
end L2
namespace L2
open PySem PySem.Spec PyProof.Rows
end L2
namespace L2
open PySem PySem.Spec PyProof.Rows QL
section
variable {X:Cx}
def sE:V->List V->Hp->VK->Prop:=λx vs H Q=>∃l xs i k y,x=.ref l/\vs=[.int i,y]/\H l=some (.lst xs)/\i=((k:Nat):Int)/\k<=xs.length/\xs.length<sizeLine/\Q .non (aE H l (.lst (xs.take k++y::xs.drop k)))
theorem yB:F3 X "list.insert" sE:=by
 intro pins s σ H x vs v us Q I rx rv h;obtain⟨l,m,i,k,y,rfl,rfl,j,c,hk,p,q⟩:=h;cases rx;obtain⟨u1,u,rfl,d,o⟩:=rv.two;obtain⟨t,rfl⟩:=d;obtain⟨z,a,n,r,hl,e⟩:=I.lstM j;have g:k<2 ^ 62:=by
  have h1:m.length<sizeLine:=p;have h2:sizeLine<=2 ^ 62:=by decide +kernel
  omega
 have w:(2:Nat) ^ 62=4611686018427387904:=by decide
 have b:(2:Int) ^ 63=9223372036854775808:=by decide
 rw[w]at g;refine call_meets F.slot_list_insert ⟨_,e,rfl⟩ F.entry_list_insert (F.args_list_insert_3 _ _ _)
  (AutoSeq1.list_insert_list_int_val_1 l a.toArray n i t u (by rw[fitsIndex_both (by rw[b,c];omega) (by rw[b,c];omega)];decide) (by rw[J2];omega)) ⟨e,?_⟩
 refine⟨.non,_,I.lset (its':=a.take k++u::a.drop k) j e ?_ ?_ ?_,rfl,q⟩
 ·have B:¬ i<0:=by rw[c];omega
  have C:min i.toNat a.toArray.size=k:=by rw[c,J2];omega
  show(a.toArray.extract 0 (if i<0 then(i+(a.toArray.size:Int)).toNat else min i.toNat a.toArray.size)).push u++a.toArray.extract (if i<0 then(i+(a.toArray.size:Int)).toNat else min i.toNat a.toArray.size)=_;rw[q06 B,C];apply Array.ext';simp[List.extract_eq_drop_take,q0F]
 ·exact(r.take k).append (.cons o (r.drop k))
 ·rw[Kf,J6,Kw,Kx]
  omega
end
def EM(H H':Hp):Prop:=∀b xs,H b=some (.tup xs)->H' b=some (.tup xs)
def vy(np:Nat->Nat):List Nat->List Dt
 | []=>[]
 |n::ns=>.tup (.int (n:Int)::(vy np ns).take (np n))::(vy np ns).drop (np n)
def Gx(np:Nat->Nat):List Nat->Prop
 | []=>True
 |n::ns=>Gx np ns/\np n<=(vy np ns).length
end L2
namespace L2
open PySem PySem.Spec PyProof.Rows QL aL
theorem GC{a:Addr}{P:Addr->Prop}:(∃p,V.ref a=V.ref p/\P p)=P a:=by simp
theorem Gq{a:Int}{P:Int->Prop}:(∃p,V.int a=V.int p/\P p)=P a:=by simp
theorem Gm{a:Bool}{P:Bool->Prop}:(∃p,V.bl a=V.bl p/\P p)=P a:=by simp
theorem GN{a:Str}{P:Str->Prop}:(∃p,V.str a=V.str p/\P p)=P a:=by simp
theorem GP{α:Type}{a:Addr}{P:Addr->α->Prop}:(∃p,∃x,V.ref a=V.ref p/\P p x) = ∃x,P a x:=by simp
theorem GS{α:Type}{a:Addr}{P:Addr->α->Prop}:(∃p,∃x,[V.ref a]=[V.ref p]/\P p x) = ∃x,P a x:=by simp
theorem GK{α:Type}{a:Addr}{v:V}{P:Addr->α->V->Prop}:(∃p,∃x,∃y,V.ref a=V.ref p/\[v]=[y]/\P p x y) = ∃x,P a x v:=by simp
theorem GR{α β:Type}{a b:Addr}{P:Addr->Addr->α->β->Prop}:(∃p,∃q,∃x,∃y,V.ref a=V.ref p/\V.ref b=V.ref q/\P p q x y) = ∃x,∃y,P a b x y:=by simp
def Ce(i:Nat):TE:=λσ H Q=>match σ[i]? with
 |some (some v)=>Q v H
 |_=>False
def zb(g:Int->Int->V):R2
 | .int i,.int j,H,Q=>Q (g i j) H
 |x,y,H,Q=>yM g x y H Q
def FO(C:Int->Int->Prop)(g:Int->Int->V):R2
 | .int i,.int j,H,Q=>C i j/\Q (g i j) H
 |x,y,H,Q=>rI C g x y H Q
def xQ(K:KR):R2
 | .ref p,.int i,H,Q=>∃xs,aM K H p xs/\∃v,iz xs i=some v/\Q v H
 |x,y,H,Q=>wY K x y H Q
def xX(K:KR):R2
 | .ref p,.int i,H,Q=>∃xs,dZ K H p xs/\∃v,iz xs i=some v/\Q v H
 |x,y,H,Q=>Bh K x y H Q
theorem Aa{g:Int->Int->V}{x y:V}{H:Hp}{Q:VK}:zb g x y H Q=yM g x y H Q:=by
 unfold zb;split
 ·simp[yM]
 ·rfl
theorem DB{C:Int->Int->Prop}{g:Int->Int->V}{x y:V}{H:Hp}{Q:VK}:FO C g x y H Q=rI C g x y H Q:=by
 unfold FO;split
 ·simp[rI]
 ·rfl
theorem xG{K:KR}{x y:V}{H:Hp}{Q:VK}:xQ K x y H Q=wY K x y H Q:=by
 unfold xQ;split
 ·simp[wY]
 ·rfl
theorem xR{K:KR}{x y:V}{H:Hp}{Q:VK}:xX K x y H Q=Bh K x y H Q:=by
 unfold xX;split
 ·simp[Bh]
 ·rfl
theorem De{g:Int->Int->V}{i j:Int}{H:Hp}{Q:VK}:zb g (.int i) (.int j) H Q=Q (g i j) H:=rfl
theorem EI{C:Int->Int->Prop}{g:Int->Int->V}{i j:Int}{H:Hp}{Q:VK}:FO C g (.int i) (.int j) H Q=(C i j/\Q (g i j) H):=rfl
theorem Ar{K:KR}{p:Addr}{i:Int}{H:Hp}{Q:VK}:xQ K (.ref p) (.int i) H Q = ∃xs,aM K H p xs/\∃v,iz xs i=some v/\Q v H:=rfl
theorem Ca{K:KR}{p:Addr}{i:Int}{H:Hp}{Q:VK}:xX K (.ref p) (.int i) H Q = ∃xs,dZ K H p xs/\∃v,iz xs i=some v/\Q v H:=rfl
theorem JK{α β:Type}{f:α->β}{a:α}{l:List α}:List.map f (a::l)=f a::List.map f l:=rfl
theorem Iz{α β:Type}{f:α->β}:List.map f []=[]:=rfl
theorem HU{α:Type}{a:α}{l m:List α}:(a::l)++m=a::(l++m):=rfl
theorem IK{α:Type}{m:List α}:[]++m=m:=rfl
theorem Jv{α:Type}{a:α}{l:List α}:(a::l)[0]?=some a:=rfl
theorem Jl{α:Type}{a:α}{l:List α}{n:Nat}:(a::l)[n+1]?=l[n]?:=rfl
theorem Jg{α:Type}{a b:α}{l:List α}:(a::l).set 0 b=b::l:=rfl
theorem Jb{α:Type}{a b:α}{l:List α}{n:Nat}:(a::l).set (n+1) b=a::l.set n b:=rfl
section
variable {X:Cx}
theorem ao(i:Nat){x:Str}{pos:Pos}(hN:autoParam (X.N[i]?=some x) zz0._auto_1)(hv:autoParam (F5 X.env.scope x) zz5._auto_1)(hd:autoParam ((x==("__debug__":Str))=false) zz1._auto_1)
  (hc:autoParam ((x==("__classdict__":Str))=false) zz1._auto_1):PE X (.Name x pos) (Ce i):=λpins s σ H Q I h=>pv i hN hv hd hc pins s σ H Q I (by
 unfold Ce at h
 split at h
 ·exact⟨_,‹_›,h⟩
 ·exact h.elim)
theorem bd.m0{f:Value->Value->Sem Value}{g:Int->Int->V}(h:bd X f (yM g)):bd X f (zb g):=λpins s σ H x y v u Q I a b c=>h pins s σ H x y v u Q I a b (Aa▸c)
theorem bd.m1{f:Value->Value->Sem Value}{C:Int->Int->Prop}{g:Int->Int->V}(h:bd X f (rI C g)):bd X f (FO C g):=λpins s σ H x y v u Q I a b c=>h pins s σ H x y v u Q I a b (DB▸c)
theorem aU:D5 X (xQ X.K):=λe sl pins s σ H x y v u Q I a b c d=>rq e sl pins s σ H x y v u Q I a b (xG▸c) d
theorem bS:D5 X (xX X.K):=λe sl pins s σ H x y v u Q I a b c d=>Eh e sl pins s σ H x y v u Q I a b (xR▸c) d
end
inductive TrD:Dt->Prop
 |mk (i:Int) (ds:List Dt):(∀d∈ds,TrD d)->TrD (.tup (.int i::ds))
section
variable {β:Type}{A:Hp->Addr->β->Prop}
def bu(A:Hp->Addr->β->Prop)(H:Hp)(bs:KZ)(ys:List β):Prop:=bs.length=ys.length/\∀(i:Nat) b y,bs[i]?=some b->ys[i]?=some y->A H b y
def kc(A:Hp->Addr->β->Prop)(H:Hp)(l:Addr)(ys:List β):Prop:=∃bs:List Addr,H l=some (.lst (bs.map V.ref))/\bu A H bs ys
theorem bu.nil{H:Hp}:bu A H [] []:=⟨rfl,λi b y e=>by simp at e⟩
theorem bu.mono{A':Hp->Addr->β->Prop}{H H':Hp}{bs:KZ}{ys:List β}(h:bu A H bs ys)(u:∀b y,b∈bs->y∈ys->A H b y->A' H' b y):bu A' H' bs ys:=⟨h.1,λi b y e1 e2=>u b y (JZ e1) (JZ e2) (h.2 i b y e1 e2)⟩
theorem bu.snoc{H:Hp}{bs:KZ}{ys:List β}{b:Addr}{y:β}(h:bu A H bs ys)(e:A H b y):bu A H (bs++[b]) (ys++[y]):=by
 refine⟨by rw[Kf,Kf,h.1];rfl,λi c z a d=>?_⟩
 by_cases g:i<bs.length
 ·rw[Ke g]at a
  rw[Ke (by rw[<- h.1];exact g)]at d;exact h.2 i c z a d
 ·have j3:i=bs.length:=by
   have:=(JU.mp a).1;simp at this;omega
  subst j3;rw[Kd (Kg _),Nat.sub_self]at a;rw[h.1,Kd (Kg _),Nat.sub_self]at d;cases a;cases d
  exact e
theorem bu.get{H:Hp}{bs:KZ}{ys:List β}{i:Nat}{b:Addr}(h:bu A H bs ys)(e:bs[i]?=some b):∃y,ys[i]?=some y/\A H b y:=by
 have c:=(JU.mp e).1;have a:ys[i]?=some (ys[i]'(by rw[<- h.1];exact c)):=JT _;exact⟨_,a,h.2 i b _ e a⟩
theorem bu.one{H:Hp}{b:Addr}{y:β}(e:A H b y):bu A H [b] [y]:=bu.nil.snoc e
theorem bu.two{H:Hp}{b c:Addr}{y z:β}(e:A H b y)(e2:A H c z):bu A H [b,c] [y,z]:=(bu.one e).snoc e2
theorem bu.zip{H:Hp}{bs:KZ}{ys:List β}(h:bu A H bs ys):bs.map V.ref=(bs.zip ys).map λx=>V.ref x.1:=by
 have e:=J9 (f:=Prod.fst) (g:=V.ref) (l:=bs.zip ys);rw[List.map_fst_zip (by rw[h.1];exact Kg _)]at e;exact e
theorem bu.at{H:Hp}{bs:KZ}{ys:List β}(h:bu A H bs ys){i:Nat}{x:Addr×β}(e:(bs.zip ys)[i]?=some x):ys[i]?=some x.2/\A H x.1 x.2:=by
 obtain⟨b,y⟩:=x;obtain⟨c,a⟩:=List.getElem?_zip_eq_some.mp e;exact⟨a,h.2 i b y c a⟩
end
section
variable {K:KR}{g:TG}{ti:TT}{te:TE}{σ:St}{H:Hp}{Q:List V->Hp->Prop}{α β:Type}
theorem nY(A:Hp->Addr->β->Prop)(up:∀{H H':Hp} {b:Addr} {y:β},A H b y->aD H H'->A H' b y){a:Addr}{as:List α}{emb:α->V}{ys:List β}(hlen:as.length=ys.length)(S:St->Prop)(h0:S σ)(hl:∀H',aD H H'->aM K H' a (as.map emb))(hn:as.length<=1000000)
  (hs:∀(i:Nat) x y,as[i]?=some x->ys[i]?=some y->∀σ H' (N1:V->St->Hp->Prop) (N0:St->Hp->Prop),S σ->aD H H'->(∀b σ2 H2,A H2 b y->aD H H2->aD H' H2->S σ2->N1 (.ref b) σ2 H2) ->
   g (emb x) σ H' λσ2 H3=>ti σ2 H3 λb H4=>if b=true then te σ2 H4 λv H5=>N1 v σ2 H5 else N0 σ2 H4)
  (he:∀bs H',aD H H'->bu A H' bs ys->Q (bs.map V.ref) H'):fg (By K a) g ti te σ H Q:=by
 refine d9 (xs:=as.map emb) (λi c σ H'=>aD H H'/\(∃bs:List Addr,c=bs.map V.ref/\bu A H' bs (ys.take i))/\i<=as.length/\S σ) ⟨λ_ _ e=>e,⟨[],rfl,bu.nil⟩,Kh _,h0⟩ ?_ ?_ ?_ ?_ ?_
 ·rintro i c σ H' ⟨_,⟨bs,rfl,h⟩,_⟩
  have:=h.1;rw[Kw]at this;rw[JW];exact aX ⋯
 ·rintro i c σ H' ⟨_,_,h,_⟩
  rw[JW];exact h
 ·rintro i c σ H' ⟨sm,_⟩
  exact hl _ sm
 ·rintro i x c σ H' k ⟨sm,⟨bs,rfl,j⟩,hi,m⟩
  have d:i<as.length:=by have:=(JU.mp k).1;rwa [JW]at this
  rw[JY,JT d]at k;cases k;have l:ys[i]?=some (ys[i]'⋯):=JT ⋯;refine hs i as[i] _ (JT d) l σ H' (λv σ2 H5=>_) (λσ2 H4=>_) m sm (λb σ2 H2 hA s2 s3 hS2=>⟨s2,⟨bs++[b],by rw[J7];rfl,?_⟩,d,hS2⟩)
  ·rw[q0E,l]
   exact(j.mono λb y _ _ h=>up h s3).snoc hA
 ·rintro c σ H' ⟨sm,⟨bs,rfl,j⟩,_⟩
  have e:ys.take (as.map emb).length=ys:=by rw[JW,hlen,Kv]
  rw[e]at j;exact he _ _ sm j
end
end L2
namespace L2
open PySem PySem.Spec PyProof.Rows QL PySem.Builtin
section
variable {X:Cx}
def vR(z:Str):Value->Bool
 | .str y _=>y.cps.toList==z.cps.toList
 |_=>false
theorem C6{y z:Str}{t:Tok}(h:vR z (.str y t)=true):y=z:=by
 have h1:y.cps.toList=z.cps.toList:=by simpa[vR]using h
 cases y;cases z
 simp only[Str.mk.injEq];exact Array.toList_inj.mp h1
def sI:V->List V->Hp->VK->Prop:=λx vs H Q=>∃(l:Addr) (ts:K3) (z:Str) (j:Nat),x=.ref l/\vs=[.str z]/\H l=some (.lst (ts.map V.str))/\ts[j]?=some z/\(∀m y,m<j->ts[m]?=some y->y≠z)/\Q (.int (j:Int)) H
theorem yt:Gj X "list.index" sI:=by
 intro pins s σ H x vs v us Q I rx rv h;obtain⟨l,c,z,j,rfl,rfl,J,G,B,q⟩:=h;cases rx;obtain⟨u,rfl,M⟩:=rv.one;obtain⟨t,rfl⟩:=M;obtain⟨L,b,n,r,S,e⟩:=I.lstM J;have hjl:j<c.length:=(JU.mp G).1;have k:∀(m:Nat) y,c[m]?=some y->∃d,b[m]?=some (.str y d):=by
  intro m y p;obtain⟨w,R,o⟩:=r.get (i:=m) (x:=.str y) (by rw[JY,p];rfl);obtain⟨d,rfl⟩:=o;exact⟨d,R⟩
 have hll:b.length=c.length:=by rw[<- S,JW]
 have hsl:=I.lstM J;have O:b.length<=sizeLine:=by
  have:=L;omega
 rw[q0W]at O;refine call_meets F.slot_list_index ⟨_,e,rfl⟩ F.entry_list_index (F.args_list_index_2 _ _)
  (MeetsSeq.list_index l b.toArray n (.str z t) (vR z) (λy p=>?_) j (by rw[J2];omega) ⋯ ?_ ?_) ⟨e,?_⟩
 ·obtain⟨m,C,U⟩:=List.getElem_of_mem (by simpa using p)
  obtain⟨d,a⟩:=k m (c[m]'⋯) (JT _);rw[JT C,U]at a
  injection a with a
  subst a;exact PySem.SeqRoads2.EqGives.str _ _ _ _
 ·obtain⟨d,a⟩:=k j z G
  rw[JT ⋯]at a
  injection a with a
  show vR z b[j]=true;rw[a];simp[vR]
 ·intro m C D
  have g:m<c.length:=by rw[J2]at C;omega
  obtain⟨d,a⟩:=k m (c[m]'g) (JT _);rw[JT ⋯]at a
  injection a with a
  show vR z b[m]=false;rw[a];cases T:vR z (.str (c[m]'g) d) with
  |false=>rfl
  |true=>exact q0Q (C6 T) (B m _ D (JT g))
 ·exact⟨.int _,H,I.tok _,⟨_,rfl⟩,q⟩
end
section
variable {K:KR}{g:TG}{ti:TT}{te:TE}{σ:St}{H:Hp}{Q:List V->Hp->Prop}{α β:Type}
theorem ul{as:List α}{f:α->Option β}{i:Nat}{x:α}(hx:as[i]?=some x):(as.take (i+1)).filterMap f=(as.take i).filterMap f++(f x).toList:=by
 rw[q0E,hx,List.filterMap_append];show _++List.filterMap f [x]=_;cases h:f x<;>simp[h]
theorem vb(A:Hp->Addr->β->Prop)(up:∀{H H':Hp} {b:Addr} {y:β},A H b y->aD H H'->A H' b y){a:Addr}{as:List α}{emb:α->V}{f:α->Option β}(S:St->Prop)(h0:S σ)(hl:∀H',aD H H'->aM K H' a (as.map emb))(hn:as.length<=1000000)
  (hs:∀(i:Nat) x,as[i]?=some x->∀σ H' (N1:V->St->Hp->Prop) (N0:St->Hp->Prop),S σ->aD H H'->(∀b y σ2 H2,f x=some y->A H2 b y->aD H H2->aD H' H2->S σ2->N1 (.ref b) σ2 H2)->(∀σ2 H2,f x=none->aD H H2->aD H' H2->S σ2->N0 σ2 H2) ->
   g (emb x) σ H' λσ2 H3=>ti σ2 H3 λb H4=>if b=true then te σ2 H4 λv H5=>N1 v σ2 H5 else N0 σ2 H4)
  (he:∀bs H',aD H H'->bu A H' bs (as.filterMap f)->Q (bs.map V.ref) H'):fg (By K a) g ti te σ H Q:=by
 refine d9 (xs:=as.map emb) (λi c σ H'=>aD H H'/\(∃bs:List Addr,c=bs.map V.ref/\bu A H' bs ((as.take i).filterMap f))/\i<=as.length/\S σ) ⟨λ_ _ e=>e,⟨[],rfl,bu.nil⟩,Kh _,h0⟩ ?_ ?_ ?_ ?_ ?_
 ·rintro i c σ H' ⟨_,⟨bs,rfl,h⟩,_⟩
  have:=h.1;have h2:=List.length_filterMap_le f (as.take i);rw[Kw]at h2;rw[JW];exact aX ⋯
 ·rintro i c σ H' ⟨_,_,h,_⟩
  rw[JW];exact h
 ·rintro i c σ H' ⟨sm,_⟩
  exact hl _ sm
 ·rintro i x c σ H' k ⟨sm,⟨bs,rfl,j⟩,hi,m⟩
  have d:i<as.length:=by have:=(JU.mp k).1;rwa [JW]at this
  rw[JY,JT d]at k;cases k;have l:as[i]?=some as[i]:=JT d;refine hs i as[i] l σ H' (λv σ2 H5=>_) (λσ2 H4=>_) m sm (λb y σ2 H2 hf hA s2 s3 hS2=>⟨s2,⟨bs++[b],by rw[J7];rfl,?_⟩,d,hS2⟩) (λσ2 H2 hf s2 s3 hS2=>⟨s2,⟨bs,rfl,?_⟩,d,hS2⟩)
  ·rw[ul l,hf]
   exact(j.mono λb y _ _ h=>up h s3).snoc hA
  ·rw[ul l,hf]
   show bu A H2 bs (_++[]);rw[Ks];exact j.mono λb y _ _ h=>up h s3
 ·rintro c σ H' ⟨sm,⟨bs,rfl,j⟩,_⟩
  have e:(as.take (as.map emb).length).filterMap f=as.filterMap f:=by rw[JW,Kv]
  rw[e]at j;exact he _ _ sm j
end
end L2
namespace L2
open PySem PySem.Spec PyProof.Rows QL PySem.Builtin PySem.Builtin.Str
section
variable {X:Cx}
def Ap:R2:=λx y H Q=>∃(r:KU) (n:Nat),x=.str (tx r)/\y=.int (n:Int)/\1<=n/\n<=1000/\r.length<=1000/\Q (.str (tx (List.replicate n r).flatten)) H
theorem xU(r:KU):∀n (a:KU),(List.replicate n (tx r).cps).foldl (· ++ ·) a.toArray=(a++(List.replicate n r).flatten).toArray
 |0,a=>by simp
 |n+1,a=>by
  rw[List.replicate_succ,List.foldl_cons,List.replicate_succ,List.flatten_cons];have:a.toArray++(tx r).cps=(a++r).toArray:=by show a.toArray++r.toArray=_;simp
  rw[this,xU r n (a++r),Kt]
theorem Cq:bd X (binaryOp .Mult) Ap:=by
 intro pins s σ H x y v u Q I rx ry h;obtain⟨r,n,rfl,rfl,n1,n2,hr,q⟩:=h;obtain⟨t,rfl⟩:=rx;obtain⟨t',rfl⟩:=ry;have hl:(tx r).length*n<=1000*1000:=by rw[ax];exact Nat.mul_le_mul hr n2
 refine P.mul_str ?_ (λ_ _=>?_) (λ_ _=>?_) ?_
 ·rw[q08 ⋯,q08 ⋯];rfl
 ·have h1:((tx r).length:Int)<=1000:=by rw[ax];omega
  have h2:(1000:Int)<=(2 ^ 63-1)/(n:Int):=by
   rw[Int.le_ediv_iff_mul_le ⋯];omega
  omega
 ·rw[J4]
  show decide (_>sizeLine)=false;rw[decide_eq_false_iff_not];have:=q0W;omega
 ·rw[q06 ⋯]
  split
  ·rename_i hc
   have e:tx (List.replicate n r).flatten=tx r:=by
    rcases(by simpa[ax]using hc:(n:Int)=1\/r=[]) with h | h
    ·have:n=1:=by omega
     subst this;simp
    ·subst h;simp
   rw[e]at q;exact⟨.str (tx r),H,I,⟨_,rfl⟩,q⟩
  ·rw[J4]
   have e:(⟨(List.replicate n (tx r).cps).foldl (· ++ ·) #[]⟩:Str)=tx (List.replicate n r).flatten:=by
    have:=xU r n [];rw[KJ]at this;show Str.mk _=Str.mk _;rw[<- this]
   rw[e];have hz:(tx (List.replicate n r).flatten).length<=1000000:=by
    rw[ax,tP,Nat.mul_comm];rw[ax]at hl;exact hl
   exact⟨ay hz,.str _,H,I.tok _,⟨_,rfl⟩,q⟩
end
theorem dY{H H':Hp}{l:Addr}{o:HO}(h:H l=none)(e:aE H l o=H'):aD H H'/\H' l=some o:=by subst e;exact⟨ar h,ag⟩
section
variable {prog:K2}{w:K5}{A:K4}{E:KQ}{s:KW}{d it:Addr}{od:Obj}{es:Array DictEntry}{ep i:Nat}
theorem CQ{Q:KQ}(ho:s.heap.get? d=some od)(hx:od.ExactDict)(hd:od.data=.dict es ep)(hm:(d==sysModules)=false)
  (q:Q (.ref s.heap.objs.size) {s with heap:=s.heap.push {cls:=.type "dict_keyiterator",data:=.fields #[.ref d,.int 0 0,.int es.size 0,.int ep 0]} }):wpAny (model prog w) A (pyIter (.ref d)) Q E s:=by
 have a:s.TypeIs (.ref d) "dict":=⟨od,ho,hx.1⟩;refine wpAny_pyIter_slot a PySem.F.slot_dict_iter (wpAny_call_entry PySem.F.slot_dict_iter a PySem.F.entry_dict_iter ?_ (PySem.F.args_dict_iter_1 _));unfold Builtin.«dict.__iter__» Builtin.Dict.dictSlotNone;refine q04 (q04 (wpAny_notOrdered_dict a (q05 ?_)));show wpAny _ _ (Builtin.Dict.showsAll d >>= _) _ _ s;have b:Builtin.Dict.showsAll d=pure ():=by unfold Builtin.Dict.showsAll;rw[hm];rfl
 rw[b];refine q04 (q05 (q04 (wpAny_dictEntries ho hd (q04 (wpAny_dictEpoch ho hd ?_)))));exact q04 (wpAny_newObj_type (q05 ⟨_,rfl,"dict_keyiterator",_,⟨_,J1 _ rfl,rfl⟩,PySem.F.slot_dict_keyiterator_next.lookup,by simpa[rawInt]using q⟩))
theorem Ck{e:DictEntry}{Q:Option Value->Shared->Prop}(hit:s.heap.IsKeyIter it d i es.size ep)(ho:s.heap.get? d=some od)(hd:od.data=.dict es ep)(hi:es[i]?=some e)
  (q:∀h',h'.IsKeyIter it d (i+1) es.size ep->Heap.SameBut it s.heap h'->Q (some e.key) {s with heap:=h' }):wpAny (model prog w) A (pyNext (.ref it)) Q E s:=by
 obtain⟨oi,c,j,a⟩:=id hit;have g:Builtin.Dict_items.ownsTuple "dict_keyiterator"=false:=by decide
 have k:¬ ((Value.ref d==Value.none)=true):=Ki;refine q04 (wpAny_attempt (wpAny_callSpecial?_slot (name:=Str.ofString "__next__") hit.typeIs PySem.F.slot_dict_keyiterator_next (wpAny_call_entry PySem.F.slot_dict_keyiterator_next hit.typeIs PySem.F.entry_dict_keyiterator_next ?_ (PySem.F.args_dict_keyiterator_next_1 _))));refine q04 (q05 (q04 (q04 (q04 (wpAny_typeNameOfWhole_keyiter hit.typeIs (q05 (q04 (wpAny_fieldsOf c a ?_))))))));simp only[g,q0a,if_false];show wpAny _ _ (if(Value.ref d==Value.none)=true then _ else _) _ _ s;rw[q06 k];refine q04 (q05 (q04 (wpAny_dictEntries ho hd ?_)));rw[q06 (by simp)];refine q04 (q05 (q04 (wpAny_dictEpoch ho hd ?_)));rw[q06 (by simp)];refine q05 ?_;have l:¬ ((i:Int)<0):=by omega
 simp only[l,if_false,J4,hi];refine q04 (q04 (wpAny_typeNameOfWhole_keyiter hit.typeIs (q05 (q04 (wpAny_isOneOf_keyiter hit.typeIs ?_)))));show wpAny _ _ (setField (.ref it) 1 (rawInt ((i:Int)+1)) >>= _) _ _ s;have b:(s.heap.update it (Obj.mapFields (·.setIfInBounds 1 (rawInt ((i:Int)+1))))).IsKeyIter it d (i+1) es.size ep:=⟨_,J5 _ c (Obj.isFreed_of_fields (Obj.data_mapFields a _)),(Obj.cls_mapFields ..).trans j,by rw[Obj.data_mapFields a];simp[rawInt]⟩;refine q04 (wpAny_setField c a (by simp) (q04 (q0Y (q04 (wpAny_isOneOf_keyiter (s:={s with heap:=s.heap.update it (Obj.mapFields (·.setIfInBounds 1 (rawInt ((i:Int)+1))))}) b.typeIs ?_)))));show wpAny _ _ (pure e.key) _ _ _;exact q05 (q05 ⟨_,rfl,q05 (q _ b (Heap.SameBut.update ..))⟩)
theorem EJ{Q:Option Value->Shared->Prop}(hh:A.handled=none)(hit:s.heap.IsKeyIter it d i es.size ep)(ho:s.heap.get? d=some od)(hd:od.data=.dict es ep)(hi:es.size<=i)
  (q:∀h',Heap.ExtBut it s.heap h'->Q none {s with heap:=h' }):wpAny (model prog w) A (pyNext (.ref it)) Q E s:=by
 obtain⟨oi,c,hci,e⟩:=id hit;have g:Builtin.Dict_items.ownsTuple "dict_keyiterator"=false:=by decide
 have j:¬ ((Value.ref d==Value.none)=true):=Ki;refine q04 (wpAny_attempt (wpAny_callSpecial?_slot (name:=Str.ofString "__next__") hit.typeIs PySem.F.slot_dict_keyiterator_next (wpAny_call_entry PySem.F.slot_dict_keyiterator_next hit.typeIs PySem.F.entry_dict_keyiterator_next ?_ (PySem.F.args_dict_keyiterator_next_1 _))));refine q04 (q05 (q04 (q04 (q04 (wpAny_typeNameOfWhole_keyiter hit.typeIs (q05 (q04 (wpAny_fieldsOf c e ?_))))))));simp only[g,q0a,if_false];show wpAny _ _ (if(Value.ref d==Value.none)=true then _ else _) _ _ s;rw[q06 j];refine q04 (q05 (q04 (wpAny_dictEntries ho hd ?_)));rw[q06 (by simp)];refine q04 (q05 (q04 (wpAny_dictEpoch ho hd ?_)));rw[q06 (by simp)];refine q05 ?_;have k:¬ ((i:Int)<0):=by omega
 simp only[k,if_false,J4,Array.getElem?_eq_none hi];refine q04 (q04 (wpAny_typeNameOfWhole_keyiter hit.typeIs (q05 ?_)));show wpAny _ _ (setField (.ref it) 0 .none >>= _) _ _ s;refine q04 (wpAny_setField c e (by simp) ?_);show wpAny _ _ (newExc (.type "StopIteration") [] >>= _) _ _ _;refine q04 ?_;simp only[newExc,newTuple];refine q04 (wpAny_newObj_type ?_ (by size_fits));refine q04 (m:=firstArgMember _ _) (wpAny_of_eq (a:=Value.none) (by first | rfl | (simp only[firstArgMember];rfl)) (wpAny_newObj_type ?_ (by size_fits)));simp only[raiseNew];refine q04 (wpAny_handled ?_);rw[show A.in1.handled=none from hh];refine q04 (q05 (wpAny_throw ?_));exact q04 (wpAny_isInstance (T:="StopIteration") (b:=true) ⟨_,J1 _ rfl,rfl⟩ isSubtype_stop (q05 (q _ (((Heap.SameBut.update ..).extBut.push _).push _))))
end
def AY(a:Addr)(od:Obj)(kvs:List (List cP×V)):It:=
 ⟨λi H=>H a=some (.frz od (.dT kvs))/\i<kvs.length,λi H x H'=>H'=H/\∃b kv,x=.ref b/\kvs[i]?=some kv/\H b=some (.tup (kv.1.map kV)),λi H=>H a=some (.frz od (.dT kvs))/\kvs.length<=i⟩
theorem ph{α β:Type}{F:α->β->Prop}{l₁:List α}{l₂:List β}(h:Paired F l₁ l₂):∀{i:Nat} {x:α},l₁[i]?=some x->∃y,l₂[i]?=some y/\F x y:=by
 induction h with
 |nil=>intro i x e;simp at e
 |cons r t ih=>
  intro i x e;cases i with
  |zero=>rw[List.getElem?_cons_zero]at e;cases e;exact⟨_,rfl,r⟩
  |succ i=>exact ih e
theorem kn{α β:Type}{F:α->β->Prop}{l₁:List α}{l₂:List β}(h:Paired F l₁ l₂):l₁.length=l₂.length:=by
 induction h with
 |nil=>rfl
 |cons r t ih=>exact q0R Nat.succ ih
theorem xm{P:K2}{w:K5}{H:Hp}{h:Heap}{a:Addr}{od:Obj}{kvs:List (List cP×V)}(ok:jf P w H h)(e:H a=some (.frz od (.dT kvs))):h.get? a=some od/\∃es ep,od.ExactDict/\od.data=.dict es ep/\es.size=kvs.length/\(a==sysModules)=false/\∀(i:Nat) kv,kvs[i]?=some kv->∃en b,es[i]?=some en/\en.key=.ref b/\H b=some (.tup (kv.1.map kV)):=by
 obtain⟨j,_,m,xs,d,o,es,ep,g,l,p,c,_⟩:=(show ci P w H h a (.frz od (.dT kvs)) from ok a _ e);rw[j]at g;cases g;refine⟨j,es,ep,l,p,?_,m,λi kv n=>?_⟩
 ·rw[<- Array.length_toList,c,JW,kn d]
 ·obtain⟨y,k,h1,h2,h3⟩:=ph d n
  refine⟨entryOfKey (tupleKind (cz P w)) y,y.2.1,?_,rfl,h2⟩;rw[<- q0G,c,JY,k];rfl
theorem CN{P:K2}{w:K5}{K:KR}{tg:Expr}(a it:Addr)(od:Obj)(kvs:List (List cP×V))(ep:Nat)(es:Array DictEntry)(hd:od.data=.dict es ep)(hn:es.size=kvs.length):sR P w K tg (AY a od kvs) [it] it (λi h=>h.IsKeyIter it a i es.size ep) where
 mem:=by simp
 obj:=λi h g b l=>by
  have e:b=it:=by simpa using l
  subst e;obtain⟨o,e,c,d⟩:=g;exact⟨o,e,λv z=>by rw[d]at z;cases z⟩
 keep:=λi h p g k=>by
  obtain⟨o,e,c,d⟩:=g;exact⟨o,k it (by simp) o e,c,d⟩
 item:=by
  intro X u q x M i j s σ H E I hf g hg;subst u q x;obtain⟨J,G,f2,D,C,B⟩:=hf it (by simp);obtain⟨y,r⟩:=hg;obtain⟨L,es',ep',hx',n,hn',hs',R⟩:=xm I.hok y;rw[hd]at n;cases n;obtain⟨en,b,h1,h2,S⟩:=R i _ (JT r);refine Ck g L hd h1 λp m O=>?_;have U:Inv X j σ H {s with heap:=p }:=I.turned (t':=s.toks) (λb o l e=>(O.2 b l).trans e) J G D C B;obtain⟨o,e,c,d⟩:=id m;exact⟨_,rfl,vp (s:={s with heap:=p }) e c d (by decide) ⟨.ref b,H,U,h2.symm▸rfl,⟨rfl,b,_,rfl,JT r,S⟩,m,λb l=>(hf b l).1⟩⟩
 done:=by
  intro X u q x M i j s σ H E I hf g hg;subst u q x;obtain⟨J,G,f2,D,C,B⟩:=hf it (by simp);obtain⟨y,r⟩:=hg;obtain⟨L,_⟩:=xm I.hok y;exact EJ (I.ok.hd M) g L hd ⋯ λp T=>⟨rfl,I.turned (t':=s.toks) (λb o l e=>T b o l e) J G D C B⟩
 self:=λA i s Q E g h=>wpAny_pyIter_keyiter g h
section
variable {X:Cx}{pins:KS}{σ:St}{H:Hp}{s:KW}
theorem Inv.freezeD(I:Inv X pins σ H s){a:Addr}{kvs:List (List cP×V)}(h:H a=some (.dT kvs)):∃o,Inv X pins σ (aE H a (.frz o (.dT kvs))) s:=by
 obtain⟨z,y,i,pr,o,es,ep,g,r⟩:=(show ci X.prog X.w H s.heap a (.dT kvs) from I.hok a _ h);refine⟨o,?_⟩;have d:∀b u,H b=some u->(∀ks,u≠.dT ks)->aE H a (.frz o (.dT kvs)) b=some u:=λb u e l=>by
  rw[av (λq=>by rw[q,h]at e;cases e;exact l _ rfl)];exact e
 have hok:jf X.prog X.w (aE H a (.frz o (.dT kvs))) s.heap:=λb u e=>by
  have j:∀{u:HO},ci X.prog X.w H s.heap b u->ci X.prog X.w (aE H a (.frz o (.dT kvs))) s.heap b u:=λq=>q.stay (λc v _ q=>q) (λc q=>d c _ q (by intro ks z;cases z)) λc i q=>d c _ q (by intro ks z;cases z)
  by_cases k:b=a
  ·subst k
   rw[ag]at e;cases e;exact⟨g,j (I.hok b _ h)⟩
  ·rw[av k]at e
   exact j (I.hok b u e)
 have un:Un X.fs [] H (aE H a (.frz o (.dT kvs))) s.heap s.heap:=⟨λb o e _ _ _=>e,λb o e _ _ _=>⟨o.slots,e⟩,λb o' _ n _=>by rw[av (λq=>by rw[q,h]at n;cases n)];exact n,λb o e _=>⟨o,e⟩,λb i e=>d b _ e (by intro ks z;cases z),λb o u e=>d b _ e (by intro ks z;cases z),λb ps e=>⟨#[],by rw[d b _ e (by intro ks z;cases z)];simp⟩⟩;exact I.un (h':=s.heap) (t':=s.toks) un hok
end
section
variable {X:Cx}{tg:Expr}
def GD(td:TE):TI:=λσ H R=>td σ H λx H1=>∃a kvs,x=.ref a/\((H1 a=some (.dT kvs)/\∀o,R (AY a o kvs) (aE H1 a (.frz o (.dT kvs))))\/∃o,H1 a=some (.frz o (.dT kvs))/\R (AY a o kvs) H1)
theorem D2{e:Expr}{td:TE}(he:PE X e td):PI X tg e (GD td):=by
 intro c s σ H R I h;refine cD (he c s σ H _ I h) λu j ⟨x,H1,l,m,a,d,y,q⟩=>?_;subst y;obtain rfl:u=Value.ref a:=m;obtain⟨o,H2,i,C,n⟩:∃o H2,Inv X c σ H2 j/\H2 a=some (.frz o (.dT d))/\R (AY a o d) H2:=by
  rcases q with⟨e,q⟩ | ⟨o,e,q⟩
  ·obtain⟨o,i⟩:=l.freezeD e
   exact⟨o,_,i,ag,q o⟩
  ·exact⟨o,H1,l,e,q⟩
 obtain⟨g,z,B,p,k,v,r,_⟩:=xm i.hok C;refine CQ g p k r ?_;refine⟨j.heap.objs.size,[j.heap.objs.size],_,_,H2,rfl,i.kept (t':=j.toks) λb o e=>JV _ e,CN a _ o d B z k v,⟨_,J1 _ rfl,rfl,rfl⟩,λb w=>?_,n⟩;have e:b=j.heap.objs.size:=by simpa using w
 subst e;exact i.fpOk (Kg _) (i.hok.fresh (Kg _))
end
section
variable {g:TG}{tb:TS}{D:gu}{σ:St}{H:Hp}
theorem xT{a:Addr}{o:Obj}{kvs:List (List cP×V)}(Pv:Nat->St->Hp->Prop)(h0:Pv 0 σ H)(hl:∀i σ H,i<=kvs.length->Pv i σ H->H a=some (.frz o (.dT kvs)))
  (hs:∀(i:Nat) b kv σ H,kvs[i]?=some kv->H b=some (.tup (kv.1.map kV))->Pv i σ H->g (.ref b) σ H λσ2 H2=>tb {D with nx:=Pv (i+1),ct:=Pv (i+1),bk:=D.nx} σ2 H2) (hd:∀σ H,Pv kvs.length σ H->D.nx σ H):ww (AY a o kvs) g tb D σ H:=by
 refine⟨λi m σ H=>m=kvs.length-i/\i<=kvs.length/\Pv i σ H,⟨kvs.length,by simp,Kh _,h0⟩,?_⟩;rintro i m σ H ⟨rfl,j,p⟩;have q:=hl i σ H j p
 by_cases c:i<kvs.length
 ·refine .inr ⟨⟨q,c⟩,Pv (i+1),λσ2 H2 w2=>⟨kvs.length-(i+1),⋯,rfl,c,w2⟩,λx H2 y=>?_⟩
  obtain⟨rfl,b,kv,rfl,d,k⟩:=y;exact hs i b kv σ _ d k p
 ·have e:i=kvs.length:=by omega
  subst e;exact .inl ⟨⟨q,Kg _⟩,hd _ _ p⟩
end
section
variable {prog:K2}{w:K5}{K:Type}[DecidableEq K]{knd:HeapKind prog w K}{A:K4}{E:KQ}{s:KW}
theorem DV{nm:String}{a b:Addr}{xa xb:List (K×Addr×Value)}{Q:Bool->Shared->Prop}(ha:(a==sysModules)=false)(hb:(b==sysModules)=false)(hu:knd.room A)
  (da:s.heap.DictOfH knd a xa) (db:s.heap.DictOfH knd b xb) (hl:xa.length=xb.length) (hits:∀(i:Nat) k p,xa[i]?=some (k,p)->∃(j:Nat) (q:Addr×Value),xb[j]?=some (k,q)/\SeqAt.EqAt A s p.2 q.2 true) (h:Q true s) :
  wpAny (model prog w) A (Builtin.Dict.samePairs nm a b) Q E s:=by
 obtain⟨oa,c,ep,d,_,g,D,T,hna⟩:=da;obtain⟨ob,z,ep',m,_,u,r,S,B⟩:=db;have O:c.size=xa.length:=size_of_entries D;have M:z.size=xb.length:=size_of_entries r;unfold Builtin.Dict.samePairs Builtin.Dict.showsAll;rw[q06 (show ¬ (a==sysModules)=true by rw[ha];exact Ki),q06 (show ¬ (b==sysModules)=true by rw[hb];exact Ki)];refine q04 (q05 (q04 (q05 ?_)));refine q04 (wpAny_dictEntries d g ?_);dsimp only;refine q04 (wpAny_dictEntries m u ?_);have L:c.size=z.size:=by rw[O,M,hl]
 rw[q06 (by rw[L];simp)];refine q04 (wpAny_dictEpoch d g ?_);refine q04 ?_;rw[Std.Legacy.Range.forIn_eq_forIn_range'];simp only[Std.Legacy.Range.size,Nat.sub_zero,Nat.add_sub_cancel,Nat.div_one];refine wpAny_forIn_list _
  (λbU q G=>G=s/\q=(none,())/\∃i,bU=List.range' i (c.size-i)/\i<=c.size)
  _ ?_ ?_ _ _ ⟨rfl,rfl,0,by simp,Kh _⟩
 ·rintro x bU q G ⟨rfl,rfl,i,hr,hi⟩
  have R:i<c.size:=by
   rcases Nat.lt_or_ge i c.size with h | h
   ·exact h
   ·rw[Nat.sub_eq_zero_of_le h]at hr;simp at hr
  obtain⟨rfl,l⟩:x=i/\bU=List.range' (i+1) (c.size-(i+1)):=by
   have e:c.size-i=(c.size-(i+1))+1:=by omega
   rw[e,List.range'_succ]at hr
   injection hr with h1 h2
   exact⟨h1,h2⟩
  refine q04 (wpAny_dictEntries d g ?_);obtain⟨⟨k,Y,v⟩,n⟩:∃y,xa[x]?=some y:=⟨xa[x]'⋯,JT _⟩;have U:c[x]?=some ⟨knd.hash k,.ref Y,v⟩:=by rw[entry_at D x,n];rfl
  rw[U];obtain⟨j,q,I,he⟩:=hits x k _ n;have C:knd.is G.heap k Y:=T _ (JZ n);show wpAny _ _ (holding [Value.ref Y,v] _ >>= _) _ _ _;refine q04 (q0Y (q04 (wpAny_dictFind_heap hu C m u r S B (λZ=>q0Q I (Z j q)) λJ p' o=>?_)));have ej:J=j:=idxH_unique B o I;subst ej;rw[I]at o;cases o;refine q04 (wpAny_dictEntries m u ?_);rw[show z[J]?=some ⟨knd.hash k,.ref q.1,q.2⟩ by rw[entry_at r J,I];rfl];refine q0Y (he prog w _ _ ?_);show wpAny _ _ (if(!true)=true then _ else _) _ _ _;rw[q06 (by decide)];refine q04 (wpAny_dictEpoch d g ?_);rw[q06 (by simp)];exact q05 ⟨rfl,rfl,x+1,l,R⟩
 ·rintro q G ⟨rfl,rfl,i,hr,hi⟩
  exact q05 h
theorem Iy{a b:Addr}{xa xb:List (K×Addr×Value)}{Q:KQ}(ha:(a==sysModules)=false)(hb:(b==sysModules)=false)(hr:knd.room A.in1)
  (da:s.heap.DictOfH knd a xa) (db:s.heap.DictOfH knd b xb) (hu:A.units<cLine) (hl:xa.length=xb.length) (hits:∀(i:Nat) k p,xa[i]?=some (k,p)->∃(j:Nat) (q:Addr×Value),xb[j]?=some (k,q)/\SeqAt.EqAt A.in1 s p.2 q.2 true) (h:Q (.bool true) s) :
  wpAny (model prog w) A (compareOp .Eq (.ref a) (.ref b)) Q E s:=by
 refine wpAny_richCompare_same_room (op:=.Eq) da.typeIs db.typeIs PySem.F.slot_dict_eq (wpAny_call_entry PySem.F.slot_dict_eq da.typeIs PySem.F.entry_dict_eq ?_ (PySem.F.args_dict_eq_2 _ _)) hu;show wpAny _ _ (Builtin.Dict.dictSlotArgs "__eq__" ⟨[.ref a,.ref b],[]⟩ >>= _) _ _ s;refine q04 ?_;unfold Builtin.Dict.dictSlotArgs;refine q04 (wpAny_notOrdered_dict da.typeIs ?_);show wpAny _ _ (pure (Value.ref a,Value.ref b)) _ _ s;refine q05 ?_;refine q04 (wpAny_isInstance (T:="dict") db.typeIs PySem.F.sub_dict_dict ?_);simp only[Bool.not_true,q0a,if_false];refine q04 (q05 (q04 (q05 ?_)));refine q04 (DV ha hb hr da db hl hits ?_);refine q05 ⟨_,rfl,?_,?_⟩
 ·exact λx=>nomatch x
 ·simpa using h
theorem Jr{a b:Addr}{xa xb:List (K×Addr×Value)}{Q:KQ}(ha:(a==sysModules)=false)(hb:(b==sysModules)=false)(hr:knd.room A.in1)
  (da:s.heap.DictOfH knd a xa) (db:s.heap.DictOfH knd b xb) (hu:A.units<cLine) (hl:xa.length=xb.length) (hits:∀(i:Nat) k p,xa[i]?=some (k,p)->∃(j:Nat) (q:Addr×Value),xb[j]?=some (k,q)/\SeqAt.EqAt A.in1 s p.2 q.2 true) (h:Q (.bool false) s) :
  wpAny (model prog w) A (compareOp .NotEq (.ref a) (.ref b)) Q E s:=by
 refine wpAny_richCompare_same_room (op:=.NotEq) da.typeIs db.typeIs PySem.F.slot_dict_ne (wpAny_call_entry PySem.F.slot_dict_ne da.typeIs PySem.F.entry_dict_ne ?_ (PySem.F.args_dict_ne_2 _ _)) hu;show wpAny _ _ (Builtin.Dict.dictSlotArgs "__ne__" ⟨[.ref a,.ref b],[]⟩ >>= _) _ _ s;refine q04 ?_;unfold Builtin.Dict.dictSlotArgs;refine q04 (wpAny_notOrdered_dict da.typeIs ?_);show wpAny _ _ (pure (Value.ref a,Value.ref b)) _ _ s;refine q05 ?_;refine q04 (wpAny_isInstance (T:="dict") db.typeIs PySem.F.sub_dict_dict ?_);simp only[Bool.not_true,q0a,if_false];refine q04 (q05 (q04 (q05 ?_)));refine q04 (DV ha hb hr da db hl hits ?_);refine q05 ⟨_,rfl,?_,?_⟩
 ·exact λx=>nomatch x
 ·simpa using h
end
section
variable {X:Cx}
structure F8(H:Hp)(a b:Addr)(kvs kvs':List (List cP×V)):Prop where
 da:Rd H a (.dT kvs)
 db:Rd H b (.dT kvs')
 len:kvs.length=kvs'.length
 all:∀(i:Nat) k v,kvs[i]?=some (k,v)->u7 v=true/\∃j:Nat,kvs'[j]?=some (k,v)
theorem F8.hits{P:K2}{w:K5}{H:Hp}{A:K4}{s:KW}{a b:Addr}{kvs kvs':List (List cP×V)}{xa xb:List (List cP×Addr×Value)}(d:F8 H a b kvs kvs')(ra:KT H kvs xa)(rb:KT H kvs' xb):xa.length=xb.length/\∀(i:Nat) k p,xa[i]?=some (k,p)->∃(j:Nat) (q:Addr×Value),xb[j]?=some (k,q)/\SeqAt.EqAt A s p.2 q.2 true:=by
 refine⟨by rw[<- kn ra,<- kn rb];exact d.len,λi k p l=>?_⟩;obtain⟨c,e⟩:∃c,kvs[i]?=some c:=by
  have:=(JU.mp l).1;rw[<- kn ra]at this;exact⟨_,JT this⟩
 obtain⟨y,g,h1,_,h2⟩:=ph ra e;rw[l]at g;cases g;obtain⟨f,j,n⟩:=d.all i c.1 c.2 e;obtain⟨z,m,r,_,o⟩:=ph rb n;refine⟨j,z.2,by rw[m,show k=z.1 from(show c.1=k from h1).symm.trans r],?_⟩;have:=ie (A:=A) (s:=s) (show bK c.2 p.2 from h2) (show bK c.2 z.2.2 from o) f f
 rwa [Af f]at this
def CA(neg:Bool):R2:=λx y H Q=>∃a b kvs kvs',x=.ref a/\y=.ref b/\F8 H a b kvs kvs'/\Q (.bl (!neg)) H
theorem Ea(hu:X.A.units+64<cLine):bd X (compareOp .Eq) (CA false):=by
 intro pins s σ H x y v u Q I rx ry h;obtain⟨a,b,kvs,kvs',rfl,rfl,d,q⟩:=h;cases rx;cases ry
 obtain⟨_,i,xa,e,da⟩:=ju I.hok d.da;obtain⟨_,g,xb,c,db⟩:=ju I.hok d.db;obtain⟨j,k⟩:=d.hits (P:=X.prog) (w:=X.w) (A:=X.A.in1) (s:=s) e c;exact Iy i g (tupleKind_room_in1 ⋯) da db ⋯ j k ⟨.bl true,H,I,rfl,q⟩
theorem Ec(hu:X.A.units+64<cLine):bd X (compareOp .NotEq) (CA true):=by
 intro pins s σ H x y v u Q I rx ry h;obtain⟨a,b,kvs,kvs',rfl,rfl,d,q⟩:=h;cases rx;cases ry
 obtain⟨_,i,xa,e,da⟩:=ju I.hok d.da;obtain⟨_,g,xb,c,db⟩:=ju I.hok d.db;obtain⟨j,k⟩:=d.hits (P:=X.prog) (w:=X.w) (A:=X.A.in1) (s:=s) e c;exact Jr i g (tupleKind_room_in1 ⋯) da db ⋯ j k ⟨.bl false,H,I,rfl,q⟩
end
end L2
namespace TS
open PySem PyProof.Rows
section
variable {M:Model}{A:K4}{E:KQ}{J:Shared->Prop}{σ:Type}
def fu(M:Model)(A:K4)(E:KQ)(J:Shared->Prop){α:Type}(m:StateT σ Sem α)(Q:α->σ->Prop)(st:σ):Prop:=
 ∀s,J s->wpAny M A (m.run st) (λr s'=>J s'/\Q r.1 r.2) E s
theorem aF{α:Type}{a:α}{Q:α->σ->Prop}{st:σ}(h:Q a st):fu M A E J (pure a:StateT σ Sem α) Q st:=by
 intro s j;rw[StateT.run_pure];exact q05 ⟨j,h⟩
theorem aA{α β:Type}{m:StateT σ Sem α}{f:α->StateT σ Sem β}{Q:β->σ->Prop}{st:σ}
  (h:fu M A E J m (λa st'=>fu M A E J (f a) Q st') st):fu M A E J (m >>= f) Q st:=by
 intro s j;rw[StateT.run_bind]
 exact q04 (q0X (h s j) (λr c b=>b.2 c b.1) λ_ _ e=>e)
theorem bV{α:Type}{m:StateT σ Sem α}{Q Q':α->σ->Prop}{st:σ}(h:fu M A E J m Q st)(hq:∀a st',Q a st'->Q' a st'):fu M A E J m Q' st:=
 λs j=>q0X (h s j) (λr _ h'=>⟨h'.1,hq _ _ h'.2⟩) λ_ _ e=>e
theorem gN{Q:σ->σ->Prop}{st:σ}(h:Q st st):fu M A E J (get:StateT σ Sem σ) Q st:=by
 intro s j;rw[StateT.run_get];exact q05 ⟨j,h⟩
theorem dj{f:σ->σ}{Q:PUnit->σ->Prop}{st:σ}(h:Q ⟨⟩ (f st)):fu M A E J (modify f:StateT σ Sem PUnit) Q st:=by
 intro s j;rw[StateT.run_modify];exact q05 ⟨j,h⟩
theorem FF{x:σ}{Q:PUnit->σ->Prop}{st:σ}(h:Q ⟨⟩ x):fu M A E J (set x:StateT σ Sem PUnit) Q st:=by
 intro s j;rw[StateT.run_set];exact q05 ⟨j,h⟩
theorem jz{α:Type}{m:Sem α}{Q:α->σ->Prop}{st:σ}(h:∀s,J s->wpAny M A m (λa s'=>J s'/\Q a st) E s) :
  fu M A E J (liftM m:StateT σ Sem α) Q st:=by
 intro s j;show wpAny M A ((StateT.lift m:StateT σ Sem α).run st) _ E s;rw[StateT.run_lift];exact q04 (q0X (h s j) (λa s' b=>q05 b) λ_ _ e=>e)
theorem BU{β:Type}(f:Nat->β->StateT σ Sem (ForInStep β))(I:List Nat->β->σ->Prop)(Q:β->σ->Prop)
  (hs:∀x bU b st,I (x::bU) b st->fu M A E J (f x b) (λr st'=>match r with | .done b'=>Q b' st' | .yield b'=>I bU b' st') st)
  (he:∀b st,I [] b st->Q b st):∀(l:KU) (b:β) (st:σ),I l b st->fu M A E J (forIn l b f) Q st
 | [],b,st,h=>by rw[List.forIn_nil];exact aF (he _ _ h)
 |x::bU,b,st,h=>by
  rw[List.forIn_cons];refine aA (bV (hs x bU b st h) λr st' h'=>?_);cases r with
  |done b'=>exact aF h'
  |yield b'=>exact BU f I Q hs he bU b' st' h'
theorem eQ{β:Type}{a b:Nat}{f:Nat->β->StateT σ Sem (ForInStep β)}(I:Nat->β->σ->Prop){Q:β->σ->Prop}
  (hs:∀i c st,a<=i->i<b->I i c st->fu M A E J (f i c) (λr st'=>match r with | .done c'=>Q c' st' | .yield c'=>I (i+1) c' st') st)
  (he:∀c st,I (max a b) c st->Q c st) {c:β} {st:σ} (h:I a c st):fu M A E J (forIn [a:b] c f) Q st:=by
 rw[Std.Legacy.Range.forIn_eq_forIn_range'];have o:([a:b]:Std.Legacy.Range).size=b-a:=by simp[Std.Legacy.Range.size]
 show fu M A E J (forIn (List.range' a ([a:b]:Std.Legacy.Range).size 1) c f) Q st;rw[o];refine BU f (λl c st=>∃n,l.length=n/\∃i,a<=i/\l=List.range' i n 1/\i+n=max a b/\I i c st) Q ?_ ?_ _ c st ⟨b-a,by simp,a,Kg _,rfl,⋯,h⟩
 ·rintro x bU c st ⟨n,e,i,d,g,j,k⟩
  cases n with
  |zero=>simp at e
  |succ n=>
   rw[List.range'_succ]at g;obtain⟨rfl,rfl⟩:=List.cons.inj g;refine bV (hs x c st d ⋯ k) λr st' m=>?_;cases r with
   |done c'=>exact m
   |yield c'=>exact⟨n,by simp,x+1,⋯,rfl,⋯,m⟩
 ·rintro c st ⟨n,e,i,d,g,j,k⟩
  simp at e;subst e
  have:i=max a b:=by omega
  subst this;exact he _ _ k
end
section
variable {prog:K2}{w:K5}{A:K4}{E:KQ}{J:Shared->Prop}{a₀:Array Keyed}{kd:SortKind}{r:Keyed->Nat}
def pG(prog:K2)(w:K5)(A:K4)(J:Shared->Prop)(a₀:Array Keyed)(kd:SortKind)(r:Keyed->Nat):Prop:=
 ∀x,x∈a₀.toList->∀y,y∈a₀.toList->∀s,J s->wpAny (model prog w) A (keyLt' kd x.1 y.1) (λb s'=>J s'/\b=decide (r x<r y)) (λ_ _=>False) s
theorem zX(C:pG prog w A J a₀ kd r){x y:Keyed}(hx:x∈a₀.toList)(hy:y∈a₀.toList){st:SortSt}(hk:kindOf st=kd){Q:Option Bool->SortSt->Prop}
  (h:Q (some (decide (r x<r y))) st):fu (model prog w) A E J (lt' x y) Q st:=by
 rw[lt'_eq];refine aA (gN ?_);rw[hk];refine aA (jz λs j=>wpAny_attempt (q0X (C x hx y hy s j) (λb s' c=>?_) λ_ _ e=>?_))
 ·obtain⟨a,rfl⟩:=c;exact⟨a,aF h⟩
 ·exact e.elim
theorem cI{arr:Array Keyed}{i:Nat}{p:Keyed}(hp:arr[i]?=some p){st:SortSt}{Q:Keyed->SortSt->Prop}(h:Q p st):fu (model prog w) A E J (elem' arr i) Q st:=by
 rw[elem'_eq,hp];exact aF h
def ij:Bool->Keyed->Array Keyed->Nat->Nat->Nat->StateT SortSt Sem (Option Nat):=sortPriv% PySem.Builtin.gallop
theorem uc{n lo hi:Nat}{st:SortSt}{Q:Option Nat->SortSt->Prop}{B:Nat->Bool}{bey:Nat->StateT SortSt Sem (Option Bool)}
  (be:∀i,i<n->∀{Q':Option Bool->SortSt->Prop},Q' (some (B i)) st->fu (model prog w) A E J (bey i) Q' st)
  (hm:∀i j,i<=j->j<n->B j=true->B i=true) (hl:lo<=hi) (hh:hi<=n) (fl:∀i,i<lo->B i=true) (fh:∀i,hi<=i->i<n->B i=false)
  (h:∀k,k<=n->(∀i,i<k->B i=true)->(∀i,k<=i->i<n->B i=false)->Q (some k) st)
  {F:Nat->Option (Option Nat)×Nat×Nat->StateT SortSt Sem (ForInStep (Option (Option Nat)×Nat×Nat))}
  (hF:∀x l u,F x (none,l,u)=if l≥u then pure (ForInStep.done (none,l,u)) else bey (l+(u-l)/2) >>= λo=>match o with
   |some t=>if t=true then pure (ForInStep.yield (none,l+(u-l)/2+1,u)) else pure (ForInStep.yield (none,l,l+(u-l)/2))
   |none=>pure (ForInStep.done (some none,l,u)))
  {G:Option (Option Nat)×Nat×Nat->StateT SortSt Sem (Option Nat)} (hG:∀l u,G (none,l,u)=pure (some u)) :
  fu (model prog w) A E J (forIn [0:n] (none,lo,hi) F >>= G) Q st:=by
 refine aA (bV (eQ (I:=λx c a=>a=st/\∃l u,c=(none,l,u)/\l<=u/\u<=n/\u-l<=n-x/\(∀i,i<l->B i=true)/\(∀i,u<=i->i<n->B i=false))
  (Q:=λc a=>a=st/\∃l u,c=(none,l,u)/\u<=n/\(∀i,i<u->B i=true)/\(∀i,u<=i->i<n->B i=false)) ?s ?e ⟨rfl,lo,hi,rfl,hl,hh,⋯,fl,fh⟩) ?p)
 case e=>
  rintro c a ⟨rfl,l,u,rfl,h1,h2,z,d,b⟩;exact⟨rfl,l,u,rfl,h2,λi g=>d i ⋯,b⟩
 case s=>
  rintro x c a _ hxn ⟨rfl,l,u,rfl,h1,h2,z,d,b⟩;rw[hF]
  by_cases m:l≥u
  ·rw[q07 m];exact aF ⟨rfl,l,u,rfl,h2,λi g=>d i ⋯,b⟩
  ·rw[q06 m]
   refine aA (be (l+(u-l)/2) ⋯ ?_);dsimp only
   by_cases q:B (l+(u-l)/2)=true
   ·rw[q07 q];exact aF ⟨rfl,_,u,rfl,⋯,h2,⋯,λi g=>hm i _ ⋯ ⋯ q,b⟩
   ·rw[q06 q]
    refine aF ⟨rfl,l,_,rfl,⋯,⋯,⋯,d,λi v r=>?_⟩;cases y:B i with
    |false=>rfl
    |true=>exact q0Q (hm _ i v r y) q
 case p=>
  rintro c a ⟨rfl,l,u,rfl,h2,d,b⟩;rw[hG];exact aF (h u h2 d b)
theorem zZ{left:Bool}{key:Keyed}{arr:Array Keyed}{base n hint:Nat}{st:SortSt}{Q:Option Nat->SortSt->Prop}{B:Nat->Bool}(C:pG prog w A J a₀ kd r)(hk:kindOf st=kd)
  (hkey:key∈a₀.toList) (hi:hint<n) (hx:∀i,i<n->∃x,arr[base+i]?=some x/\x∈a₀.toList/\B i=if left then decide (r x<r key) else !decide (r key<r x))
  (hm:∀i j,i<=j->j<n->B j=true->B i=true)
  (h:∀k,k<=n->(∀i,i<k->B i=true)->(∀i,k<=i->i<n->B i=false)->Q (some k) st) :
  fu (model prog w) A E J (ij left key arr base n hint) Q st:=by
 have G:∀i,i<n->∀{L:Option Bool->SortSt->Prop},L (some (B i)) st->fu (model prog w) A E J (do
   let x <- elem' arr (base+i)
   if left=true then lt' x key else do
    let y <- lt' key x
    pure (y.map (!·))) L st:=by
  intro i hi L q;obtain⟨x,e,m,b⟩:=hx i hi;refine aA (cI e ?_);cases left with
  |true=>rw[q07 rfl]at b ⊢;exact zX C m hkey hk (by rw[<- b];exact q)
  |false=>
   rw[q06 (by decide)]at b ⊢;exact aA (zX C hkey m hk (aF (by show L (some (!decide _)) st;rw[<- b];exact q)))
 unfold ij;refine aA (G hint hi ?_);dsimp only
 by_cases S:B hint=true
 ·rw[q07 S]
  refine aA (bV (eQ (I:=λx c a=>a=st/\∃l o,c=(none,l,o)/\l<o/\x+1<=o/\hint+l<n/\B (hint+l)=true)
   (Q:=λc a=>a=st/\∃l o,c=(none,l,o)/\l<o/\hint+l<n/\B (hint+l)=true/\(n-hint<=o\/B (hint+o)=false)) ?s1 ?e1 ⟨rfl,0,1,rfl,⋯,⋯,⋯,S⟩) ?p1)
  case e1=>
   rintro c a ⟨rfl,l,o,rfl,h1,h2,p,g⟩;exact⟨rfl,l,o,rfl,h1,p,g,.inl ⋯⟩
  case s1=>
   rintro x c a _ O ⟨rfl,l,o,rfl,h1,h2,p,g⟩;dsimp only
   by_cases d:o≥n-hint
   ·rw[q07 d];exact aF ⟨rfl,l,o,rfl,h1,p,g,.inl d⟩
   ·rw[q06 d]
    refine aA (G (hint+o) ⋯ ?_);dsimp only
    by_cases D:B (hint+o)=true
    ·rw[D,q06 (by decide)];exact aF ⟨rfl,o,2*o+1,rfl,⋯,⋯,⋯,D⟩
    ·have v:B (hint+o)=false:=by cases z:B (hint+o)<;>simp_all
     rw[v,q07 (by decide)];exact aF ⟨rfl,l,o,rfl,h1,p,g,.inr v⟩
  case p1=>
   rintro c a ⟨rfl,l,o,rfl,h1,p,g,h5⟩;dsimp only;have T:∀i,i<hint+l+1->B i=true:=λi hi'=>hm i (hint+l) ⋯ p g;have U:∀i,hint+min o (n-hint)<=i->i<n->B i=false:=by
    intro i Y M;rcases h5 with h5 | h5
    ·omega
    ·cases z:B i with
     |false=>rfl
     |true=>exact q0Q (hm (hint+o) i ⋯ M z) (by rw[h5];decide)
   exact uc G hm ⋯ ⋯ T U h (λx l u=>ite_congr rfl (λ_=>rfl) λ_=>q0R _ (funext λo=>by cases o<;>rfl)) (λl u=>rfl)
 ·have R:B hint=false:=by cases z:B hint<;>simp_all
  rw[q06 S];refine aA (bV (eQ (I:=λx c a=>a=st/\∃l o,c=(none,l,o)/\l<o/\x+1<=o/\l<=hint/\B (hint-l)=false)
   (Q:=λc a=>a=st/\∃l o,c=(none,l,o)/\l<o/\l<=hint/\B (hint-l)=false/\(hint+1<=o\/(o<=hint/\B (hint-o)=true))) ?s2 ?e2 ⟨rfl,0,1,rfl,⋯,⋯,⋯,R⟩) ?p2)
  case e2=>
   rintro c a ⟨rfl,l,o,rfl,h1,h2,p,g⟩;exact⟨rfl,l,o,rfl,h1,p,g,.inl ⋯⟩
  case s2=>
   rintro x c a _ O ⟨rfl,l,o,rfl,h1,h2,p,g⟩;dsimp only
   by_cases d:o≥hint+1
   ·rw[q07 d];exact aF ⟨rfl,l,o,rfl,h1,p,g,.inl d⟩
   ·rw[q06 d]
    refine aA (G (hint-o) ⋯ ?_);dsimp only
    by_cases D:B (hint-o)=true
    ·rw[q07 D];exact aF ⟨rfl,l,o,rfl,h1,p,g,.inr ⟨⋯,D⟩⟩
    ·have v:B (hint-o)=false:=by cases z:B (hint-o)<;>simp_all
     rw[q06 D];exact aF ⟨rfl,o,2*o+1,rfl,⋯,⋯,⋯,v⟩
  case p2=>
   rintro c a ⟨rfl,l,o,rfl,h1,p,g,h5⟩;dsimp only;have T:∀i,i<hint+1-min o (hint+1)->B i=true:=by
    intro i Y;rcases h5 with h5 | ⟨h5,Z⟩
    ·omega
    ·exact hm i (hint-o) ⋯ ⋯ Z
   have U:∀i,hint-l<=i->i<n->B i=false:=by
    intro i Y M;cases z:B i with
    |false=>rfl
    |true=>exact q0Q (hm (hint-l) i ⋯ M z) (by rw[g];decide)
   exact uc G hm ⋯ ⋯ T U h (λx l u=>ite_congr rfl (λ_=>rfl) λ_=>q0R _ (funext λo=>by cases o<;>rfl)) (λl u=>rfl)
end
structure MI{α:Type}(le:α->α->Prop)(X Y out rx ry:List α):Prop where
 ex:∃px py,X=px++rx/\Y=py++ry/\out.Perm (px++py)
 so:out.Pairwise le
 ah:∀p,p∈out->∀q,q∈rx++ry->le p q
namespace MI
variable {α:Type}{le:α->α->Prop}{X Y out rx ry:List α}
theorem start(X Y:List α):MI le X Y [] X Y:=⟨⟨[],[],rfl,rfl,List.Perm.refl _⟩,.nil,λp h=>nomatch h⟩
theorem swap(h:MI le X Y out rx ry):MI le Y X out ry rx:=by
 obtain⟨⟨d,c,j,i,g⟩,s,a⟩:=h;exact⟨⟨c,d,i,j,g.trans List.perm_append_comm⟩,s,λp e q b=>a p e q (by rw[J8]at b ⊢;exact b.symm)⟩
theorem takeX{c rx':List α}(h:MI le X Y out (c++rx') ry)(sX:X.Pairwise le)(hc:∀p,p∈c->∀q,q∈ry->le p q):MI le X Y (out++c) rx' ry:=by
 obtain⟨⟨d,i,e,k,j⟩,s,a⟩:=h;rw[e]at sX;have g:=(List.pairwise_append.mp sX).2.1;have b:=List.pairwise_append.mp g;refine⟨⟨d++c,i,by rw[e,Kt],k,?_⟩,List.pairwise_append.mpr ⟨s,b.1,λp hp q hq=>a p hp q (by simp[hq])⟩,λp hp q hq=>?_⟩
 ·refine(j.append_right c).trans ?_
  rw[Kt,Kt];exact List.perm_append_comm.append_left d
 ·rcases J8.mp hp with hp | hp
  ·exact a p hp q (by rcases J8.mp hq with hq | hq<;>simp[hq])
  ·rcases J8.mp hq with hq | hq
   ·exact b.2.2 p hp q hq
   ·exact hc p hp q hq
theorem takeY{c ry':List α}(h:MI le X Y out rx (c++ry'))(sY:Y.Pairwise le)(hc:∀p,p∈c->∀q,q∈rx->le p q):MI le X Y (out++c) rx ry':=
 (h.swap.takeX sY hc).swap
theorem oneX{x:α}{rx':List α}(h:MI le X Y out (x::rx') ry)(sX:X.Pairwise le)(hc:∀q,q∈ry->le x q):MI le X Y (out++[x]) rx' ry:=
 takeX (c:=[x]) h sX λp hp q hq=>by rw[JX]at hp;subst hp;exact hc q hq
theorem oneY{y:α}{ry':List α}(h:MI le X Y out rx (y::ry'))(sY:Y.Pairwise le)(hc:∀q,q∈rx->le y q):MI le X Y (out++[y]) rx ry':=
 takeY (c:=[y]) h sY λp hp q hq=>by rw[JX]at hp;subst hp;exact hc q hq
theorem len(h:MI le X Y out rx ry):out.length+rx.length+ry.length=X.length+Y.length:=by
 obtain⟨⟨px,py,c,b,a⟩,_,_⟩:=h;have:=a.length_eq;rw[c,b];simp at this ⊢;omega
theorem fin{l:List α}(h:MI le X Y out rx ry)(hp:l.Perm (rx++ry))(hs:l.Pairwise le):(out++l).Pairwise le/\(out++l).Perm (X++Y):=by
 obtain⟨⟨b,py,e,d,c⟩,s,a⟩:=h;refine⟨List.pairwise_append.mpr ⟨s,hs,λp h1 q h2=>a p h1 q (hp.mem_iff.mp h2)⟩,?_⟩;rw[e,d];refine(c.append hp).trans ?_;rw[Kt,Kt];refine List.Perm.append_left b ?_;rw[<- Kt,<- Kt];exact List.perm_append_comm.append_right ry
theorem finX(h:MI le X Y out rx [])(sX:X.Pairwise le):(out++rx).Pairwise le/\(out++rx).Perm (X++Y):=by
 obtain⟨px,py,a,_,_⟩:=h.ex;exact h.fin (by rw[Ks]) (by rw[a]at sX;exact(List.pairwise_append.mp sX).2.1)
theorem finY(h:MI le X Y out [] ry)(sY:Y.Pairwise le):(out++ry).Pairwise le/\(out++ry).Perm (X++Y):=by
 obtain⟨px,py,_,a,_⟩:=h.ex;exact h.fin (by rw[KJ]) (by rw[a]at sY;exact(List.pairwise_append.mp sY).2.1)
theorem lastX{x:α}(h:MI le X Y out [x] ry)(sY:Y.Pairwise le)(hx:∀q,q∈ry->le q x):(out++(ry++[x])).Pairwise le/\(out++(ry++[x])).Perm (X++Y):=by
 obtain⟨px,py,_,c,_⟩:=h.ex;refine h.fin List.perm_append_comm ?_;rw[c]at sY;exact List.pairwise_append.mpr ⟨(List.pairwise_append.mp sY).2.1,List.pairwise_singleton _ _,λp b q a=>by rw[JX]at a;subst a;exact hx p b⟩
end MI
theorem x_{α:Type}(a:Array α)(i:Nat):(a.extract i a.size).toList=a.toList.drop i:=by
 rw[Array.toList_extract];simp[List.extract];exact q0F (by simp)
theorem m_{α:Type}(a:Array α)(i k:Nat):(a.extract i (i+k)).toList=(a.toList.drop i).take k:=by
 rw[Array.toList_extract];simp[List.extract]
theorem gb{α:Type}(a:Array α){i:Nat}(h:i<a.toList.length):∃x,a[i]?=some x/\a.toList.drop i=x::a.toList.drop (i+1)/\x∈a.toList:=by
 refine⟨a.toList[i],?_,q0T h,J3 h⟩;rw[<- q0G,JT h]
def SG(st st':SortSt):Prop:=kindOf st'=kindOf st/\arrOf st'=arrOf st/\pendingOf st'=pendingOf st/\failedOf st'=failedOf st
theorem SG.refl(st:SortSt):SG st st:=⟨rfl,rfl,rfl,rfl⟩
abbrev PA:=Array Keyed
abbrev SM:=StateT SortSt Sem
abbrev gW(r:Keyed->Nat):Keyed->Keyed->Prop:=λp q=>r p<=r q
def vq:PA->PA->SM PA:=sortPriv% PySem.Builtin.mergeLo
def lH:Nat->SM Unit:=sortPriv% PySem.Builtin.setMinGallop
abbrev L1:=Option PA×PA×Nat×Nat×Nat×Nat
abbrev F9:=Option PA×PA×Nat×Nat×Nat×Nat×Nat
abbrev L0:=Option PA×PA×Nat×Nat×Nat
abbrev BD(a b:PA)(o:PA)(i j:Nat):PA:=o++a.extract i a.size++b.extract j b.size
abbrev E6(a b:PA)(o:PA)(i j:Nat):PA:=o++b.extract j b.size++a.extract i a.size
def GZ(a b:PA)(g:Nat)(o:PA)(i j m n:Nat):SM (ForInStep L1):=
 elem' b j >>= λy=>elem' a i >>= λx=>lt' y x >>= λt=>match t with
 |some t=>if t=true then elem' b j >>= λy=>
   if(j+1==b.size)=true then pure (.done (some (BD a b (o.push y) i (j+1)),o.push y,i,j+1,0,n+1))
   else if n+1≥g then pure (.done (none,o.push y,i,j+1,0,n+1)) else pure (.yield (none,o.push y,i,j+1,0,n+1))
  else elem' a i >>= λx=>
   if(i+1+1==a.size)=true then pure (.done (some (E6 a b (o.push x) (i+1) j),o.push x,i+1,j,m+1,0))
   else if m+1≥g then pure (.done (none,o.push x,i+1,j,m+1,0)) else pure (.yield (none,o.push x,i+1,j,m+1,0))
 |_=>pure (.done (some (BD a b o i j),o,i,j,m,n))
def F7(a b:PA)(o:PA)(i j g m n:Nat):SM (ForInStep F9):=
 elem' a i >>= λx=>if(i+1+1==a.size)=true then pure (.done (some (E6 a b (o.push x) (i+1) j),o.push x,i+1,j,g,m,n))
  else if(decide (m<7)&&decide (n<7))=true then pure (.done (none,o.push x,i+1,j,g,m,n)) else pure (.yield (none,o.push x,i+1,j,g,m,n))
def F6(a b:PA)(o:PA)(i j g m n:Nat):SM (ForInStep F9):=
 elem' b j >>= λy=>if(j+1==b.size)=true then pure (.done (some (BD a b (o.push y) i (j+1)),o.push y,i,j+1,g,m,n))
  else elem' a i >>= λx=>ij true x b (j+1) (b.size-(j+1)) 0 >>= λt=>match t with
  |some k=>if k>0 then
    if(j+1+k==b.size)=true then pure (.done (some (BD a b (o.push y++b.extract (j+1) (j+1+k)) i (j+1+k)),o.push y++b.extract (j+1) (j+1+k),i,j+1+k,g,m,k))
    else F7 a b (o.push y++b.extract (j+1) (j+1+k)) i (j+1+k) g m k
   else F7 a b (o.push y) i (j+1) g m k
  |_=>pure (.done (some (BD a b (o.push y) i (j+1)),o.push y,i,j+1,g,m,n))
def Fq(a b:PA)(o:PA)(i j g m n:Nat):SM (ForInStep F9):=
 lH g >>= λ_=>elem' b j >>= λy=>ij false y a i (a.size-i) 0 >>= λt=>match t with
  |some k=>if k>0 then
    if(i+k+1==a.size)=true then pure (.done (some (E6 a b (o++a.extract i (i+k)) (i+k) j),o++a.extract i (i+k),i+k,j,g,k,n))
    else if(i+k==a.size)=true then pure (.done (some (BD a b (o++a.extract i (i+k)) (i+k) j),o++a.extract i (i+k),i+k,j,g,k,n))
    else F6 a b (o++a.extract i (i+k)) (i+k) j g k n
   else F6 a b o i j g k n
  |_=>pure (.done (some (BD a b o i j),o,i,j,g,m,n))
def G2(a b:PA)(s:L0):SM (ForInStep L0):=
 forIn [0:a.size+b.size] ((none,s.2.1,s.2.2.1,s.2.2.2.1,0,0):L1) (λ_ t=>GZ a b s.2.2.2.2 t.2.1 t.2.2.1 t.2.2.2.1 t.2.2.2.2.1 t.2.2.2.2.2) >>= λt=>
 match t.1 with
 |some z=>pure (.done (some z,t.2.1,t.2.2.1,t.2.2.2.1,s.2.2.2.2))
 |none=>liftM (rule "list.sort.gallop") >>= λ_=>
  forIn [0:a.size+b.size] ((none,t.2.1,t.2.2.1,t.2.2.2.1,s.2.2.2.2+1,t.2.2.2.2.1,t.2.2.2.2.2):F9) (λ_ u=>
   if u.2.2.2.2.1>1 then Fq a b u.2.1 u.2.2.1 u.2.2.2.1 (u.2.2.2.2.1-1) u.2.2.2.2.2.1 u.2.2.2.2.2.2 else Fq a b u.2.1 u.2.2.1 u.2.2.2.1 u.2.2.2.2.1 u.2.2.2.2.2.1 u.2.2.2.2.2.2) >>= λu=>
  match u.1 with
  |some z=>pure (.done (some z,u.2.1,u.2.2.1,u.2.2.2.1,u.2.2.2.2.1))
  |none=>lH (u.2.2.2.2.1+1) >>= λ_=>pure (.yield (none,u.2.1,u.2.2.1,u.2.2.2.1,u.2.2.2.2.1+1))
def DD(a b:PA):SM PA:=
 liftM (rule "list.sort.merge-lo") >>= λ_=>elem' b 0 >>= λy=>
 if((1:Nat)==b.size)=true then pure (BD a b #[y] 0 1) else if((0:Nat)+1==a.size)=true then pure (E6 a b #[y] 0 1) else
 get >>= λst=>forIn [0:a.size+b.size] ((none,#[y],0,1,gallopOf st):L0) (λ_ s=>G2 a b s) >>= λs=>
 match s.1 with
 |some z=>pure z
 |none=>liftM (unsupported "internal:list.sort.merge-bound":Sem PA)
theorem aZ{α β:Type}{m m':SM α}{f g:α->SM β}(e:m=m')(h:∀x,f x=g x):(m >>= f)=(m' >>= g):=by rw[e,funext h]
theorem gE{β:Type}{n:Nat}{c:β}{f g:Nat->β->SM (ForInStep β)}(h:∀x s,f x s=g x s):(forIn [0:n] c f:SM β)=forIn [0:n] c g:=by
 rw[show f=g from funext λx=>funext λs=>h x s]
theorem dS{α:Type}{c:Prop}[Decidable c]{a b a' b':α}(h:a=a')(k:b=b'):(if c then a else b)=if c then a' else b':=by rw[h,k]
theorem wQ(a b:PA):vq a b=DD a b:=by
 refine aZ rfl λ_=>aZ rfl λy=>dS rfl (dS rfl (aZ rfl λst=>aZ (gE λ_ s=>?_) λs=>?_))
 ·refine aZ (gE λ_ t=>?_) λt=>?_
  ·refine aZ rfl λy=>aZ rfl λx=>aZ rfl λt=>?_
   rfl
  ·obtain⟨z,t⟩:=t
   cases z with
   |some z=>rfl
   |none=>
    refine aZ rfl λ_=>aZ (gE λ_ u=>dS ?_ ?_) λu=>?_
    ·rfl
    ·rfl
    ·obtain⟨z,u⟩:=u
     cases z<;>rfl
 ·obtain⟨z,s⟩:=s
  cases z<;>rfl
section
variable {prog:K2}{w:K5}{A:K4}{E:KQ}{J:Shared->Prop}{a₀:Array Keyed}{kd:SortKind}{r:Keyed->Nat}
def bt(r:Keyed->Nat)(left:Bool)(key p:Keyed):Prop:=if left=true then r p<r key else r p<=r key
noncomputable instance (left:Bool)(key p:Keyed):Decidable (bt r left key p):=by unfold bt;infer_instance
theorem Bs{arr:PA}{base n t:Nat}(hn:base+n<=arr.toList.length)(ht:t<n):arr[base+t]?=((arr.toList.drop base).take n)[t]?:=by
 rw[List.getElem?_take,q07 ht,List.getElem?_drop,q0G]
theorem qK{left:Bool}{key:Keyed}{arr:PA}{base n hint:Nat}{st:SortSt}{Q:Option Nat->SortSt->Prop}(C:pG prog w A J a₀ kd r)(hk:kindOf st=kd)(hkey:key∈a₀.toList)
  (hi:hint<n) (hn:base+n<=arr.toList.length) (mem:∀p,p∈(arr.toList.drop base).take n->p∈a₀.toList) (srt:((arr.toList.drop base).take n).Pairwise (gW r))
  (h:∀k,k<=n->(∀p,p∈((arr.toList.drop base).take n).take k->bt r left key p)->(∀p,p∈((arr.toList.drop base).take n).drop k->¬ bt r left key p)->Q (some k) st) :
  fu (model prog w) A E J (ij left key arr base n hint) Q st:=by
 generalize hS:(arr.toList.drop base).take n=S at *;have lS:S.length=n:=by rw[<- hS];simp at hn ⊢;omega
 have at':∀t,t<n->arr[base+t]?=S[t]?:=λt ht=>by rw[<- hS];exact Bs hn ht
 refine zZ (B:=λt=>match S[t]? with | some x=>decide (bt r left key x) | none=>false) C hk hkey hi (λt ht=>?_) (λi j hij hj hB=>?_) λk hk' f g=>h k hk' (λp hp=>?_) λp hp=>?_
 ·have e:S[t]?=some S[t]:=JT ⋯
  refine⟨S[t],by rw[at' t ht,e],mem _ (J3 _),?_⟩;rw[e];dsimp only
  unfold bt;cases left with
  |true=>simp
  |false=>
   simp only[q0a,if_false]
   by_cases q:r key<r S[t]
   ·rw[q09 q,q08 ⋯];rfl
   ·rw[q08 q,q09 ⋯];rfl
 ·have e1:S[i]?=some S[i]:=JT ⋯
  have e2:S[j]?=some S[j]:=JT ⋯;rw[e2]at hB;rw[e1];dsimp only at hB ⊢
  have hle:r S[i]<=r S[j]:=by
   rcases Nat.lt_or_ge i j with q | q
   ·exact(List.pairwise_iff_getElem.mp srt) i j ⋯ ⋯ q
   ·have:i=j:=by omega
    subst this;exact Kg _
  have hB':=of_decide_eq_true hB;refine q09 ?_;unfold bt at hB' ⊢
  split at hB'<;>rename_i hc
  ·rw[q07 hc];omega
  ·rw[q06 hc];omega
 ·obtain⟨t,ht,e⟩:=List.mem_iff_getElem.mp hp
  rw[Kw]at ht;rw[List.getElem_take]at e;have:=f t ⋯;rw[JT ⋯]at this;rw[<- e];exact of_decide_eq_true this
 ·obtain⟨t,ht,e⟩:=List.mem_iff_getElem.mp hp
  rw[Kx]at ht;rw[List.getElem_drop]at e;have:=g (k+t) ⋯ ⋯;rw[JT ⋯]at this;rw[<- e];exact of_decide_eq_false this
theorem kM{left:Bool}{key p:Keyed}(h:¬ bt r left key p):if left=true then r key<=r p else r key<r p:=by
 unfold bt at h
 split at h<;>rename_i hc
 ·rw[q07 hc];omega
 ·rw[q06 hc];omega
structure MC(prog:K2)(w:K5)(A:K4)(J:Shared->Prop)(a₀:PA)(kd:SortKind)(r:Keyed->Nat)(a b:PA):Prop where
 C:pG prog w A J a₀ kd r
 ha:∀p,p∈a.toList->p∈a₀.toList
 hb:∀p,p∈b.toList->p∈a₀.toList
 sa:a.toList.Pairwise (gW r)
 sb:b.toList.Pairwise (gW r)
 hl:∀x,a[a.toList.length-1]?=some x->∀q,q∈b.toList->r q<=r x
def iF(r:Keyed->Nat)(a b z:PA):Prop:=z.toList.Pairwise (gW r)/\z.toList.Perm (a.toList++b.toList)
structure jn(r:Keyed->Nat)(a b o:PA)(i j:Nat):Prop where
 mi:MI (gW r) a.toList b.toList o.toList (a.toList.drop i) (b.toList.drop j)
 hi:i+1<a.toList.length
 hj:j<b.toList.length
def PG(r:Keyed->Nat)(a b:PA)(k:Nat)(z:Option PA)(o:PA)(i j:Nat):Prop:=match z with
 |some z=>iF r a b z
 |none=>jn r a b o i j/\k<=o.size
variable {a b:PA}
theorem jn.lt{o:PA}{i j:Nat}(h:jn r a b o i j):o.size<a.size+b.size:=by
 have:=h.mi.len;have h1:=h.hi;have h2:=h.hj
 simp at this h1 h2;omega
theorem FD(m:MC prog w A J a₀ kd r a b){o:PA}{i j:Nat}(h:MI (gW r) a.toList b.toList o.toList (a.toList.drop i) (b.toList.drop j))(hj:(j==b.size)=true\/(i==a.size)=true):iF r a b (BD a b o i j):=by
 unfold iF;rw[show(BD a b o i j).toList=o.toList++(a.toList.drop i++b.toList.drop j) by simp only[BD,q0V,x_,Kt]];rcases hj with hj | hj
 ·have e:b.toList.drop j=[]:=List.drop_eq_nil_of_le (by have:=eq_of_beq hj;simp;omega)
  rw[e]at h ⊢;rw[Ks];exact h.finX m.sa
 ·have e:a.toList.drop i=[]:=List.drop_eq_nil_of_le (by have:=eq_of_beq hj;simp;omega)
  rw[e]at h ⊢;rw[KJ];exact h.finY m.sb
theorem F_(m:MC prog w A J a₀ kd r a b){o:PA}{i j:Nat}(h:MI (gW r) a.toList b.toList o.toList (a.toList.drop i) (b.toList.drop j))(hi:(i+1==a.size)=true):iF r a b (E6 a b o i j):=by
 have e:=eq_of_beq hi;obtain⟨x,k,d,e3⟩:=gb a (i:=i) (by simp;omega);have c:a.toList.drop (i+1)=[]:=List.drop_eq_nil_of_le (by simp;omega);unfold iF;rw[show(E6 a b o i j).toList=o.toList++(b.toList.drop j++a.toList.drop i) by simp only[E6,q0V,x_,Kt],d,c];rw[d,c]at h;refine h.lastX m.sb λq g=>m.hl x ?_ q (q0I g);rw[show a.toList.length-1=i by simp;omega];exact k
theorem mV{l:List Keyed}(s:l.Pairwise (gW r)){i:Nat}{y:Keyed}(e:l.drop i=y::l.drop (i+1)):∀q,q∈l.drop i->r y<=r q:=by
 intro q hq;have:=s.sublist (List.drop_sublist i l);rw[e]at this hq;rcases J_.mp hq with rfl | hq
 ·exact Kg _
 ·exact(List.pairwise_cons.mp this).1 q hq
theorem cS{x y:Nat}(h:¬ (x==y)=true):x≠y:=λe=>h (by rw[e];exact beq_self_eq_true y)
theorem Fv(m:MC prog w A J a₀ kd r a b){st:SortSt}(hk:kindOf st=kd){o:PA}{i j g u v:Nat}(h:jn r a b o i j) :
  fu (model prog w) A E J (GZ a b g o i j u v) (λt st'=>st'=st/\match t with
   | .done s=>PG r a b (o.size+1) s.1 s.2.1 s.2.2.1 s.2.2.2.1
   | .yield s=>s.1=none/\PG r a b (o.size+1) s.1 s.2.1 s.2.2.1 s.2.2.2.1) st:=by
 unfold GZ;obtain⟨y,p,n,D⟩:=gb b h.hj;obtain⟨x,B,z,G⟩:=gb a (i:=i) (by have:=h.hi;omega);refine aA (cI p (aA (cI B (aA (zX m.C (m.hb _ D) (m.ha _ G) hk ?_)))));dsimp only;have mi:=h.mi
 by_cases l:r y<r x
 ·rw[q07 (q09 l)]
  refine aA (cI p ?_);rw[n]at mi;have c:MI (gW r) a.toList b.toList (o.push y).toList (a.toList.drop i) (b.toList.drop (j+1)):=by
   rw[Array.toList_push];exact mi.oneY m.sb λq k=>by have:=mV m.sa z q k;show r y<=r q;omega
  by_cases d:(j+1==b.size)=true
  ·rw[q07 d];exact aF ⟨rfl,FD m c (.inl d)⟩
  ·rw[q06 d]
   have e:jn r a b (o.push y) i (j+1):=⟨c,h.hi,by have:=cS d;have:=h.hj;simp at this ⊢;omega⟩
   split
   ·exact aF ⟨rfl,e,by simp⟩
   ·exact aF ⟨rfl,rfl,e,by simp⟩
 ·rw[q06 (by simpa using l)]
  refine aA (cI B ?_);rw[z]at mi;have c:MI (gW r) a.toList b.toList (o.push x).toList (a.toList.drop (i+1)) (b.toList.drop j):=by
   rw[Array.toList_push];exact mi.oneX m.sa λq k=>by have:=mV m.sb n q k;show r x<=r q;omega
  by_cases d:(i+1+1==a.size)=true
  ·rw[q07 d];exact aF ⟨rfl,F_ m c d⟩
  ·rw[q06 d]
   have e:jn r a b (o.push x) (i+1) j:=⟨c,by have:=cS d;have:=h.hi;simp at this ⊢;omega,h.hj⟩
   split
   ·exact aF ⟨rfl,e,by simp⟩
   ·exact aF ⟨rfl,rfl,e,by simp⟩
theorem mQ{g:Nat}{st:SortSt}{Q:Unit->SortSt->Prop}(h:∀st',SG st st'->Q () st'):fu (model prog w) A E J (lH g) Q st:=by
 unfold lH;exact dj (h _ ⟨rfl,rfl,rfl,rfl⟩)
theorem xy{l:List Keyed}(i:Nat):(l.drop i).take (l.length-i)=l.drop i:=q0F (by simp)
theorem DO(m:MC prog w A J a₀ kd r a b){st:SortSt}{o:PA}{i j g u v k:Nat}(h:jn r a b o i j)(hk:k<=o.size)(hx:∀x,a[i]?=some x->∀q,q∈b.toList.drop j->r x<=r q) :
  fu (model prog w) A E J (F7 a b o i j g u v) (λt st'=>st'=st/\match t with
   | .done s=>PG r a b (k+1) s.1 s.2.1 s.2.2.1 s.2.2.2.1
   | .yield s=>s.1=none/\PG r a b (k+1) s.1 s.2.1 s.2.2.1 s.2.2.2.1) st:=by
 unfold F7;obtain⟨x,l,n,a3⟩:=gb a (i:=i) (by have:=h.hi;omega);refine aA (cI l ?_);have mi:=h.mi;rw[n]at mi;have c:MI (gW r) a.toList b.toList (o.push x).toList (a.toList.drop (i+1)) (b.toList.drop j):=by
  rw[Array.toList_push];exact mi.oneX m.sa (hx x l)
 by_cases d:(i+1+1==a.size)=true
 ·rw[q07 d];exact aF ⟨rfl,F_ m c d⟩
 ·rw[q06 d]
  have e:jn r a b (o.push x) (i+1) j:=⟨c,by have:=cS d;have:=h.hi;simp at this ⊢;omega,h.hj⟩
  split
  ·exact aF ⟨rfl,e,by simp;omega⟩
  ·exact aF ⟨rfl,rfl,e,by simp;omega⟩
theorem jp(l:List Keyed)(i k:Nat):l.drop i=(l.drop i).take k++l.drop (i+k):=by
 rw[<- List.drop_drop];exact(List.take_append_drop k _).symm
theorem DX(m:MC prog w A J a₀ kd r a b){st:SortSt}(hk:kindOf st=kd){o:PA}{i j g u v k:Nat}(h:jn r a b o i j)(hz:k<=o.size)(hy:∀y,b[j]?=some y->∀q,q∈a.toList.drop i->r y<=r q) :
  fu (model prog w) A E J (F6 a b o i j g u v) (λt st'=>st'=st/\match t with
   | .done s=>PG r a b (k+1) s.1 s.2.1 s.2.2.1 s.2.2.2.1
   | .yield s=>s.1=none/\PG r a b (k+1) s.1 s.2.1 s.2.2.1 s.2.2.2.1) st:=by
 unfold F6;obtain⟨y,T,b2,b3⟩:=gb b h.hj;obtain⟨x,M,a2,a3⟩:=gb a (i:=i) (by have:=h.hi;omega);refine aA (cI T ?_);have mi:=h.mi;rw[b2]at mi;have c:MI (gW r) a.toList b.toList (o.push y).toList (a.toList.drop i) (b.toList.drop (j+1)):=by
  rw[Array.toList_push];exact mi.oneY m.sb (hy y T)
 by_cases G:(j+1==b.size)=true
 ·rw[q07 G];exact aF ⟨rfl,FD m c (.inl G)⟩
 ·rw[q06 G]
  have hj:=h.hj;have hj1:j+1<b.size:=by have:=cS G;simp at hj;omega
  have I:((b.toList.drop (j+1)).take (b.size-(j+1)))=b.toList.drop (j+1):=by have:=xy (l:=b.toList) (j+1);simpa using this
  refine aA (cI M (aA (qK m.C hk (m.ha _ a3) ⋯ (by simp;omega) (by rw[I];exact λp L=>m.hb p (q0I L)) (by rw[I];exact m.sb.sublist (List.drop_sublist _ _)) λe he S f2=>?_)));rw[I]at S f2;dsimp only;have Y:∀p,p∈(b.toList.drop (j+1)).take e->∀q,q∈a.toList.drop i->r p<=r q:=λp L q n=>by
   have O:r p<r x:=S p L;have:=mV m.sa a2 q n;omega
  have R:∀q,q∈b.toList.drop (j+1+e)->r x<=r q:=λq n=>by
   have O:=kM (f2 q (by rw[List.drop_drop];exact n));exact O
  by_cases B:e>0
  ·rw[q07 B]
   have z:MI (gW r) a.toList b.toList (o.push y++b.extract (j+1) (j+1+e)).toList (a.toList.drop i) (b.toList.drop (j+1+e)):=by
    rw[q0V,m_];rw[jp b.toList (j+1) e]at c;exact c.takeY m.sb Y
   by_cases d:(j+1+e==b.size)=true
   ·rw[q07 d];exact aF ⟨rfl,FD m z (.inl d)⟩
   ·rw[q06 d]
    exact DO m ⟨z,h.hi,by have:=cS d;simp;omega⟩ (by simp;omega) λU D q n=>by rw[M]at D;cases D;exact R q n
  ·rw[q06 B]
   have Z:e=0:=by omega
   subst Z;exact DO m ⟨c,h.hi,by simp;omega⟩ (by simp;omega) λU D q n=>by rw[M]at D;cases D;exact R q n
theorem F1(m:MC prog w A J a₀ kd r a b){st:SortSt}(hk:kindOf st=kd){o:PA}{i j g u v:Nat}(h:jn r a b o i j) :
  fu (model prog w) A E J (Fq a b o i j g u v) (λt st'=>SG st st'/\match t with
   | .done s=>PG r a b (o.size+1) s.1 s.2.1 s.2.2.1 s.2.2.2.1
   | .yield s=>s.1=none/\PG r a b (o.size+1) s.1 s.2.1 s.2.2.1 s.2.2.2.1) st:=by
 unfold Fq;refine aA (mQ λst' z=>?_);have x:kindOf st'=kd:=z.1.trans hk;obtain⟨y,M,b2,b3⟩:=gb b h.hj;have hi:=h.hi;have hi0:i+1<a.size:=by simpa using hi
 have I:((a.toList.drop i).take (a.size-i))=a.toList.drop i:=by have:=xy (l:=a.toList) i;simpa using this
 refine aA (cI M (aA (qK m.C x (m.hb _ b3) ⋯ (by simp;omega) (by rw[I];exact λp L=>m.ha p (q0I L)) (by rw[I];exact m.sa.sublist (List.drop_sublist _ _)) λe he R f2=>?_)));rw[I]at R f2;dsimp only;have Y:∀p,p∈(a.toList.drop i).take e->∀q,q∈b.toList.drop j->r p<=r q:=λp L q n=>by
  have U:r p<=r y:=R p L;have:=mV m.sb b2 q n;omega
 have O:∀q,q∈a.toList.drop (i+e)->r y<=r q:=λq n=>by
  have U:r y<r q:=kM (f2 q (by rw[List.drop_drop];exact n));omega
 by_cases B:e>0
 ·rw[q07 B]
  have d:MI (gW r) a.toList b.toList (o++a.extract i (i+e)).toList (a.toList.drop (i+e)) (b.toList.drop j):=by
   rw[q0V,m_];have mi:=h.mi;rw[jp a.toList i e]at mi;exact mi.takeX m.sa Y
  by_cases G:(i+e+1==a.size)=true
  ·rw[q07 G];exact aF ⟨z,F_ m d G⟩
  ·rw[q06 G]
   by_cases c:(i+e==a.size)=true
   ·rw[q07 c];exact aF ⟨z,FD m d (.inr c)⟩
   ·rw[q06 c]
    refine bV (DX (k:=o.size) m x ⟨d,by have:=cS G;have:=cS c;simp;omega,h.hj⟩ (by simp) λS D q n=>by rw[M]at D;cases D;exact O q n) λt T q=>⟨by rw[q.1];exact z,q.2⟩
 ·rw[q06 B]
  have Z:e=0:=by omega
  subst Z;exact bV (DX (k:=o.size) m x h (Kg _) λS D q n=>by rw[M]at D;cases D;exact O q n) λt T q=>⟨by rw[q.1];exact z,q.2⟩
theorem SG.trans{x y z:SortSt}(h:SG x y)(k:SG y z):SG x z:=⟨k.1.trans h.1,k.2.1.trans h.2.1,k.2.2.1.trans h.2.2.1,k.2.2.2.trans h.2.2.2⟩
theorem FB(m:MC prog w A J a₀ kd r a b){st:SortSt}(hk:kindOf st=kd){s:L0}(h:jn r a b s.2.1 s.2.2.1 s.2.2.2.1) :
  fu (model prog w) A E J (G2 a b s) (λt st'=>SG st st'/\match t with
   | .done u=>∃z,u.1=some z/\iF r a b z
   | .yield u=>u.1=none/\jn r a b u.2.1 u.2.2.1 u.2.2.2.1/\s.2.1.size+1<=u.2.1.size) st:=by
 unfold G2;refine aA (bV (eQ (I:=λx c st'=>st'=st/\c.1=none/\jn r a b c.2.1 c.2.2.1 c.2.2.2.1/\s.2.1.size+x<=c.2.1.size)
  (Q:=λc st'=>st'=st/\PG r a b (s.2.1.size+1) c.1 c.2.1 c.2.2.1 c.2.2.2.1) ?s1 ?e1 ⟨rfl,rfl,h,Kg _⟩) ?p1)
 case e1=>
  rintro c st' ⟨rfl,D,k,C⟩;have:=k.lt;omega
 case s1=>
  rintro x c st' _ C ⟨rfl,D,k,G⟩;refine bV (Fv m hk k) λt d q=>?_;obtain⟨rfl,q⟩:=q;cases t with
  |done u=>
   refine⟨rfl,?_⟩;dsimp only at q
   revert q;unfold PG;cases u.1 with
   |some z=>exact id
   |none=>exact λq=>⟨q.1,by have:=q.2;omega⟩
  |yield u=>
   obtain⟨y,p⟩:=q;rw[y]at p;exact⟨rfl,y,p.1,by have:=p.2;omega⟩
 case p1=>
  rintro⟨z,o,i,j,u,v⟩ st' ⟨rfl,q⟩;cases z with
  |some z=>exact aF ⟨SG.refl _,z,rfl,q⟩
  |none=>
   obtain⟨k,G⟩:=q;dsimp only;refine aA (jz λ_ L=>wpAny_rule ⟨L,?_⟩);refine aA (bV (eQ (I:=λx c d=>SG st' d/\c.1=none/\jn r a b c.2.1 c.2.2.1 c.2.2.2.1/\s.2.1.size+1<=c.2.1.size)
    (Q:=λc d=>SG st' d/\PG r a b (s.2.1.size+1) c.1 c.2.1 c.2.2.1 c.2.2.2.1) ?s2 ?e2 ⟨SG.refl _,rfl,k,G⟩) ?p2)
   case e2=>
    rintro c d ⟨n,D,k,C⟩;exact⟨n,by rw[D];exact⟨k,C⟩⟩
   case s2=>
    rintro x c d _ C ⟨n,D,k,G⟩;have B:∀g,fu (model prog w) A E J (Fq a b c.2.1 c.2.2.1 c.2.2.2.1 g c.2.2.2.2.2.1 c.2.2.2.2.2.2) (λt e=>match t with
      | .done c'=>SG st' e/\PG r a b (s.2.1.size+1) c'.1 c'.2.1 c'.2.2.1 c'.2.2.2.1
      | .yield c'=>SG st' e/\c'.1=none/\jn r a b c'.2.1 c'.2.2.1 c'.2.2.2.1/\s.2.1.size+1<=c'.2.1.size) d:=by
     intro g;refine bV (F1 m (n.1.trans hk) k) λt e q=>?_;obtain⟨l,q⟩:=q;cases t with
     |done u=>
      refine⟨n.trans l,?_⟩;dsimp only at q
      revert q;unfold PG;cases u.1 with
      |some z=>exact id
      |none=>exact λq=>⟨q.1,by have:=q.2;omega⟩
     |yield u=>
      obtain⟨y,p⟩:=q;rw[y]at p;exact⟨n.trans l,y,p.1,by have:=p.2;omega⟩
    split
    ·exact bV (B _) λt e q=>by cases t<;>exact q
    ·exact bV (B _) λt e q=>by cases t<;>exact q
   case p2=>
    rintro⟨z,o2,i2,j2,g2,u2,v2⟩ d ⟨n,q⟩;cases z with
    |some z=>exact aF ⟨n,z,rfl,q⟩
    |none=>exact aA (mQ λe l=>aF ⟨n.trans l,rfl,q.1,q.2⟩)
theorem zo(m:MC prog w A J a₀ kd r a b){st:SortSt}(hk:kindOf st=kd){Q:PA->SortSt->Prop}(h0:∀y,b[0]?=some y->∀q,q∈a.toList->r y<=r q)
  (na:0<a.toList.length) (nb:0<b.toList.length) (h:∀l st',SG st st'->iF r a b l->Q l st'):fu (model prog w) A E J (vq a b) Q st:=by
 rw[wQ];unfold DD
 obtain⟨y,B,v,b3⟩:=gb b nb;refine aA (jz λs j=>wpAny_rule ⟨j,aA (cI B ?_)⟩);have n:MI (gW r) a.toList b.toList (#[y]:PA).toList (a.toList.drop 0) (b.toList.drop 1):=by
  have:=MI.start (le:=gW r) a.toList b.toList;rw[show b.toList=y::b.toList.drop 1 from v]at this;have h2:=MI.oneY (by rw[show b.toList=y::b.toList.drop 1 from v];exact this) m.sb (h0 y B);exact h2
 by_cases k:((1:Nat)==b.size)=true
 ·rw[q07 k];exact aF (h _ _ (SG.refl _) (FD m n (.inl k)))
 ·rw[q06 k]
  by_cases d:((0:Nat)+1==a.size)=true
  ·rw[q07 d];exact aF (h _ _ (SG.refl _) (F_ m n d))
  ·rw[q06 d]
   refine aA (gN ?_);refine aA (bV (eQ (I:=λx c st'=>SG st st'/\c.1=none/\jn r a b c.2.1 c.2.2.1 c.2.2.2.1/\x+1<=c.2.1.size)
    (Q:=λc st'=>SG st st'/\∃z,c.1=some z/\iF r a b z) ?s ?e ⟨SG.refl _,rfl,⟨n,by have:=cS d;simp at na ⊢;omega,by have:=cS k;simp at nb ⊢;omega⟩,by simp⟩) ?p)
   case e=>
    rintro c st' ⟨_,D,o,C⟩;have:=o.lt;omega
   case s=>
    rintro x c st' _ C ⟨i,D,o,hz⟩;refine bV (FB m (i.1.trans hk) o) λt st2 q=>?_;obtain⟨g,q⟩:=q;cases t with
    |done u=>exact⟨i.trans g,q⟩
    |yield u=>exact⟨i.trans g,q.1,q.2.1,by have:=q.2.2;omega⟩
   case p=>
    rintro⟨z,u⟩ st' ⟨i,z',e,q⟩;dsimp only at e;subst e;exact aF (h _ _ i q)
end
def uS:PA->PA->SM PA:=sortPriv% PySem.Builtin.mergeHi
abbrev H1:=Option PA×Nat×Nat×PA×Nat×Nat
abbrev H2:=Option PA×Nat×Nat×PA×Nat×Nat×Nat
abbrev H0:=Option PA×Nat×Nat×PA×Nat
abbrev AX(a b:PA)(i j:Nat)(o:PA):PA:=a.extract 0 i++b.extract 0 j++o.reverse
abbrev Fa(a b:PA)(i j:Nat)(o:PA):PA:=b.extract 0 j++a.extract 0 i++o.reverse
def FC(a b:PA)(g:Nat)(i j:Nat)(o:PA)(m n:Nat):SM (ForInStep H1):=
 elem' b (j-1) >>= λy=>elem' a (i-1) >>= λx=>lt' y x >>= λt=>match t with
 |some t=>if t=true then elem' a (i-1) >>= λx=>
   if(i-1==0)=true then pure (.done (some (AX a b (i-1) j (o.push x)),i-1,j,o.push x,m+1,0))
   else if m+1≥g then pure (.done (none,i-1,j,o.push x,m+1,0)) else pure (.yield (none,i-1,j,o.push x,m+1,0))
  else elem' b (j-1) >>= λy=>
   if(j-1==1)=true then pure (.done (some (Fa a b i (j-1) (o.push y)),i,j-1,o.push y,0,n+1))
   else if n+1≥g then pure (.done (none,i,j-1,o.push y,0,n+1)) else pure (.yield (none,i,j-1,o.push y,0,n+1))
 |_=>pure (.done (some (AX a b i j o),i,j,o,m,n))
def Gd(a b:PA)(i j:Nat)(o:PA)(g m n:Nat):SM (ForInStep H2):=
 elem' a (i-1) >>= λx=>if(i-1==0)=true then pure (.done (some (AX a b (i-1) j (o.push x)),i-1,j,o.push x,g,m,n))
  else if(decide (m<7)&&decide (n<7))=true then pure (.done (none,i-1,j,o.push x,g,m,n)) else pure (.yield (none,i-1,j,o.push x,g,m,n))
def Ga(a b:PA)(i j:Nat)(o:PA)(g m n:Nat):SM (ForInStep H2):=
 elem' b (j-1) >>= λy=>if(j-1==1)=true then pure (.done (some (Fa a b i (j-1) (o.push y)),i,j-1,o.push y,g,m,n))
  else elem' a (i-1) >>= λx=>ij true x b 0 (j-1) (j-1-1) >>= λt=>match t with
  |some k=>if j-1-k>0 then
    if(k==1)=true then pure (.done (some (Fa a b i k (o.push y++(b.extract k (j-1)).reverse)),i,k,o.push y++(b.extract k (j-1)).reverse,g,m,j-1-k))
    else if(k==0)=true then pure (.done (some (AX a b i k (o.push y++(b.extract k (j-1)).reverse)),i,k,o.push y++(b.extract k (j-1)).reverse,g,m,j-1-k))
    else Gd a b i k (o.push y++(b.extract k (j-1)).reverse) g m (j-1-k)
   else Gd a b i (j-1) (o.push y) g m (j-1-k)
  |_=>pure (.done (some (AX a b i (j-1) (o.push y)),i,j-1,o.push y,g,m,n))
def j3(a b:PA)(i j:Nat)(o:PA)(g m n:Nat):SM (ForInStep H2):=
 lH g >>= λ_=>elem' b (j-1) >>= λy=>ij false y a 0 i (i-1) >>= λt=>match t with
  |some k=>if i-k>0 then
    if(k==0)=true then pure (.done (some (AX a b k j (o++(a.extract k i).reverse)),k,j,o++(a.extract k i).reverse,g,i-k,n))
    else Ga a b k j (o++(a.extract k i).reverse) g (i-k) n
   else Ga a b i j o g (i-k) n
  |_=>pure (.done (some (AX a b i j o),i,j,o,g,m,n))
def GH(a b:PA)(s:H0):SM (ForInStep H0):=
 forIn [0:a.size+b.size] ((none,s.2.1,s.2.2.1,s.2.2.2.1,0,0):H1) (λ_ t=>FC a b s.2.2.2.2 t.2.1 t.2.2.1 t.2.2.2.1 t.2.2.2.2.1 t.2.2.2.2.2) >>= λt=>
 match t.1 with
 |some z=>pure (.done (some z,t.2.1,t.2.2.1,t.2.2.2.1,s.2.2.2.2))
 |none=>liftM (rule "list.sort.gallop") >>= λ_=>
  forIn [0:a.size+b.size] ((none,t.2.1,t.2.2.1,t.2.2.2.1,s.2.2.2.2+1,t.2.2.2.2.1,t.2.2.2.2.2):H2) (λ_ u=>
   if u.2.2.2.2.1>1 then j3 a b u.2.1 u.2.2.1 u.2.2.2.1 (u.2.2.2.2.1-1) u.2.2.2.2.2.1 u.2.2.2.2.2.2 else j3 a b u.2.1 u.2.2.1 u.2.2.2.1 u.2.2.2.2.1 u.2.2.2.2.2.1 u.2.2.2.2.2.2) >>= λu=>
  match u.1 with
  |some z=>pure (.done (some z,u.2.1,u.2.2.1,u.2.2.2.1,u.2.2.2.2.1))
  |none=>lH (u.2.2.2.2.1+1) >>= λ_=>pure (.yield (none,u.2.1,u.2.2.1,u.2.2.2.1,u.2.2.2.2.1+1))
def DC(a b:PA):SM PA:=
 liftM (rule "list.sort.merge-hi") >>= λ_=>elem' a (a.size-1) >>= λx=>
 if(a.size-1==0)=true then pure (AX a b (a.size-1) b.size #[x]) else if(b.size==1)=true then pure (Fa a b (a.size-1) b.size #[x]) else
 get >>= λst=>forIn [0:a.size+b.size] ((none,a.size-1,b.size,#[x],gallopOf st):H0) (λ_ s=>GH a b s) >>= λs=>
 match s.1 with
 |some z=>pure z
 |none=>liftM (unsupported "internal:list.sort.merge-bound":Sem PA)
theorem vA(a b:PA):uS a b=DC a b:=by
 refine aZ rfl λ_=>aZ rfl λy=>dS rfl (dS rfl (aZ rfl λst=>aZ (gE λ_ s=>?_) λs=>?_))
 ·refine aZ (gE λ_ t=>?_) λt=>?_
  ·refine aZ rfl λy=>aZ rfl λx=>aZ rfl λt=>?_
   rfl
  ·obtain⟨z,t⟩:=t
   cases z with
   |some z=>rfl
   |none=>
    refine aZ rfl λ_=>aZ (gE λ_ u=>dS ?_ ?_) λu=>?_
    ·rfl
    ·rfl
    ·obtain⟨z,u⟩:=u
     cases z<;>rfl
 ·obtain⟨z,s⟩:=s
  cases z<;>rfl
section
variable {prog:K2}{w:K5}{A:K4}{E:KQ}{J:Shared->Prop}{a₀:Array Keyed}{kd:SortKind}{r:Keyed->Nat}{a b:PA}
abbrev zR(r:Keyed->Nat):Keyed->Keyed->Prop:=λp q=>r q<=r p
theorem gt{l:List Keyed}(h:l.Pairwise (gW r)):l.reverse.Pairwise (zR r):=List.pairwise_reverse.mpr h
theorem Bc{α:Type}(a:Array α)(i:Nat):(a.extract 0 i).toList=a.toList.take i:=by
 rw[Array.toList_extract];simp[List.extract]
theorem xC{α:Type}(a:Array α){k i:Nat}(h:k<=i):(a.extract k i).reverse.toList=((a.toList.take i).drop k).reverse:=by
 rw[Array.toList_reverse,Array.toList_extract];simp only[List.extract];rw[<- List.drop_take]
theorem fX(a:PA)(s:a.toList.Pairwise (gW r)){i:Nat}(h0:0<i)(h:i<=a.toList.length) :
  ∃x,a[i-1]?=some x/\(a.toList.take i).reverse=x::(a.toList.take (i-1)).reverse/\x∈a.toList/\∀q,q∈a.toList.take i->r q<=r x:=by
 have e:a.toList.take i=a.toList.take (i-1)++[a.toList[i-1]]:=by
  have:=List.take_succ_eq_append_getElem (l:=a.toList) (i:=i-1) ⋯
  rwa [show i-1+1=i by omega]at this
 refine⟨a.toList[i-1],?_,by rw[e,Kz];rfl,J3 _,λq hq=>?_⟩
 ·rw[<- q0G,JT ⋯]
 ·have b:=s.sublist (List.take_sublist i _)
  rw[e]at b hq;rcases J8.mp hq with hq | hq
  ·exact(List.pairwise_append.mp b).2.2 q hq _ (List.mem_singleton_self _)
  ·rw[JX.mp hq];exact Kg _
structure MH(prog:K2)(w:K5)(A:K4)(J:Shared->Prop)(a₀:PA)(kd:SortKind)(r:Keyed->Nat)(a b:PA):Prop where
 C:pG prog w A J a₀ kd r
 ha:∀p,p∈a.toList->p∈a₀.toList
 hb:∀p,p∈b.toList->p∈a₀.toList
 sa:a.toList.Pairwise (gW r)
 sb:b.toList.Pairwise (gW r)
 h0:∀y,b[0]?=some y->∀q,q∈a.toList->r y<=r q
abbrev uB(r:Keyed->Nat)(a b o:PA)(i j:Nat):Prop:=MI (zR r) a.toList.reverse b.toList.reverse o.toList (a.toList.take i).reverse (b.toList.take j).reverse
structure jm(r:Keyed->Nat)(a b o:PA)(i j:Nat):Prop where
 mi:uB r a b o i j
 hi:0<i
 hi':i<=a.toList.length
 hj:1<j
 hj':j<=b.toList.length
def PH(r:Keyed->Nat)(a b:PA)(k:Nat)(z:Option PA)(i j:Nat)(o:PA):Prop:=match z with
 |some z=>iF r a b z
 |none=>jm r a b o i j/\k<=o.size
theorem jm.lt{o:PA}{i j:Nat}(h:jm r a b o i j):o.size<a.size+b.size:=by
 have:=h.mi.len;have h1:=h.hi;have h2:=h.hj;have d:=h.hi';have c:=h.hj'
 simp at this d c;omega
theorem nR{z:PA}{l:List Keyed}(e:z.toList=l.reverse)(h:l.Pairwise (zR r)/\l.Perm (a.toList.reverse++b.toList.reverse)):iF r a b z:=by
 unfold iF;rw[e]
 exact⟨List.pairwise_reverse.mpr h.1,(List.reverse_perm _).trans (h.2.trans ((List.reverse_perm _).append (List.reverse_perm _)))⟩
theorem FU(m:MH prog w A J a₀ kd r a b){o:PA}{i j:Nat}(h:uB r a b o i j)(hj:i=0\/j=0):iF r a b (AX a b i j o):=by
 rcases hj with rfl | rfl
 ·have c:MI (zR r) a.toList.reverse b.toList.reverse o.toList [] (b.toList.take j).reverse:=h
  exact nR (by simp only[AX,q0V,Bc,Array.toList_reverse,Kz,KA,List.take_zero,KJ]) (c.finY (gt m.sb))
 ·have c:MI (zR r) a.toList.reverse b.toList.reverse o.toList (a.toList.take i).reverse []:=h
  exact nR (by simp only[AX,q0V,Bc,Array.toList_reverse,Kz,KA,List.take_zero,Ks]) (c.finX (gt m.sa))
theorem Gb(m:MH prog w A J a₀ kd r a b){o:PA}{i j:Nat}(h:uB r a b o i j)(hj:j=1)(hb:0<b.toList.length):iF r a b (Fa a b i j o):=by
 subst hj;obtain⟨y,n,k,e3,e4⟩:=fX b m.sb (i:=1) ⋯ ⋯;have c:(b.toList.take 1).reverse=[y]:=by rw[k];rfl
 have e:MI (zR r) a.toList.reverse b.toList.reverse o.toList (a.toList.take i).reverse [y]:=by rw[<- c];exact h
 have g:b.toList.take 1=[y]:=by have:=q0R List.reverse c;simpa using this
 refine nR (l:=o.toList++((a.toList.take i).reverse++[y])) ?_ ?_
 ·simp only[Fa,q0V,Bc,Array.toList_reverse,Kz,KA,g,List.reverse_singleton,Kt]
 ·have:=e.swap.lastX (gt m.sa) λq d=>m.h0 y n q (q0H (List.mem_reverse.mp d))
  exact⟨this.1,this.2.trans List.perm_append_comm⟩
theorem FR(m:MH prog w A J a₀ kd r a b){st:SortSt}(hk:kindOf st=kd){o:PA}{i j g u v:Nat}(h:jm r a b o i j) :
  fu (model prog w) A E J (FC a b g i j o u v) (λt st'=>st'=st/\match t with
   | .done s=>PH r a b (o.size+1) s.1 s.2.1 s.2.2.1 s.2.2.2.1
   | .yield s=>s.1=none/\PH r a b (o.size+1) s.1 s.2.1 s.2.2.1 s.2.2.2.1) st:=by
 unfold FC;have h1:=h.hi;have h2:=h.hj;have p:=h.hi';have n:=h.hj'
 obtain⟨y,z,I,G,D⟩:=fX b m.sb (i:=j) ⋯ n;obtain⟨x,B,O,M,L⟩:=fX a m.sa (i:=i) ⋯ p;refine aA (cI z (aA (cI B (aA (zX m.C (m.hb _ G) (m.ha _ M) hk ?_)))));dsimp only;have mi:MI (zR r) a.toList.reverse b.toList.reverse o.toList (a.toList.take i).reverse (b.toList.take j).reverse:=h.mi
 by_cases l:r y<r x
 ·rw[q07 (q09 l)]
  refine aA (cI B ?_);rw[O]at mi;have c:uB r a b (o.push x) (i-1) j:=by
   unfold uB;rw[Array.toList_push]
   exact mi.oneX (gt m.sa) λq k=>by have:=D q (List.mem_reverse.mp k);show r q<=r x;omega
  by_cases d:(i-1==0)=true
  ·rw[q07 d];exact aF ⟨rfl,FU m c (.inl (eq_of_beq d))⟩
  ·rw[q06 d]
   have e:jm r a b (o.push x) (i-1) j:=⟨c,by have:=cS d;omega,⋯,h2,n⟩
   split
   ·exact aF ⟨rfl,e,by simp⟩
   ·exact aF ⟨rfl,rfl,e,by simp⟩
 ·rw[q06 (by simpa using l)]
  refine aA (cI z ?_);rw[I]at mi;have c:uB r a b (o.push y) i (j-1):=by
   unfold uB;rw[Array.toList_push]
   exact mi.oneY (gt m.sb) λq k=>by have:=L q (List.mem_reverse.mp k);show r q<=r y;omega
  by_cases d:(j-1==1)=true
  ·rw[q07 d];exact aF ⟨rfl,Gb m c (eq_of_beq d) ⋯⟩
  ·rw[q06 d]
   have e:jm r a b (o.push y) i (j-1):=⟨c,h1,p,by have:=cS d;omega,⋯⟩
   split
   ·exact aF ⟨rfl,e,by simp⟩
   ·exact aF ⟨rfl,rfl,e,by simp⟩
theorem DW(m:MH prog w A J a₀ kd r a b){st:SortSt}{o:PA}{i j g u v k:Nat}(h:jm r a b o i j)(hk:k<=o.size)(hx:∀x,a[i-1]?=some x->∀q,q∈b.toList.take j->r q<=r x) :
  fu (model prog w) A E J (Gd a b i j o g u v) (λt st'=>st'=st/\match t with
   | .done s=>PH r a b (k+1) s.1 s.2.1 s.2.2.1 s.2.2.2.1
   | .yield s=>s.1=none/\PH r a b (k+1) s.1 s.2.1 s.2.2.1 s.2.2.2.1) st:=by
 unfold Gd;have h1:=h.hi;have h2:=h.hj;have y:=h.hi';have p:=h.hj'
 obtain⟨x,l,z,a3,a4⟩:=fX a m.sa (i:=i) ⋯ y;refine aA (cI l ?_);have mi:MI (zR r) a.toList.reverse b.toList.reverse o.toList (a.toList.take i).reverse (b.toList.take j).reverse:=h.mi;rw[z]at mi;have c:uB r a b (o.push x) (i-1) j:=by
  unfold uB;rw[Array.toList_push];exact mi.oneX (gt m.sa) λq n=>hx x l q (List.mem_reverse.mp n)
 by_cases d:(i-1==0)=true
 ·rw[q07 d];exact aF ⟨rfl,FU m c (.inl (eq_of_beq d))⟩
 ·rw[q06 d]
  have e:jm r a b (o.push x) (i-1) j:=⟨c,by have:=cS d;omega,⋯,h2,p⟩
  split
  ·exact aF ⟨rfl,e,by simp;omega⟩
  ·exact aF ⟨rfl,rfl,e,by simp;omega⟩
theorem qd(l:List Keyed){k i:Nat}(h:k<=i):(l.take i).reverse=((l.take i).drop k).reverse++(l.take k).reverse:=by
 rw[<- Kz];have:=List.take_append_drop k (l.take i);rw[List.take_take,KO h]at this;rw[this]
theorem DP(m:MH prog w A J a₀ kd r a b){st:SortSt}(hk:kindOf st=kd){o:PA}{i j g u v k:Nat}(h:jm r a b o i j)(hz:k<=o.size)(hy:∀y,b[j-1]?=some y->∀q,q∈a.toList.take i->r q<=r y) :
  fu (model prog w) A E J (Ga a b i j o g u v) (λt st'=>st'=st/\match t with
   | .done s=>PH r a b (k+1) s.1 s.2.1 s.2.2.1 s.2.2.2.1
   | .yield s=>s.1=none/\PH r a b (k+1) s.1 s.2.1 s.2.2.1 s.2.2.2.1) st:=by
 unfold Ga;have h1:=h.hi;have h2:=h.hj;have M:=h.hi';have Z:=h.hj'
 obtain⟨y,T,b2,b3,b4⟩:=fX b m.sb (i:=j) ⋯ Z;obtain⟨x,O,a2,a3,a4⟩:=fX a m.sa (i:=i) ⋯ M;refine aA (cI T ?_);have mi:MI (zR r) a.toList.reverse b.toList.reverse o.toList (a.toList.take i).reverse (b.toList.take j).reverse:=h.mi;rw[b2]at mi;have c:uB r a b (o.push y) i (j-1):=by
  unfold uB;rw[Array.toList_push];exact mi.oneY (gt m.sb) λq d=>hy y T q (List.mem_reverse.mp d)
 by_cases G:(j-1==1)=true
 ·rw[q07 G];exact aF ⟨rfl,Gb m c (eq_of_beq G) ⋯⟩
 ·rw[q06 G]
  have hc':=cS G;refine aA (cI O (aA (qK m.C hk (m.ha _ a3) ⋯ ⋯ (by rw[KP];exact λp I=>m.hb p (q0H I)) (by rw[KP];exact m.sb.sublist (List.take_sublist _ _)) λe L S f2=>?_)));rw[KP]at S f2;dsimp only;have g1:∀p,p∈((b.toList.take (j-1)).drop e).reverse->∀q,q∈(a.toList.take i).reverse->r q<=r p:=λp I q d=>by
   have Y:r x<=r p:=kM (f2 p (List.mem_reverse.mp I));have:=a4 q (List.mem_reverse.mp d);omega
  have R:∀q,q∈b.toList.take e->r q<=r x:=λq d=>by
   have Y:r q<r x:=S q (by rw[List.take_take,KO L];exact d);omega
  by_cases B:j-1-e>0
  ·rw[q07 B]
   have z:uB r a b (o.push y++(b.extract e (j-1)).reverse) i e:=by
    unfold uB at c ⊢;rw[q0V,xC b L];rw[qd b.toList L]at c;exact c.takeY (gt m.sb) g1
   by_cases n:(e==1)=true
   ·rw[q07 n];exact aF ⟨rfl,Gb m z (eq_of_beq n) ⋯⟩
   ·rw[q06 n]
    by_cases l:(e==0)=true
    ·rw[q07 l];exact aF ⟨rfl,FU m z (.inr (eq_of_beq l))⟩
    ·rw[q06 l]
     exact DW m ⟨z,h1,M,by have:=cS n;have:=cS l;omega,⋯⟩ (by simp;omega) λU D q d=>by rw[O]at D;cases D;exact R q d
  ·rw[q06 B]
   have e0:e=j-1:=by omega
   subst e0;exact DW m ⟨c,h1,M,⋯,⋯⟩ (by simp;omega) λU D q d=>by rw[O]at D;cases D;exact R q d
theorem Fu(m:MH prog w A J a₀ kd r a b){st:SortSt}(hk:kindOf st=kd){o:PA}{i j g u v:Nat}(h:jm r a b o i j) :
  fu (model prog w) A E J (j3 a b i j o g u v) (λt st'=>SG st st'/\match t with
   | .done s=>PH r a b (o.size+1) s.1 s.2.1 s.2.2.1 s.2.2.2.1
   | .yield s=>s.1=none/\PH r a b (o.size+1) s.1 s.2.1 s.2.2.1 s.2.2.2.1) st:=by
 unfold j3;refine aA (mQ λst' z=>?_);have d:kindOf st'=kd:=z.1.trans hk;have h1:=h.hi;have h2:=h.hj;have h3:=h.hi';have L:=h.hj'
 obtain⟨y,I,b2,Z,Y⟩:=fX b m.sb (i:=j) ⋯ L;refine aA (cI I (aA (qK m.C d (m.hb _ Z) ⋯ ⋯ (by rw[KP];exact λp D=>m.ha p (q0H D)) (by rw[KP];exact m.sa.sublist (List.take_sublist _ _)) λe G O f2=>?_)));rw[KP]at O f2;dsimp only;have T:∀p,p∈((a.toList.take i).drop e).reverse->∀q,q∈(b.toList.take j).reverse->r q<=r p:=λp D q c=>by
  have q1:r y<r p:=kM (f2 p (List.mem_reverse.mp D));have:=Y q (List.mem_reverse.mp c);omega
 have M:∀q,q∈a.toList.take e->r q<=r y:=λq c=>O q (by rw[List.take_take,KO G];exact c)
 by_cases n:i-e>0
 ·rw[q07 n]
  have l:uB r a b (o++(a.extract e i).reverse) e j:=by
   have mi:=h.mi;unfold uB at mi ⊢;rw[q0V,xC a G];rw[qd a.toList G]at mi;exact mi.takeX (gt m.sa) T
  by_cases B:(e==0)=true
  ·rw[q07 B];exact aF ⟨z,FU m l (.inl (eq_of_beq B))⟩
  ·rw[q06 B]
   exact bV (DP (k:=o.size) m d ⟨l,by have:=cS B;omega,⋯,h2,L⟩ (by simp) λR x q c=>by rw[I]at x;cases x;exact M q c) λt S q=>⟨by rw[q.1];exact z,q.2⟩
 ·rw[q06 n]
  have U:e=i:=by omega
  subst U;exact bV (DP (k:=o.size) m d h (Kg _) λR x q c=>by rw[I]at x;cases x;exact M q c) λt S q=>⟨by rw[q.1];exact z,q.2⟩
theorem FZ(m:MH prog w A J a₀ kd r a b){st:SortSt}(hk:kindOf st=kd){s:H0}(h:jm r a b s.2.2.2.1 s.2.1 s.2.2.1) :
  fu (model prog w) A E J (GH a b s) (λt st'=>SG st st'/\match t with
   | .done u=>∃z,u.1=some z/\iF r a b z
   | .yield u=>u.1=none/\jm r a b u.2.2.2.1 u.2.1 u.2.2.1/\s.2.2.2.1.size+1<=u.2.2.2.1.size) st:=by
 unfold GH;refine aA (bV (eQ (I:=λx c st'=>st'=st/\c.1=none/\jm r a b c.2.2.2.1 c.2.1 c.2.2.1/\s.2.2.2.1.size+x<=c.2.2.2.1.size)
  (Q:=λc st'=>st'=st/\PH r a b (s.2.2.2.1.size+1) c.1 c.2.1 c.2.2.1 c.2.2.2.1) ?s1 ?e1 ⟨rfl,rfl,h,Kg _⟩) ?p1)
 case e1=>
  rintro c st' ⟨rfl,D,k,C⟩;have:=k.lt;omega
 case s1=>
  rintro x c st' _ C ⟨rfl,D,k,G⟩;refine bV (FR m hk k) λt d q=>?_;obtain⟨rfl,q⟩:=q;cases t with
  |done u=>
   refine⟨rfl,?_⟩;dsimp only at q
   revert q;unfold PH;cases u.1 with
   |some z=>exact id
   |none=>exact λq=>⟨q.1,by have:=q.2;omega⟩
  |yield u=>
   obtain⟨y,p⟩:=q;rw[y]at p;exact⟨rfl,y,p.1,by have:=p.2;omega⟩
 case p1=>
  rintro⟨z,i,j,o,u,v⟩ st' ⟨rfl,q⟩;cases z with
  |some z=>exact aF ⟨SG.refl _,z,rfl,q⟩
  |none=>
   obtain⟨k,G⟩:=q;dsimp only;refine aA (jz λ_ L=>wpAny_rule ⟨L,?_⟩);refine aA (bV (eQ (I:=λx c d=>SG st' d/\c.1=none/\jm r a b c.2.2.2.1 c.2.1 c.2.2.1/\s.2.2.2.1.size+1<=c.2.2.2.1.size)
    (Q:=λc d=>SG st' d/\PH r a b (s.2.2.2.1.size+1) c.1 c.2.1 c.2.2.1 c.2.2.2.1) ?s2 ?e2 ⟨SG.refl _,rfl,k,G⟩) ?p2)
   case e2=>
    rintro c d ⟨n,D,k,C⟩;exact⟨n,by rw[D];exact⟨k,C⟩⟩
   case s2=>
    rintro x c d _ C ⟨n,D,k,G⟩;have B:∀g,fu (model prog w) A E J (j3 a b c.2.1 c.2.2.1 c.2.2.2.1 g c.2.2.2.2.2.1 c.2.2.2.2.2.2) (λt e=>match t with
      | .done c'=>SG st' e/\PH r a b (s.2.2.2.1.size+1) c'.1 c'.2.1 c'.2.2.1 c'.2.2.2.1
      | .yield c'=>SG st' e/\c'.1=none/\jm r a b c'.2.2.2.1 c'.2.1 c'.2.2.1/\s.2.2.2.1.size+1<=c'.2.2.2.1.size) d:=by
     intro g;refine bV (Fu m (n.1.trans hk) k) λt e q=>?_;obtain⟨l,q⟩:=q;cases t with
     |done u=>
      refine⟨n.trans l,?_⟩;dsimp only at q
      revert q;unfold PH;cases u.1 with
      |some z=>exact id
      |none=>exact λq=>⟨q.1,by have:=q.2;omega⟩
     |yield u=>
      obtain⟨y,p⟩:=q;rw[y]at p;exact⟨n.trans l,y,p.1,by have:=p.2;omega⟩
    split
    ·exact bV (B _) λt e q=>by cases t<;>exact q
    ·exact bV (B _) λt e q=>by cases t<;>exact q
   case p2=>
    rintro⟨z,i2,j2,o2,g2,u2,v2⟩ d ⟨n,q⟩;cases z with
    |some z=>exact aF ⟨n,z,rfl,q⟩
    |none=>exact aA (mQ λe l=>aF ⟨n.trans l,rfl,q.1,q.2⟩)
theorem ym(m:MH prog w A J a₀ kd r a b){st:SortSt}(hk:kindOf st=kd){Q:PA->SortSt->Prop}(hl:∀x,a[a.size-1]?=some x->∀q,q∈b.toList->r q<=r x)
  (na:0<a.toList.length) (nb:0<b.toList.length) (h:∀l st',SG st st'->iF r a b l->Q l st'):fu (model prog w) A E J (uS a b) Q st:=by
 rw[vA];unfold DC
 obtain⟨x,B,D,a3,a4⟩:=fX a m.sa (i:=a.toList.length) na (Kg _);have C:a.toList.length=a.size:=by simp
 have y:b.toList.length=b.size:=by simp
 rw[C]at B D;refine aA (jz λs j=>wpAny_rule ⟨j,aA (cI B ?_)⟩);have o:uB r a b #[x] (a.size-1) b.size:=by
  have h1:=MI.start (le:=zR r) a.toList.reverse b.toList.reverse;have O:a.toList.reverse=x::(a.toList.take (a.size-1)).reverse:=by rw[<- D,<- C,Kv]
  have h2:MI (zR r) a.toList.reverse b.toList.reverse [] (x::(a.toList.take (a.size-1)).reverse) b.toList.reverse:=by rw[<- O];exact h1
  have M:=h2.oneX (gt m.sa) λq L=>hl x B q (List.mem_reverse.mp L);unfold uB;rw[show b.toList.take b.size=b.toList by rw[<- y,Kv]];exact M
 by_cases n:(a.size-1==0)=true
 ·rw[q07 n];exact aF (h _ _ (SG.refl _) (FU m o (.inl (eq_of_beq n))))
 ·rw[q06 n]
  by_cases d:(b.size==1)=true
  ·rw[q07 d];exact aF (h _ _ (SG.refl _) (Gb m o (eq_of_beq d) nb))
  ·rw[q06 d]
   refine aA (gN ?_);refine aA (bV (eQ (I:=λx c st'=>SG st st'/\c.1=none/\jm r a b c.2.2.2.1 c.2.1 c.2.2.1/\x+1<=c.2.2.2.1.size)
    (Q:=λc st'=>SG st st'/\∃z,c.1=some z/\iF r a b z) ?s ?e ⟨SG.refl _,rfl,⟨o,by have:=cS n;show 0<a.size-1;omega,by show a.size-1<=_;omega,by have:=cS d;show 1<b.size;omega,by show b.size<=_;omega⟩,by simp⟩) ?p)
   case e=>
    rintro c st' ⟨_,R,v,G⟩;have:=v.lt;omega
   case s=>
    rintro x c st' _ G ⟨k,R,v,hz⟩;refine bV (FZ m (k.1.trans hk) v) λt st2 q=>?_;obtain⟨g,q⟩:=q;cases t with
    |done u=>exact⟨k.trans g,q⟩
    |yield u=>exact⟨k.trans g,q.1,q.2.1,by have:=q.2.2;omega⟩
   case p=>
    rintro⟨z,u⟩ st' ⟨k,z',e,q⟩;dsimp only at e;subst e;exact aF (h _ _ k q)
end
section
variable {prog:K2}{w:K5}{A:K4}{E:KQ}{J:Shared->Prop}{a₀:Array Keyed}{kd:SortKind}{r:Keyed->Nat}
theorem xM(s:Nat):∀(l:List Keyed) (n:Nat) (arr:PA),s+n+l.length<=arr.toList.length ->
  ((l.zipIdx n).foldl (λa (x:Keyed×Nat)=>a.setIfInBounds (s+x.2) x.1) arr).toList=arr.toList.take (s+n)++l++arr.toList.drop (s+n+l.length)
 | [],n,arr,h=>by simp
 |p::l,n,arr,h=>by
  rw[List.zipIdx_cons,List.foldl_cons,xM s l (n+1) _ (by simp at h ⊢;omega),Array.toList_setIfInBounds];dsimp only;have hlt:s+n<arr.toList.length:=by simp at h ⊢;omega
  have c:(arr.toList.set (s+n) p).take (s+(n+1))=arr.toList.take (s+n)++[p]:=by
   rw[show s+(n+1)=(s+n)+1 by omega,List.take_succ_eq_append_getElem (by simpa using hlt),List.take_set_of_le (Kg _),List.getElem_set_self]
  have b:(arr.toList.set (s+n) p).drop (s+(n+1)+l.length)=arr.toList.drop (s+n+(p::l).length):=by
   rw[List.drop_set_of_lt ⋯];congr 1;simp;omega
  rw[c,b];simp
structure SB(a₀:PA)(kd:SortKind)(st:SortSt):Prop where
 perm:(arrOf st).toList.Perm a₀.toList
 kind:kindOf st=kd
 failed:failedOf st=none
theorem qW{l u x v:List Keyed}(e:l=u++(x++v)):(l.drop u.length).take x.length=x:=by
 rw[e,List.drop_left,List.take_left]
theorem yi{st:SortSt}{Q:Bool->SortSt->Prop}(C:pG prog w A J a₀ kd r)(B:SB a₀ kd st){p1 p2:List (Nat×Nat×Nat)}{pw pw':Nat}{u x y v:List Keyed}
  (hp:(pendingOf st).toList=p1++(u.length,x.length,pw)::(u.length+x.length,y.length,pw')::p2) (ha:(arrOf st).toList=u++(x++(y++v)))
  (hx:x≠[]) (hy:y≠[]) (sx:x.Pairwise (gW r)) (sy:y.Pairwise (gW r))
  (h:∀st' z,SB a₀ kd st'->(pendingOf st').toList=p1++(u.length,x.length+y.length,pw)::p2->(arrOf st').toList=u++(z++v)->z.Perm (x++y)->z.Pairwise (gW r)->Q true st') :
  fu (model prog w) A E J (mergeAt' p1.length) Q st:=by
 unfold mergeAt';refine aA (gN ?_);have e1:(pendingOf st)[p1.length]?=some (u.length,x.length,pw):=by rw[<- q0G,hp];simp
 have e2:(pendingOf st)[p1.length+1]?=some (u.length+x.length,y.length,pw'):=by rw[<- q0G,hp];simp
 have hL:u.length+x.length+y.length<=(arrOf st).toList.length:=by rw[ha];simp;omega
 have m:∀p,p∈x++y->p∈a₀.toList:=λp c=>B.perm.mem_iff.mp (by
  rw[ha];rcases J8.mp c with q | q<;>simp[q])
 obtain⟨d,g,rfl⟩:∃d g,y=d::g:=by cases y with | nil=>exact q0Q rfl hy | cons p q=>exact⟨p,q,rfl⟩
 have ey:(arrOf st)[u.length+x.length]?=some d:=by rw[<- q0G,ha,Kd ⋯,Kd ⋯];simp
 have a0:0<x.length:=List.length_pos_iff.mpr hx;have ex:(arrOf st)[u.length+x.length-1]?=some (x[x.length-1]'⋯):=by
  rw[<- q0G,ha,Kd ⋯,Ke ⋯,JT ⋯];congr 2;omega
 generalize M:(x[x.length-1]'⋯)=xl at ex;have a1:xl∈x:=by rw[<- M];exact J3 _
 have lst:∀p,p∈x->r p<=r xl:=λp c=>by
  obtain⟨t,ht,e⟩:=List.mem_iff_getElem.mp c;rw[<- e,<- M];rcases Nat.lt_or_ge t (x.length-1) with q | q
  ·exact(List.pairwise_iff_getElem.mp sx) _ _ _ _ q
  ·have:t=x.length-1:=by omega
   subst this;exact Kg _
 have hd:∀q,q∈d::g->r d<=r q:=λq hq=>by
  rcases J_.mp hq with rfl | hq
  ·exact Kg _
  ·exact(List.pairwise_cons.mp sy).1 q hq
 have G:((arrOf st).toList.drop u.length).take x.length=x:=qW ha;have D:((arrOf st).toList.drop (u.length+x.length)).take (d::g).length=d::g:=by
  have:=qW (l:=(arrOf st).toList) (u:=u++x) (x:=d::g) (v:=v) (by rw[ha];simp)
  rwa [Kf]at this
 have j:(((pendingOf st).setIfInBounds p1.length (u.length,x.length+(d::g).length,pw)).eraseIdxIfInBounds (p1.length+1)).toList=p1++(u.length,x.length+(d::g).length,pw)::p2:=by
  rw[Array.toList_eraseIdxIfInBounds,Array.toList_setIfInBounds,hp];simp[List.eraseIdx_append_of_length_le]
 have o:∀st',SB a₀ kd st'->(pendingOf st').toList=p1++(u.length,x.length+(d::g).length,pw)::p2->arrOf st'=arrOf st->(∀p,p∈x->∀q,q∈d::g->r p<=r q)->Q true st':=λst' B' p' a' q=>
  h st' (x++(d::g)) B' p' (by rw[a',ha,Kt]) (List.Perm.refl _) (List.pairwise_append.mpr ⟨sx,sy,q⟩)
 dsimp only;rw[e1,e2];dsimp only;refine aA (FF ?_);refine aA (cI ey (aA (qK C B.kind (m _ (by simp)) a0 (by show u.length+x.length<=(arrOf st).toList.length;omega) (by rw[G];exact λp q=>m p (q0D _ q)) (by rw[G];exact sx) λk hk f1 f2=>?_)));rw[G]at f1 f2;dsimp only;have g1:∀p,p∈x.take k->r p<=r d:=f1;have g2:∀p,p∈x.drop k->r d<r p:=λp c=>kM (f2 p c)
 by_cases hc:(x.length-k==0)=true
 ·rw[q07 hc]
  have:x.take k=x:=q0F (by have:=eq_of_beq hc;omega);rw[this]at g1;exact aF (o _ ⟨B.perm,B.kind,B.failed⟩ j rfl λp c q hq=>Kn (g1 p c) (hd q hq))
 ·rw[q06 hc]
  have hc':=cS hc;refine aA (cI (p:=xl) (by rw[show u.length+k+(x.length-k)-1=u.length+x.length-1 by omega];exact ex) (aA (qK C B.kind (m _ (q0D _ a1)) (by simp) (by simpa using hL) (by rw[D];exact λp q=>m p (q0C _ q)) (by rw[D];exact sy) λn hn f3 f4=>?_)));rw[D]at f3 f4;dsimp only;have g3:∀p,p∈(d::g).take n->r p<r xl:=f3;have g4:∀p,p∈(d::g).drop n->r xl<=r p:=λp c=>kM (f4 p c)
  by_cases I:(n==0)=true
  ·rw[q07 I]
   have e0:n=0:=eq_of_beq I;subst e0;exact aF (o _ ⟨B.perm,B.kind,B.failed⟩ j rfl λp c q hq=>Kn (lst p c) (g4 q hq))
  ·rw[q06 I]
   have hn0':=cS I;have S:((arrOf st).extract (u.length+k) (u.length+x.length)).toList=x.drop k:=by
    rw[show u.length+x.length=(u.length+k)+(x.length-k) by omega,m_,<- List.drop_drop,<- List.drop_take,G]
   have R:((arrOf st).extract (u.length+x.length) (u.length+x.length+n)).toList=(d::g).take n:=by
    rw[m_];have:=q0R (List.take n) D
    rwa [List.take_take,KO hn]at this
   generalize(arrOf st).extract (u.length+k) (u.length+x.length)=aa at S ⊢;generalize(arrOf st).extract (u.length+x.length) (u.length+x.length+n)=bb at R ⊢;have la:aa.toList.length=x.length-k:=by rw[S,Kx]
   have lb:bb.toList.length=n:=by rw[R,Kw];omega
   have h0:∀y,bb[0]?=some y->∀q,q∈aa.toList->r y<=r q:=λy e q hq=>by
    rw[<- q0G,R]at e;have:y=d:=by
     rw[List.getElem?_take,q07 ⋯]at e;exact(q0S e).symm
    subst this;rw[S]at hq;exact q0P (g2 q hq)
   have hl:∀z,aa[aa.toList.length-1]?=some z->∀q,q∈bb.toList->r q<=r z:=λz e q hq=>by
    rw[<- q0G,la,S,List.getElem?_drop,show k+(x.length-k-1)=x.length-1 by omega,JT ⋯,M]at e;cases e;rw[R]at hq;exact q0P (g3 q hq)
   have Z:∀p,p∈aa.toList->p∈a₀.toList:=λp c=>m p (q0D _ (q0I (by rw[<- S];exact c)));have Y:∀p,p∈bb.toList->p∈a₀.toList:=λp c=>m p (q0C _ (q0H (by rw[<- R];exact c)));have U:aa.toList.Pairwise (gW r):=by rw[S];exact sx.sublist (List.drop_sublist _ _)
   have T:bb.toList.Pairwise (gW r):=by rw[R];exact sy.sublist (List.take_sublist _ _)
   have fin:∀(l:PA) (st':SortSt),kindOf st'=kd->arrOf st'=arrOf st->(pendingOf st').toList=p1++(u.length,x.length+(d::g).length,pw)::p2->failedOf st'=none->iF r aa bb l ->
     Q true (setArr st' (l.toList.zipIdx.foldl (λa (x:Keyed×Nat)=>a.setIfInBounds (u.length+k+x.2) x.1) (arrOf st'))):=by
    intro l st' k' a' p' O good;have i:=good.2;rw[S,R]at i;have ll:=i.length_eq;rw[Kf,Kx,Kw,KO hn]at ll;have ez:(l.toList.zipIdx.foldl (λa (x:Keyed×Nat)=>a.setIfInBounds (u.length+k+x.2) x.1) (arrOf st')).toList=u++((x.take k++l.toList++(d::g).drop n)++v):=by
     rw[xM (u.length+k) l.toList 0 _ (by rw[a'];omega),a',ha,ll];rw[show u.length+k+0=u.length+k by omega,List.take_length_add_append,List.take_append_of_le_length hk,
      show u.length+k+(x.length-k+n)=u.length+(x.length+n) by omega,List.drop_length_add_append,List.drop_length_add_append,List.drop_append_of_le_length hn]
     simp only[Kt]
    have zp:(x.take k++l.toList++(d::g).drop n).Perm (x++(d::g)):=by
     refine((i.append_left (x.take k)).append_right _).trans ?_;rw[<- Kt,List.take_append_drop,Kt,List.take_append_drop]
    refine h _ (x.take k++l.toList++(d::g).drop n) ⟨?_,k',O⟩ p' ez zp ?_
    ·have pz:(u++((x.take k++l.toList++(d::g).drop n)++v)).Perm a₀.toList:=by
      refine List.Perm.trans ?_ (show((arrOf st).toList).Perm _ from B.perm);rw[ha];refine List.Perm.append_left u ?_;rw[<- Kt x];exact zp.append_right v
     rw[<- ez]at pz;exact pz
    ·have ml:∀p,p∈l.toList->p∈x.drop k\/p∈(d::g).take n:=λp c=>J8.mp (i.mem_iff.mp c)
     refine List.pairwise_append.mpr ⟨List.pairwise_append.mpr ⟨sx.sublist (List.take_sublist _ _),good.1,λp c q hq=>?_⟩,sy.sublist (List.drop_sublist _ _),λp c q hq=>?_⟩
     ·rcases ml q hq with q1 | q1
      ·exact Kn (g1 p c) (q0P (g2 q q1))
      ·exact Kn (g1 p c) (hd q (q0H q1))
     ·rcases J8.mp c with q1 | q1
      ·exact Kn (lst p (q0H q1)) (g4 q hq)
      ·rcases ml p q1 with q2 | q2
       ·exact Kn (lst p (q0I q2)) (g4 q hq)
       ·exact Kn (q0P (g3 p q2)) (g4 q hq)
   split
   ·refine aA (zo (a:=aa) (b:=bb) ⟨C,Z,Y,U,T,hl⟩ (by exact B.kind) h0 ⋯ ⋯ λl st' L good=>?_)
    refine aA (dj (aA (gN (aF ?_))));have O:failedOf st'=none:=L.2.2.2.trans B.failed;have:=fin l st' (L.1.trans B.kind) L.2.1 (by rw[L.2.2.1];exact j) O good;show Q (failedOf st').isNone _;rw[O];exact this
   ·refine aA (ym (a:=aa) (b:=bb) ⟨C,Z,Y,U,T,h0⟩ (by exact B.kind) (by simpa using hl) ⋯ ⋯ λl st' L good=>?_)
    refine aA (dj (aA (gN (aF ?_))));have O:failedOf st'=none:=L.2.2.2.trans B.failed;have:=fin l st' (L.1.trans B.kind) L.2.1 (by rw[L.2.2.1];exact j) O good;show Q (failedOf st').isNone _;rw[O];exact this
end
abbrev As:=Option (Option Nat)×Nat
abbrev Ds:=Option (Option Nat)×Nat×Nat
def Fd(lo a n:Nat):SM As:=forIn [a:n] ((none,a):As) λ_ s=>ltAt' (lo+s.2) (lo+s.2-1) >>= λt=>match t with
 |some t=>if t=true then pure (.done (none,s.2)) else pure (.yield (none,s.2+1))
 |_=>pure (.done (some none,s.2))
def DL(lo m n:Nat):SM (Option Nat):=reverseSlice' lo (lo+m) >>= λ_=>Fd lo m n >>= λs=>match s.1 with
 |some z=>pure z
 |none=>pure (some s.2)
def Gc(lo m n:Nat):SM Ds:=forIn [m:n] ((none,m,0):Ds) λ_ s=>ltAt' (lo+s.2.1) (lo+s.2.1-1) >>= λt=>match t with
 |some t=>if t=true then
   if s.2.2>0 then reverseSlice' (lo+s.2.1-(s.2.2+1)) (lo+s.2.1) >>= λ_=>pure (.yield (none,s.2.1+1,0)) else pure (.yield (none,s.2.1+1,0))
  else ltAt' (lo+s.2.1-1) (lo+s.2.1) >>= λt=>match t with
   |some t=>if t=true then pure (.done (none,s.2.1,s.2.2)) else pure (.yield (none,s.2.1+1,s.2.2+1))
   |_=>pure (.done (some none,s.2.1,s.2.2))
 |_=>pure (.done (some none,s.2.1,s.2.2))
def E9(lo m n:Nat):SM (Option Nat):=liftM (rule "list.sort.descending-run") >>= λ_=>Gc lo (m+1) n >>= λs=>match s.1 with
 |some z=>pure z
 |none=>if s.2.2>0 then reverseSlice' (lo+s.2.1-(s.2.2+1)) (lo+s.2.1) >>= λ_=>DL lo s.2.1 n else DL lo s.2.1 n
def A6(lo n:Nat):SM (Option Nat):=Fd lo 1 n >>= λs=>match s.1 with
 |some z=>pure z
 |none=>if(s.2==n)=true then pure (some s.2) else if s.2>1 then ltAt' lo (lo+s.2-1) >>= λt=>match t with
   |some t=>if t=true then pure (some s.2) else reverseSlice' lo (lo+s.2) >>= λ_=>E9 lo s.2 n
   |_=>pure none
  else E9 lo s.2 n
theorem ld{β:Type}{rg:Std.Legacy.Range}{c:β}{f g:Nat->β->SM (ForInStep β)}(h:∀x s,f x s=g x s):(forIn rg c f:SM β)=forIn rg c g:=by
 rw[show f=g from funext λx=>funext λs=>h x s]
theorem sM(lo m n:Nat){f:As->SM (Option Nat)}(h:∀s,f s=match s.1 with | some z=>pure z | none=>pure (some s.2)){F:Nat->As->SM (ForInStep As)}
  (hF:∀x s,F x s=(ltAt' (lo+s.2) (lo+s.2-1) >>= λt=>match t with
   |some t=>if t=true then pure (.done (none,s.2)) else pure (.yield (none,s.2+1))
   |_=>pure (.done (some none,s.2)))):(reverseSlice' lo (lo+m) >>= λ_=>(forIn [m:n] ((none,m):As) F:SM As) >>= f)=DL lo m n:=by
 unfold DL Fd;exact aZ rfl λ_=>aZ (ld hF) h
theorem uX(lo n:Nat):countRun' lo n=A6 lo n:=by
 have a:∀(m:Nat) {G:Ds->SM (Option Nat)} {F:Nat->Ds->SM (ForInStep Ds)},
   (∀s:Ds,G s=match s.1 with
    |some z=>pure z
    |none=>if s.2.2>0 then reverseSlice' (lo+s.2.1-(s.2.2+1)) (lo+s.2.1) >>= λ_=>DL lo s.2.1 n else DL lo s.2.1 n) ->
   (∀x s,F x s=(ltAt' (lo+s.2.1) (lo+s.2.1-1) >>= λt=>match t with
    |some t=>if t=true then
      if s.2.2>0 then reverseSlice' (lo+s.2.1-(s.2.2+1)) (lo+s.2.1) >>= λ_=>pure (.yield (none,s.2.1+1,0)) else pure (.yield (none,s.2.1+1,0))
     else ltAt' (lo+s.2.1-1) (lo+s.2.1) >>= λt=>match t with
      |some t=>if t=true then pure (.done (none,s.2.1,s.2.2)) else pure (.yield (none,s.2.1+1,s.2.2+1))
      |_=>pure (.done (some none,s.2.1,s.2.2))
    |_=>pure (.done (some none,s.2.1,s.2.2)))) ->
   ((liftM (rule "list.sort.descending-run"):SM Unit) >>= λ_=>(forIn [m+1:n] ((none,m+1,0):Ds) F:SM Ds) >>= G)=E9 lo m n:=by
  intro m G F b c;unfold E9 Gc;exact aZ rfl λ_=>aZ (ld c) b
 unfold A6 Fd;refine aZ (ld λx s=>rfl) λs=>?_;obtain⟨z,m⟩:=s;cases z with
 |some z=>rfl
 |none=>
  refine dS rfl (dS (aZ rfl λt=>?_) ?_)
  ·cases t with
   |none=>rfl
   |some t=>
    refine dS rfl (aZ rfl λ_=>a m (λs=>?_) λx s=>rfl);obtain⟨z,m,q⟩:=s;cases z with
    |some z=>rfl
    |none=>exact dS (aZ rfl λ_=>sM lo m n (λs=>by obtain⟨z,m⟩:=s;cases z<;>rfl) λx s=>rfl) (sM lo m n (λs=>by obtain⟨z,m⟩:=s;cases z<;>rfl) λx s=>rfl)
  ·refine a m (λs=>?_) λx s=>rfl
   obtain⟨z,m,q⟩:=s;cases z with
   |some z=>rfl
   |none=>exact dS (aZ rfl λ_=>sM lo m n (λs=>by obtain⟨z,m⟩:=s;cases z<;>rfl) λx s=>rfl) (sM lo m n (λs=>by obtain⟨z,m⟩:=s;cases z<;>rfl) λx s=>rfl)
section
variable {prog:K2}{w:K5}{A:K4}{E:KQ}{J:Shared->Prop}{a₀:Array Keyed}{kd:SortKind}{r:Keyed->Nat}
def Kr(r:Keyed->Nat)(xs:PA)(i:Nat):Nat:=match xs[i]? with
 |some p=>r p
 |none=>0
theorem ue{xs ys:PA}{i j:Nat}(h:xs[i]?=ys[j]?):Kr r xs i=Kr r ys j:=by unfold Kr;rw[h]
def Up(r:Keyed->Nat)(xs:PA)(lo n:Nat):Prop:=∀i j,i<=j->j<n->Kr r xs (lo+i)<=Kr r xs (lo+j)
def Dn(r:Keyed->Nat)(xs:PA)(lo n:Nat):Prop:=∀i j,i<=j->j<n->Kr r xs (lo+j)<=Kr r xs (lo+i)
structure KB(a₀:PA)(kd:SortKind)(lo:Nat)(st₀ st:SortSt):Prop where
 sb:SB a₀ kd st
 pe:pendingOf st=pendingOf st₀
 be:∀i,i<lo->(arrOf st)[i]?=(arrOf st₀)[i]?
theorem SB.size{st:SortSt}(h:SB a₀ kd st):(arrOf st).size=a₀.size:=by simpa using h.perm.length_eq
theorem KB.set{lo:Nat}{st₀ st:SortSt}(h:KB a₀ kd lo st₀ st){xs:PA}(hp:xs.Perm (arrOf st))(hb:∀i,i<lo->xs[i]?=(arrOf st)[i]?):KB a₀ kd lo st₀ (setArr st xs):=
 ⟨⟨(Array.perm_iff_toList_perm.mp hp).trans h.sb.perm,h.sb.kind,h.sb.failed⟩,h.pe,λi hi=>(hb i hi).trans (h.be i hi)⟩
theorem uO(C:pG prog w A J a₀ kd r){st:SortSt}(B:SB a₀ kd st){i j:Nat}(hi:i<a₀.size)(hj:j<a₀.size){Q:Option Bool->SortSt->Prop}
  (h:Q (some (decide (Kr r (arrOf st) i<Kr r (arrOf st) j))) st):fu (model prog w) A E J (ltAt' i j) Q st:=by
 have a:∀k,k<a₀.size->∃p,(arrOf st)[k]?=some p/\p∈a₀.toList:=λk g=>by
  have b:k<(arrOf st).size:=by rw[B.size];exact g
  exact⟨(arrOf st)[k],getElem?_pos _ k b,B.perm.mem_iff.mp (by simp)⟩
 obtain⟨p,d,m1⟩:=a i hi;obtain⟨q,c,e⟩:=a j hj;rw[ltAt'_eq];refine aA (gN (aA (cI d (aA (cI c (zX C m1 e B.kind ?_))))));unfold Kr at h;rw[d,c]at h;exact h
theorem lK{xs:PA}{i j:Nat}(hj:j<=xs.size)(k:Nat):Kr r (mirror xs i j ((j-i)/2)) k=if i<=k/\k<j then Kr r xs (i+j-1-k) else Kr r xs k:=by
 have e:=getElem?_mirror_all (i:=i) hj k
 by_cases h1:i<=k/\k<j
 ·rw[q07 h1]at e ⊢;exact ue e
 ·rw[q06 h1]at e ⊢;exact ue e
theorem dk{xs:PA}{i j:Nat}(hj:j<=xs.size)(heq:∀k,i<=k->k<j->Kr r xs k=Kr r xs (j-1))(k:Nat):Kr r (mirror xs i j ((j-i)/2)) k=Kr r xs k:=by
 rw[lK hj]
 split
 ·rw[heq _ ⋯ ⋯,heq k ⋯ ⋯]
 ·rfl
theorem xV{lo i j:Nat}{st₀ st:SortSt}(B:KB a₀ kd lo st₀ st)(hi:lo<=i)(hj:j<=a₀.size){Q:Unit->SortSt->Prop}
  (h:KB a₀ kd lo st₀ (setArr st (mirror (arrOf st) i j ((j-i)/2)))->Q () (setArr st (mirror (arrOf st) i j ((j-i)/2)))):fu (model prog w) A E J (reverseSlice' i j) Q st:=by
 rw[reverseSlice'_eq];refine dj (h (B.set (mirror_perm _ _ _ _) λk hk=>?_));rw[getElem?_mirror_all (by rw[B.sb.size];exact hj),q06 ⋯]
theorem DR(C:pG prog w A J a₀ kd r){st:SortSt}(B:SB a₀ kd st){lo a n:Nat}{Q:As->SortSt->Prop}(hn:lo+n<=a₀.size)(ha:1<=a)(han:a<=n)(hs:Up r (arrOf st) lo a)
  (h:∀m,a<=m->m<=n->Up r (arrOf st) lo m->(m=n\/Kr r (arrOf st) (lo+m)<Kr r (arrOf st) (lo+m-1))->Q (none,m) st):fu (model prog w) A E J (Fd lo a n) Q st:=by
 unfold Fd;refine eQ (I:=λx c d=>d=st/\c=(none,x)/\Up r (arrOf st) lo x) ?s ?e ⟨rfl,rfl,hs⟩
 case e=>
  rintro c d ⟨rfl,rfl,b⟩;rw[show max a n=n by omega]at b ⊢;exact h n han (Kg _) b (.inl rfl)
 case s=>
  rintro x c d q hxn ⟨rfl,rfl,b⟩;dsimp only;refine aA (uO C B ⋯ ⋯ ?_)
  by_cases g:Kr r (arrOf d) (lo+x)<Kr r (arrOf d) (lo+x-1)
  ·simp only[g,decide_true,if_true]
   exact aF (h x q ⋯ b (.inr g))
  ·simp only[g,decide_false,q0a,if_false]
   refine aF ⟨rfl,rfl,λi j o hj=>?_⟩
   by_cases k:j<x
   ·exact b i j o k
   ·have l:j=x:=by omega
    subst l
    by_cases p:i=j
    ·subst p;exact Kg _
    ·have:=b i (j-1) ⋯ ⋯
     rw[show lo+(j-1)=lo+j-1 by omega]at this;omega
theorem DY(C:pG prog w A J a₀ kd r){st₀ st:SortSt}{lo m n:Nat}(B:KB a₀ kd lo st₀ st){Q:Option Nat->SortSt->Prop}(hn:lo+n<=a₀.size)(h1:1<=m)(hm:m<=n)(hs:Dn r (arrOf st) lo m)
  (h:∀k st',KB a₀ kd lo st₀ st'->1<=k->k<=n->Up r (arrOf st') lo k->Q (some k) st'):fu (model prog w) A E J (DL lo m n) Q st:=by
 unfold DL;have a:lo+m<=(arrOf st).size:=by rw[B.sb.size];omega
 refine aA (xV B (Kg _) ⋯ λb=>?_);refine aA (DR C b.sb hn h1 hm (λi j hij hj=>?_) λk k1 d c _=>aF (h k _ b ⋯ d c));show Kr r (mirror (arrOf st) lo (lo+m) ((lo+m-lo)/2)) (lo+i)<=Kr r (mirror (arrOf st) lo (lo+m) ((lo+m-lo)/2)) (lo+j);rw[lK a,lK a,q07 ⋯,q07 ⋯];have:=hs (m-1-j) (m-1-i) ⋯ ⋯;rw[show lo+(lo+m)-1-(lo+i)=lo+(m-1-i) by omega,show lo+(lo+m)-1-(lo+j)=lo+(m-1-j) by omega];exact this
theorem Fh(C:pG prog w A J a₀ kd r){st₀ st:SortSt}{lo m n:Nat}(B:KB a₀ kd lo st₀ st){Q:Ds->SortSt->Prop}(hn:lo+n<=a₀.size)(h1:1<=m)(hm:m<=n)(hs:Dn r (arrOf st) lo m)
  (h:∀k q st',KB a₀ kd lo st₀ st'->m<=k->k<=n->Dn r (arrOf st') lo k->q+1<=k->(∀i,k-(q+1)<=i->i<k->Kr r (arrOf st') (lo+i)=Kr r (arrOf st') (lo+k-1))->Q (none,k,q) st') :
  fu (model prog w) A E J (Gc lo m n) Q st:=by
 unfold Gc;refine eQ (I:=λx c st'=>∃q,c=(none,x,q)/\KB a₀ kd lo st₀ st'/\Dn r (arrOf st') lo x/\q+1<=x/\(∀i,x-(q+1)<=i->i<x->Kr r (arrOf st') (lo+i)=Kr r (arrOf st') (lo+x-1))) ?s ?e
  ⟨0,rfl,B,hs,⋯,λi h1 h2=>by congr 1;omega⟩
 case e=>
  rintro c st' ⟨q,rfl,d,a,o,g⟩;rw[show max m n=n by omega]at a o g ⊢;exact h n q st' d hm (Kg _) a o g
 case s=>
  rintro x c st' M hxn ⟨q,rfl,d,a,o,g⟩;dsimp only;have S:lo+x<=(arrOf st').size:=by rw[d.sb.size];omega
  have L:∀k,lo+x-(q+1)<=k->k<lo+x->Kr r (arrOf st') k=Kr r (arrOf st') (lo+x-1):=λk k1 k2=>by
   have:=g (k-lo) ⋯ ⋯
   rwa [show lo+(k-lo)=k by omega]at this
  have b:∀{u:PA},(∀k,Kr r u k=Kr r (arrOf st') k)->Kr r (arrOf st') (lo+x)<=Kr r (arrOf st') (lo+x-1)->Dn r u lo (x+1):=by
   intro u O hle i j D hj;rw[O,O]
   by_cases v:j<x
   ·exact a i j D v
   ·have y:j=x:=by omega
    subst y
    by_cases G:i=j
    ·subst G;exact Kg _
    ·have:=a i (j-1) ⋯ ⋯
     rw[show lo+(j-1)=lo+j-1 by omega]at this;omega
  refine aA (uO C d.sb ⋯ ⋯ ?_)
  by_cases p:Kr r (arrOf st') (lo+x)<Kr r (arrOf st') (lo+x-1)
  ·simp only[p,decide_true,if_true]
   by_cases l:q>0
   ·rw[q07 l]
    refine aA (xV d ⋯ ⋯ λU=>aF ⟨0,rfl,U,b (dk S L) (q0P p),⋯,λi h1 h2=>by congr 1;omega⟩)
   ·rw[q06 l]
    exact aF ⟨0,rfl,d,b (λ_=>rfl) (q0P p),⋯,λi h1 h2=>by congr 1;omega⟩
  ·simp only[p,decide_false,q0a,if_false]
   refine aA (uO C d.sb ⋯ ⋯ ?_)
   by_cases R:Kr r (arrOf st') (lo+x-1)<Kr r (arrOf st') (lo+x)
   ·simp only[R,decide_true,if_true]
    exact aF (h x q st' d M ⋯ a o g)
   ·simp only[R,decide_false,q0a,if_false]
    have T:Kr r (arrOf st') (lo+x)=Kr r (arrOf st') (lo+x-1):=by omega
    refine aF ⟨q+1,rfl,d,b (λ_=>rfl) ⋯,⋯,λi h1 h2=>?_⟩;rw[show lo+(x+1)-1=lo+x by omega]
    by_cases z:i=x
    ·subst z;rfl
    ·rw[T];exact g i ⋯ ⋯
theorem DS(C:pG prog w A J a₀ kd r){st₀ st:SortSt}{lo m n:Nat}(B:KB a₀ kd lo st₀ st){Q:Option Nat->SortSt->Prop}(hn:lo+n<=a₀.size)(hm:m+1<=n)(hs:Dn r (arrOf st) lo (m+1))
  (h:∀k st',KB a₀ kd lo st₀ st'->1<=k->k<=n->Up r (arrOf st') lo k->Q (some k) st'):fu (model prog w) A E J (E9 lo m n) Q st:=by
 unfold E9;refine aA (jz λs j=>wpAny_rule ⟨j,?_⟩);refine aA (Fh C B hn ⋯ hm hs λk q st' g o d a hq u=>?_);dsimp only;have l:lo+k<=(arrOf st').size:=by rw[g.sb.size];omega
 by_cases b:q>0
 ·rw[q07 b]
  refine aA (xV g ⋯ ⋯ λv=>DY C v hn ⋯ d (λi j e p=>?_) h);have c:∀t,lo+k-(q+1)<=t->t<lo+k->Kr r (arrOf st') t=Kr r (arrOf st') (lo+k-1):=λt o d=>by
   have:=u (t-lo) ⋯ ⋯
   rwa [show lo+(t-lo)=t by omega]at this
  show Kr r (mirror (arrOf st') _ _ _) _<=Kr r (mirror (arrOf st') _ _ _) _;rw[dk l c,dk l c];exact a i j e p
 ·rw[q06 b]
  exact DY C g hn ⋯ d a h
theorem wZ(C:pG prog w A J a₀ kd r){st:SortSt}{lo n:Nat}(B:SB a₀ kd st){Q:Option Nat->SortSt->Prop}(hn:lo+n<=a₀.size)(h1:1<=n)
  (h:∀k st',KB a₀ kd lo st st'->1<=k->k<=n->Up r (arrOf st') lo k->Q (some k) st'):fu (model prog w) A E J (countRun' lo n) Q st:=by
 rw[uX];unfold A6
 have e:KB a₀ kd lo st st:=⟨B,rfl,λ_ _=>rfl⟩;refine aA (DR C B hn (Kg 1) h1 (λi j c x=>by
  have:i=j:=by omega
  subst this;exact Kg _) λm m1 u d g=>?_)
 dsimp only
 by_cases q:m=n
 ·rw[q07 (by rw[q];exact beq_self_eq_true n)]
  exact aF (h m st e m1 u d)
 ·rw[q06 (by simpa using q)]
  have b:=g.resolve_left q
  by_cases y:m>1
  ·rw[q07 y]
   refine aA (uO C B ⋯ ⋯ ?_)
   by_cases hr:Kr r (arrOf st) lo<Kr r (arrOf st) (lo+m-1)
   ·simp only[hr,decide_true,if_true]
    exact aF (h m st e m1 u d)
   ·simp only[hr,decide_false,q0a,if_false]
    have v:lo+m<=(arrOf st).size:=by rw[B.size];omega
    have all:∀k,lo<=k->k<lo+m->Kr r (arrOf st) k=Kr r (arrOf st) (lo+m-1):=λk k1 k2=>by
     have D:=d 0 (k-lo) ⋯ ⋯;have z:=d (k-lo) (m-1) ⋯ ⋯;rw[show lo+(k-lo)=k by omega]at D z;rw[show lo+(m-1)=lo+m-1 by omega]at z;rw[show lo+0=lo by omega]at D;omega
    refine aA (xV e (Kg _) ⋯ λI=>DS C I hn ⋯ (λi j c x=>?_) h);show Kr r (mirror (arrOf st) _ _ _) _<=Kr r (mirror (arrOf st) _ _ _) _;rw[dk v all,dk v all]
    by_cases hjn:j<m
    ·rw[all (lo+i) ⋯ ⋯,all (lo+j) ⋯ ⋯];exact Kg _
    ·have o:j=m:=by omega
     subst o
     by_cases a:i=j
     ·subst a;exact Kg _
     ·rw[all (lo+i) ⋯ ⋯];exact q0P b
  ·rw[q06 y]
   have G:m=1:=by omega
   subst G;refine DS C e hn ⋯ (λi j c x=>?_) h
   by_cases a:i=j
   ·subst a;exact Kg _
   ·have p:i=0:=by omega
    have l:j=1:=by omega
    subst p;subst l
    exact q0P b
theorem qD{xs:PA}{src d:Nat}(hs:src<xs.size)(hd:d<=src)(k:Nat) :
  Kr r (bubble xs src d) k=if k=src-d then Kr r xs src else if src-d<k/\k<=src then Kr r xs (k-1) else Kr r xs k:=by
 have e:=getElem?_bubble hs d hd k
 by_cases h1:k=src-d
 ·rw[q07 h1]at e ⊢;exact ue e
 ·rw[q06 h1]at e ⊢
  by_cases h2:src-d<k/\k<=src
  ·rw[q07 h2]at e ⊢;exact ue e
  ·rw[q06 h2]at e ⊢;exact ue e
theorem F0(C:pG prog w A J a₀ kd r){st₀ st:SortSt}{lo n ok:Nat}(B:KB a₀ kd lo st₀ st){Q:Bool->SortSt->Prop}(hn:lo+n<=a₀.size)(hok:ok<=n)(hs:Up r (arrOf st) lo ok)
  (h:∀st',KB a₀ kd lo st₀ st'->Up r (arrOf st') lo n->Q true st'):fu (model prog w) A E J (binarySort' lo n ok) Q st:=by
 rw[binarySort'_eq];refine aA (bV (eQ (I:=λk c st'=>c=(none,())/\KB a₀ kd lo st₀ st'/\Up r (arrOf st') lo (min k n)) (Q:=λc st'=>c=(none,())/\KB a₀ kd lo st₀ st'/\Up r (arrOf st') lo n) ?s ?e ?i) ?p)
 case p=>
  rintro c st' ⟨rfl,d,b⟩;exact aF (h st' d b)
 case i=>
  refine⟨rfl,B,λi j o G=>?_⟩
  by_cases h1:ok=0
  ·have:i=j:=by omega
   subst this;exact Kg _
  ·exact hs i j o ⋯
 case e=>
  rintro c st' ⟨M,d,b⟩;refine⟨M,d,?_⟩
  rwa [show min (max (max ok 1) n) n=n by omega]at b
 case s=>
  rintro k c st' hak hkn ⟨rfl,d,b⟩;rw[show min k n=k by omega]at b;refine aA (bV (eQ (I:=λx c a=>a=st'/\∃l u,c=(none,l,u)/\l<=u/\u<=k/\u-l<=k-x /\
    (∀i,i<l->Kr r (arrOf st') (lo+i)<=Kr r (arrOf st') (lo+k))/\(∀i,u<=i->i<k->Kr r (arrOf st') (lo+k)<Kr r (arrOf st') (lo+i)))
   (Q:=λc a=>a=st'/\∃l u,c=(none,l,u)/\l<=k /\
    (∀i,i<l->Kr r (arrOf st') (lo+i)<=Kr r (arrOf st') (lo+k))/\(∀i,l<=i->i<k->Kr r (arrOf st') (lo+k)<Kr r (arrOf st') (lo+i))) ?s2 ?e2 ?i2) ?p2)
  case i2=>exact⟨rfl,0,k,rfl,⋯,⋯,⋯,λi L=>by omega,λi h1 h2=>by omega⟩
  case e2=>
   rintro c a ⟨rfl,l,u,rfl,h1,h2,O,m,g⟩;have:l=u:=by omega
   subst this;exact⟨rfl,l,l,rfl,h2,m,g⟩
  case s2=>
   rintro x c a _ hxk ⟨rfl,l,u,rfl,h1,h2,O,m,g⟩;dsimp only
   by_cases z:l≥u
   ·rw[q07 z]
    have:l=u:=by omega
    subst this;exact aF ⟨rfl,l,l,rfl,h2,m,g⟩
   ·rw[q06 z]
    refine aA (uO C d.sb ⋯ ⋯ ?_)
    by_cases q:Kr r (arrOf a) (lo+k)<Kr r (arrOf a) (lo+(l+u)/2)
    ·simp only[q,decide_true,if_true]
     exact aF ⟨rfl,l,(l+u)/2,rfl,⋯,⋯,⋯,m,λi y D=>Kb q (b _ _ y D)⟩
    ·simp only[q,decide_false,q0a,if_false]
     exact aF ⟨rfl,(l+u)/2+1,u,rfl,⋯,⋯,⋯,λi y=>Kn (b i ((l+u)/2) ⋯ ⋯) (Nat.not_lt.mp q),g⟩
  case p2=>
   rintro c a ⟨rfl,l,u,rfl,h2,m,g⟩;show fu _ _ _ _ (moveDown' (lo+k) (lo+l) >>= λ_=>pure (ForInStep.yield (none,()))) _ _;rw[moveDown'_eq];have v:lo+k<(arrOf a).size:=by rw[d.sb.size];omega
   refine aA (dj (aF ⟨rfl,d.set (bubble_perm _ _ _) λi L=>?_,?_⟩))
   ·rw[getElem?_bubble v _ ⋯,q06 ⋯,q06 ⋯]
   ·rw[show min (k+1) n=k+1 by omega]
    intro i j o G;show Kr r (bubble (arrOf a) (lo+k) (lo+k-(lo+l))) (lo+i)<=Kr r (bubble (arrOf a) (lo+k) (lo+k-(lo+l))) (lo+j);rw[qD v ⋯,qD v ⋯,show lo+k-(lo+k-(lo+l))=lo+l by omega]
    repeat' split
    all_goals first
     | (exfalso;omega)
     |exact Kg _
     |exact m _ ⋯
     | (rw[show lo+j-1=lo+(j-1) by omega];exact q0P (g _ ⋯ ⋯))
     | (rw[show lo+i-1=lo+(i-1) by omega,show lo+j-1=lo+(j-1) by omega];exact b _ _ ⋯ ⋯)
     | (rw[show lo+j-1=lo+(j-1) by omega];exact b _ _ ⋯ ⋯)
     |exact b _ _ ⋯ ⋯
theorem CH{xs:PA}{lo n:Nat}(hz:lo+n<=xs.size)(h:Up r xs lo n):((xs.toList.drop lo).take n).Pairwise (gW r):=by
 rw[List.pairwise_iff_getElem];intro i j g d c;have e:j<n:=by simp at d;omega
 have a:∀k (b:k<((xs.toList.drop lo).take n).length),Kr r xs (lo+k)=r ((xs.toList.drop lo).take n)[k]:=by
  intro k b;unfold Kr;rw[Bs (n:=n) (by simpa using hz) (by simp at b;omega),JT b]
 have:=h i j (q0P c) e;rw[a i g,a j d]at this;exact this
theorem KB.split{lo n:Nat}{st₀ st:SortSt}(B:KB a₀ kd lo st₀ st){u:List Keyed}{v:List Keyed}(e:(arrOf st₀).toList=u++v)(hu:u.length=lo)(hn:lo+n<=a₀.size)(hs:Up r (arrOf st) lo n) :
  ∃x v',(arrOf st).toList=u++(x++v')/\x.length=n/\x.Pairwise (gW r):=by
 have b:lo+n<=(arrOf st).size:=by rw[B.sb.size];exact hn
 refine⟨((arrOf st).toList.drop lo).take n,(arrOf st).toList.drop (lo+n),?_,by simp;omega,CH b hs⟩;have c:(arrOf st).toList.take lo=u:=by
  apply List.ext_getElem?;intro i
  by_cases a:i<lo
  ·rw[List.getElem?_take,q07 a,q0G,B.be i a,<- q0G,e,Ke ⋯]
  ·rw[List.getElem?_take,q06 a,List.getElem?_eq_none ⋯]
 rw[<- List.drop_drop,List.take_append_drop,<- c,List.take_append_drop]
abbrev Pd:=Nat×Nat×Nat
def fQ(r:Keyed->Nat):List Pd->List (List Keyed)->Nat->Prop
 | [],rs,_=>rs=[]
 |e::p,rs,k=>∃x rs',rs=x::rs'/\e.1=k/\e.2.1=x.length/\x≠[]/\x.Pairwise (gW r)/\fQ r p rs' (k+x.length)
theorem fQ.app:∀{p q:List Pd} {rs:List (List Keyed)} {k:Nat},fQ r (p++q) rs k↔∃r1 r2,rs=r1++r2/\fQ r p r1 k/\fQ r q r2 (k+r1.flatten.length)
 | [],q,rs,k=>by
  constructor
  ·exact λh=>⟨[],rs,rfl,rfl,by simpa using h⟩
  ·rintro⟨r1,r2,rfl,h1,h2⟩
   cases(show r1=[] from h1)
   simpa using h2
 |e::p,q,rs,k=>by
  constructor
  ·rintro⟨x,rs',rfl,e1,e2,x0,xs,h⟩
   obtain⟨r1,r2,rfl,h1,h2⟩:=fQ.app.mp h;exact⟨x::r1,r2,rfl,⟨x,r1,rfl,e1,e2,x0,xs,h1⟩,by rw[List.flatten_cons,Kf,<- Nat.add_assoc];exact h2⟩
  ·rintro⟨r1,r2,rfl,⟨x,rs',rfl,e1,e2,x0,xs,h1⟩,h2⟩
   rw[List.flatten_cons,Kf,<- Nat.add_assoc]at h2;exact⟨x,rs'++r2,rfl,e1,e2,x0,xs,fQ.app.mpr ⟨rs',r2,rfl,h1,h2⟩⟩
theorem fQ.many:∀{p:List Pd} {rs:List (List Keyed)} {k:Nat},fQ r p rs k->p.length<=rs.flatten.length
 | [],rs,k,h=>by simp
 |e::p,rs,k,h=>by
  obtain⟨x,rs',rfl,e1,e2,x0,xs,h1⟩:=h;have:=fQ.many h1;have:=List.length_pos_iff.mpr x0;simp;simp at *;omega
theorem fQ.mod{f:Pd->Pd}(hf:∀e,(f e).1=e.1/\(f e).2.1=e.2.1):∀{p:List Pd} {i:Nat} {rs:List (List Keyed)} {k:Nat},fQ r p rs k->fQ r (p.modify i f) rs k
 | [],i,rs,k,h=>by simpa using h
 |e::p,0,rs,k,h=>by
  obtain⟨x,rs',rfl,e1,e2,q⟩:=h;rw[List.modify_zero_cons];exact⟨x,rs',rfl,(hf e).1.trans e1,(hf e).2.trans e2,q⟩
 |e::p,i+1,rs,k,h=>by
  obtain⟨x,rs',rfl,e1,e2,x0,xs,q⟩:=h;rw[List.modify_succ_cons];exact⟨x,rs',rfl,e1,e2,x0,xs,fQ.mod hf q⟩
structure RI(a₀:PA)(kd:SortKind)(r:Keyed->Nat)(st:SortSt)(lo:Nat)(bU:List Keyed):Prop where
 sb:SB a₀ kd st
 ex:∃rs,(arrOf st).toList=rs.flatten++bU/\rs.flatten.length=lo/\fQ r (pendingOf st).toList rs 0
theorem At{α:Type}{l:List α}{i:Nat}(h:i+1<l.length):∃p1 e1 e2 p2,l=p1++e1::e2::p2/\p1.length=i:=by
 refine⟨l.take i,l[i],l[i+1],l.drop (i+2),?_,by simp;omega⟩;have e1:=q0T (l:=l) (i:=i) ⋯;have e2:=q0T (l:=l) (i:=i+1) ⋯;rw[show i+2=i+1+1 by omega,<- e2,<- e1,List.take_append_drop]
theorem lD(C:pG prog w A J a₀ kd r){st:SortSt}{lo i:Nat}{bU:List Keyed}(R:RI a₀ kd r st lo bU)(hi:i+1<(pendingOf st).size){Q:Bool->SortSt->Prop}
  (h:∀st',RI a₀ kd r st' lo bU->(pendingOf st').size+1=(pendingOf st).size->Q true st'):fu (model prog w) A E J (mergeAt' i) Q st:=by
 obtain⟨B,rs,S,O,hr⟩:=R;obtain⟨p1,U,T,p2,d,rfl⟩:=At (l:=(pendingOf st).toList) (i:=i) (by simpa using hi);rw[d]at hr;obtain⟨c,r2,rfl,h1,x,r3,rfl,j,p,k,I,y,b,rfl,g,o,D,G,n⟩:=fQ.app.mp hr;obtain⟨s1,n1,w1⟩:=U;obtain⟨s2,n2,w2⟩:=T;dsimp only at j p g o;rw[Nat.zero_add]at j g;subst j;subst p;subst g;subst o
 refine yi C B (u:=c.flatten) (x:=x) (y:=y) (v:=b.flatten++bU) d (by rw[S];simp) k D I G λst' z Z m Y a q=>h st' ⟨Z,c++z::b,by rw[Y];simp,?_,?_⟩ ?_
 ·have:=a.length_eq
  simp at this O ⊢;omega
 ·rw[m]
  refine fQ.app.mpr ⟨c,z::b,rfl,h1,z,b,rfl,by simp,by have:=a.length_eq;simp at this ⊢;omega,?_,q,?_⟩
  ·intro e
   rw[e]at a;have:=a.length_eq;have:=List.length_pos_iff.mpr k;simp at *;omega
  ·have:=a.length_eq
   rw[Kf]at this;rw[this,<- Nat.add_assoc,Nat.zero_add];rw[Nat.zero_add]at n;exact n
 ·have M:=q0R List.length m
  have L:=q0R List.length d;simp at M L;omega
theorem oj(C:pG prog w A J a₀ kd r){st:SortSt}{Q:Unit->SortSt->Prop}(B:SB a₀ kd st)(hp:pendingOf st=#[])(h1:1<=a₀.size)
  (h:∀st',SB a₀ kd st'->(arrOf st').toList.Pairwise (gW r)->Q () st'):fu (model prog w) A E J sortRuns' Q st:=by
 rw[sortRuns'_eq];refine aA (gN ?_);dsimp only;rw[B.size];generalize minRun' a₀.size a₀.size 0=mr;refine aA (bV (eQ (I:=λx c st'=>∃j,c=(none,j)/\x<=j/\j<=a₀.size/\∃bU,RI a₀ kd r st' j bU) (Q:=λc st'=>c=(none,a₀.size)/\∃bU,RI a₀ kd r st' a₀.size bU) ?s ?e ?i) ?p)
 case i=>exact⟨0,rfl,⋯,⋯,(arrOf st).toList,B,[],by simp,rfl,by rw[hp];rfl⟩
 case e=>
  rintro c st' ⟨j,rfl,h2,h3,R⟩;have:j=a₀.size:=by omega
  subst this;exact⟨rfl,R⟩
 case s=>
  rintro x c st' _ hx ⟨j,rfl,h2,h3,bU,R⟩;dsimp only
  by_cases hg:j≥a₀.size
  ·rw[q07 hg]
   have:j=a₀.size:=by omega
   subst this;exact aF ⟨rfl,bU,R⟩
  ·rw[q06 hg]
   refine aA (wZ C R.sb ⋯ ⋯ λm g B2 m1 m2 hu=>?_);dsimp only
   -- with a run of n from j on: merges,and the run is put behind the others
   have start:∀n d,KB a₀ kd j st' d->1<=n->n<=a₀.size-j->Up r (arrOf d) j n->∃y v,RI a₀ kd r d j (y++v)/\y.length=n/\y≠[]/\y.Pairwise (gW r):=by
    intro n d L O M k;obtain⟨_,u,D,l,hr⟩:=R;obtain⟨y,v,e,S,o⟩:=L.split D l ⋯ k;refine⟨y,v,⟨L.sb,u,e,l,by rw[L.pe];exact hr⟩,S,?_,o⟩;intro q;subst q;simp at S;omega
   have push:∀n d y v,1<=n->n<=a₀.size-j->RI a₀ kd r d j (y++v)->y.length=n->y≠[]->y.Pairwise (gW r) ->
     ∃lo',((none,j+n):Option Unit×Nat)=(none,lo')/\x+1<=lo'/\lo'<=a₀.size/\∃bU,RI a₀ kd r (setPending d ((pendingOf d).push (j,n,0))) lo' bU:=by
    intro n d y v O M T S U o;obtain⟨L,u,D,l,hr⟩:=T;refine⟨j+n,rfl,⋯,⋯,v,⟨L.perm,L.kind,L.failed⟩,u++[y],?_,?_,?_⟩
    ·show(arrOf d).toList=_
     rw[D];simp
    ·simp at l ⊢;omega
    ·show fQ r ((pendingOf d).push (j,n,0)).toList _ _
     rw[Array.toList_push];exact fQ.app.mpr ⟨u,[y],rfl,hr,y,[],rfl,by show j=0+_;rw[l];omega,S.symm,U,o,rfl⟩
   by_cases a0:m<mr
   ·rw[q07 a0]
    refine aA (jz λ_ jj=>wpAny_rule ⟨jj,?_⟩);refine aA (F0 C B2 (n:=min (a₀.size-j) mr) ⋯ ⋯ hu λd L k=>?_);rw[q06 (by decide)];have O:1<=min (a₀.size-j) mr:=by omega
    have M:min (a₀.size-j) mr<=a₀.size-j:=by omega
    generalize min (a₀.size-j) mr=n at O M k ⊢;obtain⟨y,v,T,S,U,o⟩:=start n d L O M k;refine aA (gN ?_);cases hb:(pendingOf d).back? with
    |none=>
     dsimp only;exact aA (dj (aF (push n d y v O M T S U o)))
    |some e=>
     obtain⟨s1,l1,w1⟩:=e;dsimp only;refine aA (bV (eQ (I:=λ_ c b=>c=(none,())/\RI a₀ kd r b j (y++v)) (Q:=λc b=>c=(none,())/\RI a₀ kd r b j (y++v)) ?_ (λ_ _ q=>q) ⟨rfl,T⟩) ?_)
     ·rintro z c b _ _ ⟨rfl,G⟩
      refine aA (gN ?_)
      by_cases hz:(pendingOf b).size>1
      ·rw[q07 hz]
       have Y:(pendingOf b).size-2<(pendingOf b).size:=by omega
       rw[getElem?_pos (pendingOf b) _ Y];generalize(pendingOf b)[(pendingOf b).size-2]=e;obtain⟨f1,f2,f3⟩:=e;dsimp only
       split
       ·exact aF ⟨rfl,G⟩
       ·refine aA (lD C G ⋯ λa1 R5 _=>?_)
        rw[q06 (by decide)];exact aF ⟨rfl,R5⟩
      ·rw[q06 hz];exact aF ⟨rfl,G⟩
     ·rintro c b ⟨rfl,G⟩
      dsimp only;refine aA (dj (aA (dj (aF (push n _ y v O M ?_ S U o)))));obtain⟨B4,u,D,l,hr⟩:=G;exact⟨⟨B4.perm,B4.kind,B4.failed⟩,u,D,l,by
       show fQ r (Array.modify _ _ _).toList _ _;rw[Array.toList_modify];refine fQ.mod ?_ hr;exact λe=>⟨rfl,rfl⟩⟩
   ·rw[q06 a0]
    clear a0
    revert hu m2 m1 B2;revert g m
    intro n d L O M k;obtain⟨y,v,T,S,U,o⟩:=start n d L O M k;refine aA (gN ?_);cases hb:(pendingOf d).back? with
    |none=>
     dsimp only;exact aA (dj (aF (push n d y v O M T S U o)))
    |some e=>
     obtain⟨s1,l1,w1⟩:=e;dsimp only;refine aA (bV (eQ (I:=λ_ c b=>c=(none,())/\RI a₀ kd r b j (y++v)) (Q:=λc b=>c=(none,())/\RI a₀ kd r b j (y++v)) ?_ (λ_ _ q=>q) ⟨rfl,T⟩) ?_)
     ·rintro z c b _ _ ⟨rfl,G⟩
      refine aA (gN ?_)
      by_cases hz:(pendingOf b).size>1
      ·rw[q07 hz]
       have Y:(pendingOf b).size-2<(pendingOf b).size:=by omega
       rw[getElem?_pos (pendingOf b) _ Y];generalize(pendingOf b)[(pendingOf b).size-2]=e;obtain⟨f1,f2,f3⟩:=e;dsimp only
       split
       ·exact aF ⟨rfl,G⟩
       ·refine aA (lD C G ⋯ λa1 R5 _=>?_)
        rw[q06 (by decide)];exact aF ⟨rfl,R5⟩
      ·rw[q06 hz];exact aF ⟨rfl,G⟩
     ·rintro c b ⟨rfl,G⟩
      dsimp only;refine aA (dj (aA (dj (aF (push n _ y v O M ?_ S U o)))));obtain⟨B4,u,D,l,hr⟩:=G;exact⟨⟨B4.perm,B4.kind,B4.failed⟩,u,D,l,by
       show fQ r (Array.modify _ _ _).toList _ _;rw[Array.toList_modify];refine fQ.mod ?_ hr;exact λe=>⟨rfl,rfl⟩⟩
 case p=>
  rintro c st' ⟨rfl,bU,R⟩;dsimp only;have pz:(pendingOf st').size<=a₀.size:=by
   obtain⟨_,u,_,l,hr⟩:=R;have:=hr.many;simp at this l;omega
  refine aA (bV (eQ (I:=λx c g=>c=(none,())/\RI a₀ kd r g a₀.size bU/\(pendingOf g).size+x<=a₀.size\/c=(none,())/\RI a₀ kd r g a₀.size bU/\(pendingOf g).size<=1)
   (Q:=λc g=>c=(none,())/\RI a₀ kd r g a₀.size bU/\(pendingOf g).size<=1) ?s2 ?e2 (.inl ⟨rfl,R,pz⟩)) ?p2)
  case e2=>
   rintro c g (⟨rfl,R2,q⟩ | ⟨rfl,R2,q⟩)
   ·exact⟨rfl,R2,⋯⟩
   ·exact⟨rfl,R2,q⟩
  case s2=>
   intro x c g _ hx hI;have hc:c=(none,()):=by rcases hI with q | q<;>exact q.1
   have R2:RI a₀ kd r g a₀.size bU:=by rcases hI with q | q<;>exact q.2.1
   refine aA (gN ?_)
   by_cases h2:(pendingOf g).size<=1
   ·rw[q07 h2];exact aF ⟨rfl,R2,h2⟩
   ·rw[q06 h2]
    have q:(pendingOf g).size+x<=a₀.size:=by
     rcases hI with q | q
     ·exact q.2.2
     ·exact q0Q q.2.2 h2
    refine aA (lD C R2 ?_ λd T q3=>?_)
    ·repeat' split
     all_goals omega
    ·rw[q06 (by decide)]
     exact aF (.inl ⟨rfl,T,⋯⟩)
  case p2=>
   rintro c g ⟨rfl,R2,q⟩;refine aF (h g R2.sb ?_);obtain⟨B2,u,D,l,hr⟩:=R2;have lz:(arrOf g).toList.length=a₀.size:=by simpa using B2.size
   have r0:bU=[]:=by
    have:=q0R List.length D;rw[Kf]at this;exact KD.mp ⋯
   subst r0;rw[Ks]at D;rw[D];cases Z:(pendingOf g).toList with
   |nil=>rw[Z]at hr;cases(show u=[] from hr);exact .nil
   |cons e p=>
    rw[Z]at hr;obtain⟨y,a2,rfl,_,_,_,o,q'⟩:=hr;have:p=[]:=by
     have:=q0R List.length Z;exact KD.mp (by simp at this;omega)
    subst this;cases(show a2=[] from q')
    simpa using o
end
def rk(O:KeyOrd)(f:Keyed->O.α)(l:List Keyed)(p:Keyed):Nat:=l.countP λq=>O.blt (f q) (f p)
theorem ur{α:Type}{f g:α->Bool}:∀{l:List α},(∀x,x∈l->f x=true->g x=true)->(∃x,x∈l/\f x=false/\g x=true)->l.countP f<l.countP g
 | [],_,h=>by obtain⟨x,hx,_⟩:=h;exact nomatch hx
 |x::l,h,⟨y,hy,e1,e2⟩=>by
  rw[List.countP_cons,List.countP_cons];have le:l.countP f<=l.countP g:=List.countP_mono_left λx hx=>h x (J' _ hx);rcases J_.mp hy with rfl | hy
  ·rw[e1,e2];simp;omega
  ·have:=ur (f:=f) (g:=g) (l:=l) (λx hx=>h x (J' _ hx)) ⟨y,hy,e1,e2⟩
   have:=h x (q0B ..);cases hf:f x<;>cases hg:g x<;>simp_all<;>omega
theorem Ah{O:KeyOrd}{f:Keyed->O.α}{l:List Keyed}{x y:Keyed}(hx:x∈l):O.blt (f x) (f y)=decide (rk O f l x<rk O f l y):=by
 cases h:O.blt (f x) (f y) with
 |true=>
  refine(q09 ?_).symm;exact ur (λz _ a=>O.trans _ _ _ a h) ⟨x,hx,O.irrefl _,h⟩
 |false=>
  refine(q08 (Nat.not_lt.mpr ?_)).symm;refine List.countP_mono_left λz _ a=>?_;rcases O.negTrans _ (f x) _ a with q | q
  ·exact q
  ·rw[h]at q;exact q0Q q (by decide)
theorem FM{O:KeyOrd}{f:Keyed->O.α}{l:List Keyed}{x y:Keyed}(hy:y∈l)(h:rk O f l x<=rk O f l y):O.blt (f y) (f x)=false:=by
 rw[Ah (f:=f) (l:=l) hy];exact q08 (Nat.not_lt.mpr h)
theorem ya{h:Heap}{a:Addr}{vs:Array Value}{n:Nat}(ho:h.get? a=some (seqObj "list" vs n)):∃e1,(h.update a (Obj.mapSeq λ_=>#[])).get? a=some (seqObj "list" #[] e1):=⟨_,get?_update_seq ho _⟩
def sort1(h:Heap)(a:Addr)(vs:KY):Heap:=((h.update a (Obj.mapSeq λ_=>#[])).push (seqObj "tuple" vs.toArray 0)).push (seqObj "list" #[] 0)
section
variable {prog:K2}{w:K5}{A:K4}{E:KQ}{s:KW}
theorem sort_tree{a:Addr}{vs:KY}{n:Nat}{P:Fin->Shared->Prop}{kd:SortKind}{r:Keyed->Nat}(ho:s.heap.get? a=some (seqObj "list" vs.toArray n))(hz:vs.length<=sizeLine)
  (hkk:2<=vs.length->∀{Q:SortKind->Shared->Prop},Q kd {s with heap:=sort1 s.heap a vs}->wpAny (model prog w) A (keyKind' vs.toArray) Q E {s with heap:=sort1 s.heap a vs})
  (C:2<=vs.length->pG prog w A (· = {s with heap:=sort1 s.heap a vs}) (pairsOf vs) kd r)
  (h:∀ps:List Keyed,ps.Perm (vs.zip vs)->ps.Pairwise (gW r)->P (.done (.ret .none)) {s with heap:=sortedHeap s.heap a vs (ps.map (·.2)).toArray}) :
  wpAny (model prog w) A (Builtin.«list.sort» ⟨[.ref a],[]⟩) P E s:=by
 rw[list_sort_plain];refine q04 (listItems_at ho rfl (q04 (listUpdate_at ho rfl ?_)));obtain⟨o,i⟩:=ya ho;refine q04 (seqEpoch_at i rfl (q04 (wpAny_newTuple (q04 (wpAny_newList (q0Y ?_))))));have c:(sort1 s.heap a vs).get? a=some (seqObj "list" #[] o):=by
  exact JV _ (JV _ i)
 show wpAny (model prog w) A _ P E {s with heap:=sort1 s.heap a vs};dsimp only;have l:vs.toArray.size=vs.length:=by simp
 have fin:∀d:PA,d.toList.Perm (pairsOf vs).toList->d.toList.Pairwise (gW r)->P (.done (.ret .none)) {s with heap:=sortedHeap s.heap a vs (d.map (·.2))}:=by
  intro d m g;have:=h d.toList (by rw[<- pairsOf_toList];exact m) g
  rwa [show(d.toList.map (·.2)).toArray=d.map (·.2) by rw[<- Array.toList_map]]at this
 by_cases h2:(vs.toArray).size<2
 ·rw[q07 h2,q07 h2]
  refine q04 (q05 ?_);rw[StateT.run_pure];refine q04 (q05 ?_);dsimp only;refine q04 (seqEpoch_at c rfl (q04 (listUpdate_at c rfl ?_ (hsz2:=by rw[Array.size_map];show(pairsOf vs).size<=_;rw[pairsOf_size,q0W];omega))));simp only[bne_self_eq_false,q0a,if_false];refine q05 (fin (vs.toArray.zip vs.toArray) (List.Perm.refl _) ?_);show(pairsOf vs).toList.Pairwise _;rw[pairsOf_toList]
  match vs,l,h2 with
  | [],_,_=>exact .nil
  | [v],_,_=>exact List.pairwise_singleton _ _
  |_::_::_,_,h2=>simp at h2;omega
 ·rw[q06 h2,q06 h2]
  refine q04 (hkk ⋯ ?_);refine q04 (q0X (oj (a₀:=pairsOf vs) (kd:=kd) (r:=r) (C ⋯) (st:=SortSt.mk' kd (vs.toArray.zip vs.toArray) #[] 7 none)
   (Q:=λ_ b=>SB (pairsOf vs) kd b/\(arrOf b).toList.Pairwise (gW r)) ⟨List.Perm.refl _,rfl,rfl⟩ rfl (by rw[pairsOf_size];omega) (λb k j=>⟨k,j⟩) _ rfl) ?_ λ_ _ e=>e)
  rintro⟨⟨⟩,b⟩ s' ⟨rfl,B,g⟩;dsimp only;refine q04 (seqEpoch_at c rfl (q04 (listUpdate_at c rfl ?_ (hsz2:=by refine Kn (Nat.le_of_eq ((Array.size_map ..).trans (B.size.trans (pairsOf_size _)))) ?_;omega))));rw[show failedOf b=none from B.failed];simp only[bne_self_eq_false,q0a,if_false];exact q05 (fin (arrOf b) B.perm g)
end
section
variable {prog:K2}{w:K5}{A:K4}{E:KQ}{s s2:KW}
abbrev with1(s2:KW)(vs:KY):Heap:=s2.heap.push (seqObj "list" vs.toArray 0)
theorem uW{v:Value}{vs:KY}{kd:SortKind}{r:Keyed->Nat}{Q:KQ}
  (hc:∀{Q':List Value->Shared->Prop},Q' vs s2->wpAny (model prog w) A.in1 (collect v) Q' E s) (hz:vs.length<=sizeLine)
  (hkk:2<=vs.length->∀{Q:SortKind->Shared->Prop},Q kd {s2 with heap:=sort1 (with1 s2 vs) s2.heap.objs.size vs}->wpAny (model prog w) A.in1.in1 (keyKind' vs.toArray) Q E {s2 with heap:=sort1 (with1 s2 vs) s2.heap.objs.size vs})
  (C:2<=vs.length->pG prog w A.in1.in1 (· = {s2 with heap:=sort1 (with1 s2 vs) s2.heap.objs.size vs}) (pairsOf vs) kd r)
  (h:∀ps:List Keyed,ps.Perm (vs.zip vs)->ps.Pairwise (gW r)->Q (.ref s2.heap.objs.size) {s2 with heap:=sortedHeap (with1 s2 vs) s2.heap.objs.size vs (ps.map (·.2)).toArray}) :
  wpAny (model prog w) A (call (.builtin "sorted") [v]) Q E s:=by
 refine Calls.call_function_entry kind_sorted plain_sorted entry_sorted (args_sorted1 v) ?_;unfold Builtin.«sorted»;refine q04 (m:=checkCount "sorted" 1 1 _) (q05 ?_)
 refine q04 (hc (q04 (wpAny_newList ?_ (hsz:=by omega))));have a:(with1 s2 vs).get? s2.heap.objs.size=some (seqObj "list" vs.toArray 0):=J1 _ rfl;show wpAny _ _ _ _ _ {s2 with heap:=with1 s2 vs};refine q04 (q0Y (wpAny_call_entry slot_list_sort ⟨_,a,rfl⟩ entry_list_sort (sort_tree (s:={s2 with heap:=with1 s2 vs}) a hz hkk C λps c b=>⟨_,rfl,?_⟩) (args_list_sort _)));exact q05 ⟨_,rfl,h ps c b⟩
theorem cmp_one{κ:KeyKind}(hO:κ.OneLt){J:Shared->Prop}{a₀:PA}(h0:KeysOf κ a₀) :
  pG prog w A J a₀ oneType' (rk κ.toKeyOrd (λp=>(κ.keyOf p.1).getD κ.dflt) a₀.toList):=by
 intro x c y g s j;obtain⟨a,e⟩:=h0 x c;obtain⟨b,d⟩:=h0 y g;rw[keyLt'_oneType];refine hO prog w A _ s x.1 y.1 a b e d ⟨j,?_⟩;have:=Ah (O:=κ.toKeyOrd) (f:=λp=>(κ.keyOf p.1).getD κ.dflt) (y:=y) c;rw[<- this,e,d];rfl
theorem ranks_out{O:KeyOrd}{f:Keyed->O.α}{l ps:List Keyed}(hp:ps.Perm l)(h:ps.Pairwise (gW (rk O f l))):ps.Pairwise λp q=>O.blt (f q) (f p)=false:=by
 have a:∀p,p∈ps->p∈l:=λp c=>hp.mem_iff.mp c;clear hp
 induction ps with
 |nil=>exact .nil
 |cons p ps ih=>
  rw[List.pairwise_cons]at h ⊢;exact⟨λq b=>FM (a q (J' _ b)) (h.1 q b),ih h.2 λq b=>a q (J' _ b)⟩
theorem zip_map2{vs:KY}{ps:List Keyed}(hp:ps.Perm (vs.zip vs)):(ps.map (·.2)).Perm vs/\ps.map (·.2)=ps.map (·.1):=by
 refine⟨(hp.map _).trans (by rw[List.map_snd_zip (Kg _)]),q0K λp a=>((mem_zip_self (hp.mem_iff.mp a)).1).symm⟩
theorem sorted_strs'{v:Value}{vs:KY}{ss:K3}{Q:KQ}
  (hc:∀{Q':List Value->Shared->Prop},Q' vs s2->wpAny (model prog w) A.in1 (collect v) Q' E s) (hz:vs.length<=sizeLine) (hS:StrsAre vs ss)
  (h:∀(out:KY) (ss':K3),StrsAre out ss'->ss'.Perm ss->ss'.Pairwise (λa b=>¬ b.cps.toList<a.cps.toList)->Q (.ref s2.heap.objs.size) {s2 with heap:=sortedHeap (with1 s2 vs) s2.heap.objs.size vs out.toArray}) :
  wpAny (model prog w) A (call (.builtin "sorted") [v]) Q E s:=by
 refine uW hc hz (kd:=oneType') (λh2 Q q=>?_) (λ_=>cmp_one strKind_oneLt hS.keysOf) λi d j=>?_
 ·obtain⟨v₁,c,bU,rfl⟩:∃v₁ c bU,vs=v₁::c::bU:=by
   match vs,h2 with
   |v₁::c::bU,_=>exact⟨v₁,c,bU,rfl⟩
  rw[keyKind_strs hS];exact q05 q
 ·obtain⟨g,z2⟩:=zip_map2 d
  have C:∀u,u∈i.map (·.2)->∃x t,u=Value.str x t:=λu r=>hS.all u (g.mem_iff.mp r);refine h _ ((i.map (·.2)).map strOf) (strsAre_map _ C) ((g.map strOf).trans (by rw[hS.strs])) ?_;rw[List.pairwise_map,List.pairwise_map];rw[pairsOf_toList]at j;have o:=ranks_out d j;refine(List.Pairwise.and_mem.mp o).imp ?_;rintro p q ⟨B,z,e⟩;have n:=(mem_zip_self (d.mem_iff.mp B));have m:=(mem_zip_self (d.mem_iff.mp z));obtain⟨x,t,l⟩:=hS.all _ n.2;obtain⟨y,u,k⟩:=hS.all _ m.2;rw[<- n.1,<- m.1,l,k];dsimp only at e;rw[l,k]at e;exact of_decide_eq_false e
end
end TS
namespace TS
open PySem PyProof.Rows PySem.MeetsSeq PySem.MeetsSeq3
open AutoSeq1 (wpAny_loadPart')
abbrev Gf(s:KW)(a:Addr)(xs:Array Value)(n:Nat)(dd:K6)(sl:Array (Option Value)):Prop:=s.heap.get? a=some {cls:=.type "list",dict:=dd,data:=.seq xs n,slots:=sl}
def j6:List Str->List Str->Bool
 | [],[]=>false
 | [],_::_=>true
 |_::_,[]=>false
 |x::xs,y::ys=>if x==y then j6 xs ys else decide (x.cps.toList<y.cps.toList)
section
variable {prog:K2}{w:K5}{A:K4}{E:KQ}{s:KW}
theorem uo{x y:Str}{t u:Tok}{Q:KQ}(h:Q (.bool (decide (x.cps.toList<y.cps.toList))) s):wpAny (model prog w) A (richCompare .Lt (.str x t) (.str y u)) Q E s:=
 wpAny_richCompare_same (typeIs_str s x t) (typeIs_str s y u) slot_str_lt (call_str_lt ⟨(λq=>nomatch q),h⟩)
end
set_option maxHeartbeats 1600000 in
theorem Dw(l b:Addr)(items items2:Array Value)(n n2:Nat)(dd dd2:K6)(sl sl2:Array (Option Value))(k:Nat) :
  ∀(i:Nat) (ss ts:K3),ss.length+ts.length=k->i<=items.size->i<=items2.size->StrsAre (items.toList.drop i) ss->StrsAre (items2.toList.drop i) ts->Meets (Builtin.«list.__eq__.loop» ⟨[.ref l,.ref b,rawInt i,rawInt 0],[]⟩)
   (λA R s=>Gf s l items n dd sl/\Gf s b items2 n2 dd2 sl2 /\
    R (.ok (.ret (.bool (j6 ss ts)))) s):=by
 induction k using Nat.strongRecOn with
 |_ k ih=>
 intro i ss ts T S J h1 h2 z w A R s h;obtain⟨hp,g,d,tk,os⟩:=s;obtain⟨o,p,h⟩:=h
 wp_walk using wpAny_loadPart' o,wpAny_loadPart' p
 have Y:((i:Nat):Int).toNat=i:=by simp
 rw[Y];have I:∀{xs:Array Value},xs.toList.drop i=[]->i<=xs.size->xs[i]?=none/\xs.size=i:=fun{xs} e q=>by
  have:=q0R List.length e;simp at this;exact⟨by simp;omega,⋯⟩
 have j:∀{xs:Array Value} {v:Value} {r:KY},xs.toList.drop i=v::r->xs[i]?=some v/\i<xs.size/\xs.toList.drop (i+1)=r:=fun{xs v r} e=>by
  have m:i<xs.toList.length:=by
   have:=q0R List.length e;simp at this ⊢;omega
  have q:=q0T (l:=xs.toList) m;rw[e]at q;obtain⟨O,M⟩:=List.cons.inj q;exact⟨by rw[<- q0G,JT m,O],by simpa using m,M.symm⟩
 generalize C:items.toList.drop i=v1 at h1;generalize c:items2.toList.drop i=v2 at h2;cases h1 with
 |nil=>
  obtain⟨D,L⟩:=I C S;rw[D];cases h2 with
  |nil=>
   obtain⟨a,G⟩:=I c J;rw[a]
   wp_walk using wpAny_loadPart' o,wpAny_loadPart' p
   show R (.ok (.ret (.bool (decide (items.size<items2.size))))) _;rw[q08 ⋯];exact h
  |cons y u h2'=>
   obtain⟨a,G,_⟩:=j c;rw[a]
   wp_walk using wpAny_loadPart' o,wpAny_loadPart' p
   show R (.ok (.ret (.bool (decide (items.size<items2.size))))) _;rw[q09 ⋯];exact h
 |cons x t h1'=>
  obtain⟨D,L,d1⟩:=j C;rw[D];cases h2 with
  |nil=>
   obtain⟨a,G⟩:=I c J;rw[a]
   wp_walk using wpAny_loadPart' o,wpAny_loadPart' p
   show R (.ok (.ret (.bool (decide (items.size<items2.size))))) _;rw[q08 ⋯];exact h
  |cons y u h2'=>
   obtain⟨a,G,Z⟩:=j c;rw[a];refine q04 (eqBool_str ?_);unfold j6 at h;cases B:x==y with
   |true=>
    rw[B,q07 rfl]at h
    wp_walk
    have U:((i:Int)+1)=((i+1:Nat):Int):=by push_cast;rfl
    rw[U];exact⟨plainId_quiet plain_eq_loop _,codeAny_builtin entry_eq_loop (by
     rw[Around.under_plainId plain_eq_loop _];exact ih _ (by rw[<- T];simp;omega) (i+1) _ _ rfl ⋯ ⋯ (by rw[d1];exact h1') (by rw[Z];exact h2') z w A R _ ⟨o,p,h⟩)⟩
   |false=>
    rw[B,q06 (by decide)]at h
    wp_walk using wpAny_loadPart' o,wpAny_loadPart' p
    rw[D,a];exact q04 (uo (q05 h))
theorem tz(l b:Addr)(items items2:Array Value)(n n2:Nat)(dd dd2:K6)(sl sl2:Array (Option Value))(ss ts:K3)(h1:StrsAre items.toList ss)(h2:StrsAre items2.toList ts) :
  Meets (Builtin.«list.__lt__» ⟨[.ref l,.ref b],[]⟩)
   (λA R s=>Gf s l items n dd sl/\Gf s b items2 n2 dd2 sl2 /\
    R (.ok (.ret (.bool (j6 ss ts)))) s):=by
 intro a w A R s h;obtain⟨hp,g,d,tk,os⟩:=s;obtain⟨c,e,h⟩:=h
 have f3:=AutoSeq1.sub_list_list
 wp_walk using wpAny_loadPart' c,wpAny_loadPart' e
 exact⟨plainId_quiet plain_eq_loop _,codeAny_builtin entry_eq_loop (by
  rw[Around.under_plainId plain_eq_loop _];exact Dw l b items items2 n n2 dd dd2 sl sl2 _ 0 ss ts rfl (Kh _) (Kh _) h1 h2 a w A R _ ⟨c,e,h⟩)⟩
abbrev cp(x:Str):List Nat:=x.cps.toList
theorem Em{x y:Str}(h:cp x=cp y):x=y:=by
 cases x;cases y;exact q0R _ (Array.toList_inj.mp h)
abbrev ks(l:K3):List (List Nat):=l.map cp
theorem rW:∀(l m:K3),j6 l m=decide (ks l<ks m)
 | [],[]=>by simp[j6,List.lt_irrefl]
 | [],_::_=>by simp[j6]
 |_::_,[]=>by simp[j6]
 |x::l,y::m=>by
  unfold j6;have e:(ks (x::l)<ks (y::m))↔(cp x<cp y\/cp x=cp y/\ks l<ks m):=List.cons_lt_cons_iff
  by_cases h:x=y
  ·subst h
   rw[q07 (beq_self_eq_true x),rW l m];refine decide_eq_decide.mpr (e.trans ⟨λq=>?_,λq=>.inr ⟨rfl,q⟩⟩).symm;rcases q with q | q
   ·exact q0Q q (List.lt_irrefl _)
   ·exact q.2
  ·rw[q06 (by simpa using h)]
   refine decide_eq_decide.mpr (e.trans ⟨λq=>?_,λq=>.inl q⟩).symm;rcases q with q | q
   ·exact q
   ·exact q0Q (Em q.1) h
@[reducible] def Ix:KeyOrd where
 α:=List (List Nat)
 blt a b:=decide (a<b)
 irrefl x:=q08 (List.lt_irrefl x)
 trans x y z p q:=q09 (List.lt_trans (of_decide_eq_true p) (of_decide_eq_true q))
 negTrans a b c h:=by
  simp only[q0b]at *
  by_cases hab:a<b
  ·exact .inl hab
  ·exact .inr (List.lt_of_le_of_lt (List.not_lt.mp hab) h)
 total x y p q:=List.le_antisymm (List.not_lt.mp (of_decide_eq_false q)) (List.not_lt.mp (of_decide_eq_false p))
@[reducible] def ordI:KeyOrd where
 α:=Int×List (List Nat)
 blt a b:=decide (a.1<b.1\/a.1=b.1/\a.2<b.2)
 irrefl a:=by simp[List.lt_irrefl]
 trans a b c h1 h2:=by
  simp only[q0b]at *;rcases h1 with h1 | ⟨h1,h1'⟩<;>rcases h2 with h2 | ⟨h2,h2'⟩
  ·exact .inl ⋯
  ·exact .inl ⋯
  ·exact .inl ⋯
  ·exact .inr ⟨⋯,List.lt_trans h1' h2'⟩
 negTrans a b c h:=by
  simp only[q0b]at *
  by_cases h1:a.1<b.1
  ·exact .inl (.inl h1)
  ·by_cases h2:b.1<c.1
   ·exact .inr (.inl h2)
   ·rcases h with h | ⟨h,h'⟩
    ·omega
    ·by_cases hab:a.2<b.2
     ·exact .inl (.inr ⟨⋯,hab⟩)
     ·exact .inr (.inr ⟨⋯,List.lt_of_le_of_lt (List.not_lt.mp hab) h'⟩)
 total a b h1 h2:=by
  simp only[decide_eq_false_iff_not]at *;have e:a.1=b.1:=by
   have q1:¬ a.1<b.1:=λq=>h1 (.inl q);have q2:¬ b.1<a.1:=λq=>h2 (.inl q);omega
  have e2:a.2=b.2:=List.le_antisymm (List.not_lt.mp λq=>h2 (.inr ⟨e.symm,q⟩)) (List.not_lt.mp λq=>h1 (.inr ⟨e,q⟩));exact Prod.ext e e2
section
variable {prog:K2}{w:K5}{A:K4}{E:KQ}{s:KW}
theorem oB:∀{vs:KY} {ss:K3},StrsAre vs ss->vs.length=ss.length
 |_,_,.nil=>rfl
 |_,_,.cons x t h=>by simp[oB h]
theorem tF:∀{vs:KY} {ss:K3},StrsAre vs ss->∀j (h:j<vs.length),∃t,vs[j]=.str (ss.getD j ⟨#[]⟩) t
 |_,_,.cons x t h,0,_=>⟨t,rfl⟩
 |_,_,.cons x t h,j+1,hj=>by
  obtain⟨t',e⟩:=tF h j (by simpa using hj);exact⟨t',by simpa using e⟩
theorem B9{l b:Addr}{xs ys:Array Value}{ss ts:K3}(hl:s.heap.IsList l xs)(hb:s.heap.IsList b ys)(h1:StrsAre xs.toList ss)(h2:StrsAre ys.toList ts)(hu:A.units<cLine) :
  SeqAt.EqAt A s (.ref l) (.ref b) (decide (ss=ts)):=by
 by_cases d:l=b
 ·subst d
  have:xs=ys:=by
   obtain⟨o,z,_,n,B⟩:=hl;obtain⟨o',c,_,n',g⟩:=hb;rw[z]at c;cases c
   rw[B]at g;injection g
  subst this;have:ss=ts:=by rw[<- h1.strs,<- h2.strs]
  rw[q09 this];exact SeqAt.EqAt.same _
 ·refine SeqAt.EqAt.of_refs d ?_
  have p:=oB h1;have x:=oB h2;simp at p x
  by_cases m:xs.size=ys.size
  ·have q:=SeqAt.RcAt.lists (A:=A) (e:=λj=>ss.getD j ⟨#[]⟩==ts.getD j ⟨#[]⟩) hl hb m hu λj k i=>by
    obtain⟨t,v⟩:=tF h1 j (by simpa using k);obtain⟨u,r⟩:=tF h2 j (by simpa using i);rw[Array.getElem_toList]at v r;rw[v,r];exact λprog w E Q y=>eqBool_str y
   have e:((List.range xs.size).all λj=>ss.getD j ⟨#[]⟩==ts.getD j ⟨#[]⟩)=decide (ss=ts):=by
    by_cases a:ss=ts
    ·subst a;simp
    ·rw[q08 a]
     refine Bool.eq_false_iff.mpr λq=>a ?_;refine List.ext_getElem ⋯ λj k i=>?_;have:=KG.mp q j (List.mem_range.mpr ⋯);rw[q0A,q0A,JT k,JT i,q0L,q0L]at this;exact eq_of_beq this
   rw[e]at q;exact q
  ·have a:¬ ss=ts:=λq=>m (by rw[q]at p;omega)
   rw[q08 a];exact SeqAt.RcAt.lists_lengths hl hb (by simpa using m) hu
theorem A3{l b:Addr}{xs ys:Array Value}{ss ts:K3}{Q:KQ}(hl:s.heap.IsList l xs)(hb:s.heap.IsList b ys)(h1:StrsAre xs.toList ss)(h2:StrsAre ys.toList ts)(hu:A.units<cLine)
  (h:Q (.bool (j6 ss ts)) s):wpAny (model prog w) A (richCompare .Lt (.ref l) (.ref b)) Q E s:=by
 obtain⟨⟨cls,p,data,m⟩,i,k,n,j⟩:=id hl;obtain⟨⟨cls2,g,data2,e⟩,a,d,o,c⟩:=id hb;simp only at k j d c;subst k j d c;exact richCompare_meets_room (op:=.Lt) ⟨_,i,rfl⟩ ⟨_,a,rfl⟩ PySem.F.slot_list_lt PySem.F.entry_list_lt (PySem.F.args_list_lt_2 _ _) (tz l b xs ys n o p g m e ss ts h1 h2)
  ⟨i,a,show Value.bool (j6 ss ts)≠Value.notImplemented/\Q (.bool (j6 ss ts)) s from⟨(λx=>nomatch x),h⟩⟩ hu
end
end TS
namespace TS
open PySem PyProof.Rows PySem.MeetsSeq PySem.MeetsSeq3 PySem.W
def EM(h:Heap)(v:Value)(ss:K3):Prop:=∃a o xs n,v=.ref a/\h.get? a=some o/\o.cls=.type "tuple"/\o.data=.seq xs n/\StrsAre xs.toList ss
def TupI(h:Heap)(v:Value)(k:Int×List Str):Prop:=∃a o n l ys t,v=.ref a/\h.get? a=some o/\o.cls=.type "tuple"/\o.data=.seq #[.int k.1 t,.ref l] n/\h.IsList l ys/\StrsAre ys.toList k.2
section
variable {prog:K2}{w:K5}{A:K4}{E:KQ}{s:KW}
theorem Dx{x y:Value}{k m:Int×List Str}{Q:Bool->Shared->Prop}(hu:A.units<cLine)(hx:TupI s.heap x k)(hy:TupI s.heap y m)(h:Q (decide (k.1<m.1\/k.1=m.1/\ks k.2<ks m.2)) s) :
  wpAny (model prog w) A (keyLt' (tuples' true) x y) Q E s:=by
 obtain⟨a,o,n,l,xs,t,rfl,r,_,v,j,h1⟩:=hx;obtain⟨a2,o2,n2,l2,ys,u,rfl,d,_,g,b,h2⟩:=hy;refine kat_lt r v d g (kat_cons (wpAny_eqBool_int ?_));cases e:k.1==m.1 with
 |false=>
  refine kat_no (oneLt_int ?_);have p:¬ k.1=m.1:=λq=>by rw[q]at e;simp at e
  rw[show decide (k.1<m.1\/k.1=m.1/\ks k.2<ks m.2)=decide (k.1<m.1) from decide_eq_decide.mpr ⟨λq=>q.elim id λq=>q0Q q.1 p,.inl⟩]at h;exact h
 |true=>
  have z:=eq_of_beq e;have i:Q (j6 k.2 m.2) s:=by
   rw[rW];rw[show decide (k.1<m.1\/k.1=m.1/\ks k.2<ks m.2)=decide (ks k.2<ks m.2) from decide_eq_decide.mpr ⟨λq=>q.elim (λq=>by omega) And.right,λq=>.inr ⟨z,q⟩⟩]at h;exact h
  refine kat_yes (kat_cons (B9 j b h1 h2 hu prog w _ _ ?_))
  by_cases c:k.2=m.2
  ·rw[q09 c]
   refine kat_yes (kat_nil ?_);have:j6 k.2 m.2=false:=by rw[c,rW];exact q08 (List.lt_irrefl _)
   rw[this]at i;exact i
  ·rw[q08 c]
   refine kat_no ?_;rw[oneLt'_eq];simp only[show((true&&(1:Nat)==0)=true)=False by simp,if_false];exact q04 (A3 j b h1 h2 hu (wpAny_truthy_bool i))
def keyEnd(h:Heap)(a kS:Addr)(out:Array Value):Heap:=(h.update kS (Obj.mapSeq λ_=>#[])).update a (Obj.mapSeq λ_=>out)
theorem Bp{a kS:Addr}{e e1:Nat}{keys:Array Value}{vs:KY}{st:SortSt}{P:Fin->Shared->Prop}(hka:a≠kS)(hk:s.heap.get? kS=some (seqObj "list" keys e))(ha:s.heap.get? a=some (seqObj "list" #[] e1))
  (hz:keys.size<=sizeLine) (hz2:(arrOf st).size<=sizeLine) (hf:failedOf st=none) (h:P (.done (.ret .none)) {s with heap:=keyEnd s.heap a kS ((arrOf st).map (·.2))}) :
  wpAny (model prog w) A (ksk_tail a false e1 (.ref kS) st) P E s:=by
 have b:(s.heap.update kS (Obj.mapSeq λ_=>(#[]:Array Value))).get? a=some (seqObj "list" #[] e1):=((Heap.SameBut.update s.heap kS (Obj.mapSeq λ_=>(#[]:Array Value))).2 a hka).trans ha;unfold ksk_tail;dsimp only;refine q04 (listUpdate_at hk rfl ?_ hz (Kh _));refine q04 (wpAny_letGo ?_);refine q04 (seqEpoch_at b rfl ?_);refine q04 (listUpdate_at b rfl ?_ (Kh _) (by rw[q06 (by decide),Array.size_map];exact Nat.le_succ_of_le hz2));rw[hf];simp only[bne_self_eq_false,q0a,if_false];exact q05 h
theorem Cv{a kS:Addr}{e e1:Nat}{keys:Array Value}{vs:KY}{P:Fin->Shared->Prop}(hka:a≠kS)(hk:s.heap.get? kS=some (seqObj "list" keys e))(ha:s.heap.get? a=some (seqObj "list" #[] e1))
  (hz:vs.length<=sizeLine) (hkz:keys.size=vs.length) {kd:SortKind} {r:Keyed->Nat} (hkk:2<=vs.length->∀{Q:SortKind->Shared->Prop},Q kd s->wpAny (model prog w) A (keyKind' keys) Q E s)
  (C:2<=vs.length->pG prog w A (· = s) (keys.zip vs.toArray) kd r)
  (h:∀ps:List Keyed,ps.Perm (keys.toList.zip vs)->ps.Pairwise (gW r)->P (.done (.ret .none)) {s with heap:=keyEnd s.heap a kS (ps.map (·.2)).toArray}) :
  wpAny (model prog w) A (ksk_end a false vs.toArray e1 (.ref kS) keys) P E s:=by
 have j:(keys.zip vs.toArray).toList=keys.toList.zip vs:=ksk_zip keys vs;have i:(keys.zip vs.toArray).size=vs.length:=by rw[Array.size_zip,hkz,J2,Nat.min_self]
 have fin:∀st:SortSt,(arrOf st).toList.Perm (keys.zip vs.toArray).toList->(arrOf st).toList.Pairwise (gW r)->failedOf st=none->wpAny (model prog w) A (ksk_tail a false e1 (.ref kS) st) P E s:=by
  intro st g c m;refine Bp (vs:=vs) hka hk ha ⋯ (by have:=g.length_eq;simp at this;omega) m ?_;have:=h (arrOf st).toList (by rw[<- j];exact g) c
  rwa [show((arrOf st).toList.map (·.2)).toArray=(arrOf st).map (·.2) by rw[<- Array.toList_map]]at this
 have hs:vs.toArray.size=vs.length:=by simp
 unfold ksk_end;dsimp only;rw[q06 (by decide)]
 by_cases h2:vs.toArray.size<2
 ·rw[q07 h2,q07 h2]
  refine q04 (q05 ?_);rw[StateT.run_pure];refine q04 (q05 ?_);dsimp only;refine fin (SortSt.mk' general' (keys.zip vs.toArray) #[] 7 none) (List.Perm.refl _) ?_ rfl;have d:(keys.zip vs.toArray).toList.length<2:=by simp;omega
  show(keys.zip vs.toArray).toList.Pairwise _
  match(keys.zip vs.toArray).toList,d with
  | [],_=>exact .nil
  | [v],_=>exact List.pairwise_singleton _ _
  |_::_::_,d=>simp at d;omega
 ·rw[q06 h2,q06 h2]
  refine q04 (hkk ⋯ ?_);refine q04 (q0X (oj (a₀:=keys.zip vs.toArray) (kd:=kd) (r:=r) (C ⋯) (st:=SortSt.mk' kd (keys.zip vs.toArray) #[] 7 none)
   (Q:=λ_ b=>SB (keys.zip vs.toArray) kd b/\(arrOf b).toList.Pairwise (gW r)) ⟨List.Perm.refl _,rfl,rfl⟩ rfl (by rw[i];omega) (λb l k=>⟨l,k⟩) _ rfl) ?_ λ_ _ e=>e)
  rintro⟨⟨⟩,b⟩ s' ⟨rfl,B,c⟩;exact fin b B.perm c B.failed
theorem Au{a:Addr}{f:Value}{vs:KY}{n:Nat}{P:Fin->Shared->Prop}(ho:s.heap.get? a=some (seqObj "list" vs.toArray n))(hz:vs.length<=sizeLine)(I:Nat->Array Value->Shared->Prop){e1:Nat}
  (ho1:(s.heap.update a (Obj.mapSeq λ_=>(#[]:Array Value))).get? a=some (seqObj "list" #[] e1)) (h0:I 0 #[] {s with heap:=sort1 s.heap a vs})
  (hI:∀i kA s',I i kA s'->kA.size=i/\s'.heap.get? a=some (seqObj "list" #[] e1)/\∃e,s'.heap.get? (s.heap.objs.size+1)=some (seqObj "list" kA e))
  (step:∀i x kA s',vs[i]?=some x->I i kA s'->wpAny (model prog w) A (call f [x]) (λv s2=>(∃e,s2.heap.get? (s.heap.objs.size+1)=some (seqObj "list" kA e)) /\
   I (i+1) (kA.push v) {s2 with heap:=s2.heap.update (s.heap.objs.size+1) (Obj.mapSeq (·.push v))}) (λ_ _=>False) s')
  (fin:∀keys s',I vs.length keys s'->∃(kd:SortKind) (r:Keyed->Nat),(2<=vs.length->∀{Q:SortKind->Shared->Prop},Q kd s'->wpAny (model prog w) A (keyKind' keys) Q E s') /\
   (2<=vs.length->pG prog w A (· = s') (keys.zip vs.toArray) kd r) /\
   ∀ps:List Keyed,ps.Perm (keys.toList.zip vs)->ps.Pairwise (gW r)->P (.done (.ret .none)) {s' with heap:=keyEnd s'.heap a (s.heap.objs.size+1) (ps.map (·.2)).toArray}) :
  wpAny (model prog w) A (ksk_tree a f false) P E s:=by
 have o:a<s.heap.objs.size:=Kj ho;unfold ksk_tree;refine q04 (listItems_at ho rfl (q04 (listUpdate_at ho rfl ?_)));refine q04 (seqEpoch_at ho1 rfl (q04 (wpAny_newTuple (q04 (wpAny_newList (q0Y ?_))))));show wpAny (model prog w) A _ P E {s with heap:=sort1 s.heap a vs};have y:((s.heap.update a (Obj.mapSeq λ_=>(#[]:Array Value))).push (seqObj "tuple" vs.toArray 0)).objs.size=s.heap.objs.size+1:=by rw[size_push',Heap.size_update]
 show wpAny (model prog w) A (ksk_rest a f false vs.toArray e1 (.ref ((s.heap.update a (Obj.mapSeq λ_=>(#[]:Array Value))).push (seqObj "tuple" vs.toArray 0)).objs.size)) P E _;rw[y];unfold ksk_rest;refine q04 (wpAny_rule ?_);rw[<- Array.forIn_toList];refine q04 (ksk_fold (λi s'=>∃kA,I i kA s') vs 0 _ ⟨#[],h0⟩ ?step ?done)
 case step=>
  rintro j x s' g ⟨kA,b⟩;simp only[Nat.zero_add]at b ⊢;have hj:j<vs.length:=(JU.mp g).1;obtain⟨d,_,_⟩:=hI _ _ _ b;refine q04 (wpAny_attempt (q0X (step j x kA s' g b) (λv s2 m=>?_) λ_ _ p=>p.elim));obtain⟨⟨e,l⟩,j3⟩:=m;dsimp only;refine q04 (listUpdate_at l rfl ?_ ⋯ (Kn (Nat.le_of_eq (Array.size_push ..)) ⋯));exact q05 ⟨rfl,_,j3⟩
 case done=>
  rintro s' ⟨kA,b⟩;rw[Nat.zero_add]at b;obtain⟨d,k,e,c⟩:=hI _ _ _ b;obtain⟨kd,r,u,f2,q⟩:=fin _ _ b;refine q04 (listItems_at c rfl ?_);exact Cv (Kc (Nat.lt_succ_of_lt o)) c k hz d u f2 q
end
theorem TupI.one{h:Heap}{v:Value}{k m:Int×List Str}(h1:TupI h v k)(h2:TupI h v m):k=m:=by
 obtain⟨a,o,n,l,ys,t,rfl,y,_,B,z,w⟩:=h1;obtain⟨a2,o2,n2,x,zs,u,e,d,_,b,j,r⟩:=h2;cases e;rw[y]at d;cases d
 rw[B]at b;have D:k.1=m.1:=by injection b with q;injection q with q;injection q with q _;injection q
 have C:l=x:=by injection b with q;injection q with q;injection q with _ q;injection q with q _;injection q
 subst C;obtain⟨o3,i,_,n3,p⟩:=z;obtain⟨o4,c,_,n4,g⟩:=j;rw[i]at c;cases c
 rw[p]at g;cases g
 exact Prod.ext D (by rw[<- w.strs,<- r.strs])
open Classical in
def keyI(h:Heap)(p:Keyed):Int×List (List Nat):=if q:∃k,TupI h p.1 k then(q.choose.1,ks q.choose.2) else(0,[])
theorem keyI_eq{h:Heap}{p:Keyed}{k:Int×List Str}(q:TupI h p.1 k):keyI h p=(k.1,ks k.2):=by
 have a:∃k,TupI h p.1 k:=⟨k,q⟩;unfold keyI;rw[dif_pos a,a.choose_spec.one q]
section
variable {prog:K2}{w:K5}{A:K4}{E:KQ}{s:KW}
theorem cmp_I{a₀:PA}(hu:A.units<cLine)(h:∀p,p∈a₀.toList->∃k,TupI s.heap p.1 k):pG prog w A (· = s) a₀ (tuples' true) (rk ordI (keyI s.heap) a₀.toList):=by
 intro x c y d s' j;cases j;obtain⟨k,b⟩:=h x c;obtain⟨m,a⟩:=h y d;refine Dx hu b a ⟨rfl,?_⟩;rw[<- Ah (O:=ordI) (f:=keyI s.heap) (y:=y) c,keyI_eq b,keyI_eq a]
theorem kind_I{vs:KY}{Q:SortKind->Shared->Prop}(h:∀v,v∈vs->∃k,TupI s.heap v k)(h0:0<vs.length)(hq:Q (tuples' true) s):wpAny (model prog w) A (keyKind' vs.toArray) Q E s:=by
 have:∃fs,KatTups s.heap vs fs/\fs.length=vs.length/\∀v,v∈fs->∃x t,v=Value.int x t:=by
  clear h0 hq
  induction vs with
  |nil=>exact⟨[],trivial,rfl,λv b=>nomatch b⟩
  |cons v vs ih=>
   obtain⟨fs,t,l,q⟩:=ih λu hu=>h u (J' _ hu);obtain⟨k,a,o,n,ll,ys,c,rfl,d,g,e,hl,hs⟩:=h v (q0B ..);refine⟨.int k.1 c::fs,KatTups.cons d g e rfl t,by simp[l],λu hu=>?_⟩;rcases J_.mp hu with rfl | hu
   ·exact⟨_,_,rfl⟩
   ·exact q u hu
 obtain⟨fs,t,l,q⟩:=this;refine kat_kind (T:=.type "int") t ⋯ (λv b=>?_) (by rfl) hq;obtain⟨x,c,rfl⟩:=q v b;exact .now
end
end TS
namespace L2
open PySem PySem.Spec PyProof.Rows
theorem iL:∀{ys:K3} {us:KY},StrsAre us ys->bv (ys.map V.str) us
 |_,_,.nil=>.nil
 |_,_,.cons x t h=>.cons ⟨t,rfl⟩ (iL h)
section
variable {X:Cx}
def wk(K:KR):List V->Hp->VK->Prop:=λxs H Q=>∃p ys,xs=[.ref p]/\aM K H p (ys.map V.str) /\
 ∀zs:List Str,zs.Perm ys->zs.Pairwise (λa b=>¬ b.cps.toList<a.cps.toList)->∀l,H l=none->Q (.ref l) (aE H l (.lst (zs.map V.str)))
theorem wX:eR X (.builtin "sorted") (wk X.K):=by
 intro d s σ H xs us Q I r h;obtain⟨p,ys,rfl,B,q⟩:=h;obtain⟨u,rfl,v⟩:=lX r;cases v;obtain⟨a,l,x,n⟩:=I.list B;have g:=l.length;rw[JW]at g n;have G:=d0 l;have k:((s.heap.push (seqObj "list" #[] 0)).update s.heap.objs.size (Obj.mapSeq (· ++ a.toArray))).objs.size=s.heap.objs.size+1:=by rw[Heap.size_update,size_push']
 refine TS.sorted_strs' (s2:={s with heap:=(s.heap.push (seqObj "list" #[] 0)).update s.heap.objs.size (Obj.mapSeq (· ++ a.toArray))}) (vs:=a) (λh'=>collect_list x.isList h' ⋯) ⋯ G λc i z m y=>?_;have eh:TS.with1 {s with heap:=(s.heap.push (seqObj "list" #[] 0)).update s.heap.objs.size (Obj.mapSeq (· ++ a.toArray))} a=((s.heap.push (seqObj "list" #[] 0)).update s.heap.objs.size (Obj.mapSeq (· ++ a.toArray))).push (seqObj "list" a.toArray 0):=rfl;show EP X d σ Q (.ref ((s.heap.push (seqObj "list" #[] 0)).update s.heap.objs.size (Obj.mapSeq (· ++ a.toArray))).objs.size) {s with heap:=sortedHeap (((s.heap.push (seqObj "list" #[] 0)).update s.heap.objs.size (Obj.mapSeq (· ++ a.toArray))).push (seqObj "list" a.toArray 0)) ((s.heap.push (seqObj "list" #[] 0)).update s.heap.objs.size (Obj.mapSeq (· ++ a.toArray))).objs.size a c.toArray};rw[k];obtain⟨e,C⟩:=sortedAll_at s.heap a c.toArray;have j:i.length<=sizeLine:=by rw[m.length_eq];exact n
 refine⟨.ref (s.heap.objs.size+1),_,I.laid (t':=s.toks) (h':=sortedAll s.heap a c.toArray) (λb o D=>sortedAll_old D) (Nat.le_succ _) (show ci X.prog X.w _ _ _ (.lst (i.map V.str)) from⟨by rw[JW];exact j,c,e,iL z,C⟩),rfl,q i m y _ (I.hok.fresh (Nat.le_succ _))⟩
end
theorem uC{α β:Type}{f:α->β}{l l':List β}(h:l.Perm l'):∀m:List α,l'=m.map f->∃m':List α,m'.Perm m/\l=m'.map f:=by
 induction h with
 |nil=>intro m e;exact⟨m,List.Perm.refl _,e⟩
 |cons x _ ih=>
  intro m e;cases m with
  |nil=>exact nomatch e
  |cons y m=>
   obtain⟨d,c⟩:=List.cons.inj e;obtain⟨m',p,q⟩:=ih m c;exact⟨y::m',p.cons y,by rw[q,d];rfl⟩
 |swap x y l=>
  intro m e
  match m,e with
  |a::b::m,e=>
   obtain⟨d,c⟩:=List.cons.inj e;obtain⟨r,o⟩:=List.cons.inj c;exact⟨b::a::m,List.Perm.swap a b m,by rw[d,r,o];rfl⟩
 |trans _ _ ih1 ih2=>
  intro m e;obtain⟨m1,k,i⟩:=ih2 m e;obtain⟨n,j,g⟩:=ih1 m1 i;exact⟨n,j.trans k,g⟩
theorem yo{h:Heap}{a b:Addr}{vs:KY}{o:Obj}(hb:h.get? b=some o)(hne:b≠a):(TS.sort1 h a vs).get? b=some o:=by
 unfold TS.sort1;refine JV _ (JV _ ?_);rw[Heap.get?_update_ne _ _ _ _ hne];exact hb
def FP(K:KR)(H:Hp)(x:V)(k:Int×List Str):Prop:=∃a l,x=.ref a/\dZ K H a [.int k.1,.ref l]/\aM K H l (k.2.map V.str)
section
variable {X:Cx}
theorem Inv.pair{pins:KS}{σ:St}{H:Hp}{s:KW}(I:Inv X pins σ H s){x:V}{k:Int×List Str}{u:Value}(h:FP X.K H x k)(r:bK x u):TS.TupI s.heap u k:=by
 obtain⟨a,l,rfl,e,i⟩:=h;obtain rfl:u=Value.ref a:=r;obtain⟨its,b,⟨o,g,m,n,j⟩,_⟩:=I.tuple e;obtain⟨js,c,d,_⟩:=I.list i;cases b with
 |cons q1 b=>
  cases b with
  |cons q2 b=>
   cases b;obtain⟨t,rfl⟩:=q1;obtain rfl:=q2;exact⟨a,o,n,l,_,t,rfl,g,m,j,d.isList,by simpa using d0 c⟩
abbrev kI(k:Int×List Str):Int×List (List Nat):=(k.1,TS.ks k.2)
end
@[reducible] def Iu:KeyOrd where
 α:=Int
 blt a b:=decide (a<b)
 irrefl a:=by simp
 trans a b c h1 h2:=by simp only[q0b]at *;omega
 negTrans a b c h:=by simp only[q0b]at *;omega
 total a b h1 h2:=by simp only[decide_eq_false_iff_not]at *;omega
end L2
namespace TS
open PySem PyProof.Rows PySem.W
section
variable {prog:K2}{w:K5}{A:K4}{E:KQ}{s:KW}{T:String}{r d:Addr}{n:Nat}{P:Nat->Value->Prop}{OK:Heap->Prop}
theorem collect_src{Q:List Value->Shared->Prop}(K:KdlSrc prog w T r d n P OK)(hh:A.handled=none)(hok:OK s.heap)(hn:n<=sizeLine)
  (h:∀h' tk (acc':Array Value),(∀b o,s.heap.get? b=some o->h'.get? b=some o)->ItemsOf P acc' n->Q acc'.toList {s with heap:=h',toks:=tk}) :
  wpAny (model prog w) A (collect (.ref r)) Q E s:=by
 have l:=K.there _ hok;unfold collect;refine q04 (wpAny_runValue (codeAny_builtin entry_proto_collect' (show wpAny _ _ (do again (.builtin "list.__iadd__" ⟨[<- newList [],.ref r],[]⟩)) _ _ s from q04 (wpAny_newList (q05 ⟨Code.quiet_builtin _ (by decide +kernel),codeAny_builtin entry_list_iadd' ?_⟩)))));show wpAny _ _ (Builtin.List.listExtendWith (.ref s.heap.objs.size) (.ref r) (.ref s.heap.objs.size)) _ _ {s with heap:=s.heap.push (seqObj "list" #[] 0)};rw[Around.under_plainId (show plainId "list.__iadd__"=true by decide +kernel) _];refine q0X (kdl_extend (s:={s with heap:=s.heap.push (seqObj "list" #[] 0)}) (R:=λc i=>c=.ok (.ret (.ref s.heap.objs.size))/\∃h' tk acc' k,i={s with heap:=h',toks:=tk}/\(∀b o,s.heap.get? b=some o->h'.get? b=some o) /\
   h'.get? s.heap.objs.size=some {cls:=.type "list",dict:=none,data:=.seq acc' k,slots:=#[]}/\ItemsOf P acc' n) K hh (K.keep _ _ hok λb _ o e=>JV _ e) s.heap.objs.size (Nat.ne_of_gt l.1) (Nat.ne_of_gt l.2) (.ref s.heap.objs.size) 0 (J1 _ rfl)
  (λh' tk acc' k m j g=>⟨rfl,h',tk,acc',k,rfl,λb o q=>m b o (Kc (Kj q)) (JV _ q),j,g⟩) hn) (λfin i p=>?_) λe i z=>?_
 ·have u:∀(c:Result) (i:KW),(c=.ok (.ret (.ref s.heap.objs.size))/\∃h' tk acc' k,i={s with heap:=h',toks:=tk}/\(∀b o,s.heap.get? b=some o->h'.get? b=some o) /\
    h'.get? s.heap.objs.size=some {cls:=.type "list",dict:=none,data:=.seq acc' k,slots:=#[]}/\ItemsOf P acc' n) ->
    match c with
    |Except.ok (Flow.ret v)=>wpAny (model prog w) A (match v with
      |Value.ref a=>do
       let o <- load a
       match o.data with
        |Data.seq xs epoch=>pure xs.toList
        |x=>unsupported "internal:collect"
      |x=>unsupported "internal:collect") Q E i
    |Except.ok a=>False
    |Except.error e=>E e i:=by
   rintro c i ⟨rfl,h',tk,acc',k,rfl,m,j,g⟩;exact q04 (wpAny_load j (q05 (h h' tk acc' m g)))
  cases fin with
  |done f=>exact u _ _ p
  |again k=>exact⟨p.1,codeAny_mono p.2 λc y hr=>u c y hr⟩
 ·exact nomatch z.1
end
section
variable {prog:K2}{w:K5}{A:K4}{E:KQ}{s:KW}
def KeyRun(prog:K2)(w:K5)(A:K4)(E:KQ)(q:Addr)(Q:KQ)(vs:KY)(s2:KW):Prop:=
 vs.length<=sizeLine/\∀e1,((with1 s2 vs).update s2.heap.objs.size (Obj.mapSeq λ_=>(#[]:Array Value))).get? s2.heap.objs.size=some (seqObj "list" #[] e1)->∀kS,kS=(with1 s2 vs).objs.size+1 ->
   ∃(I:Nat->Array Value->Shared->Prop),I 0 #[] {s2 with heap:=sort1 (with1 s2 vs) s2.heap.objs.size vs} /\
  (∀i kA s',I i kA s'->kA.size=i/\s'.heap.get? s2.heap.objs.size=some (seqObj "list" #[] e1)/\∃e,s'.heap.get? kS=some (seqObj "list" kA e)) /\
  (∀i x kA s',vs[i]?=some x->I i kA s'->wpAny (model prog w) A.in1.in1 (call (.ref q) [x]) (λv s3=>(∃e,s3.heap.get? kS=some (seqObj "list" kA e))/\I (i+1) (kA.push v) {s3 with heap:=s3.heap.update kS (Obj.mapSeq (·.push v))}) (λ_ _=>False) s') /\
  (∀keys s',I vs.length keys s'->∃(kd:SortKind) (r:Keyed->Nat),(2<=vs.length->∀(Q:SortKind->Shared->Prop),Q kd s'->wpAny (model prog w) A.in1.in1 (keyKind' keys) Q E s')/\(2<=vs.length->pG prog w A.in1.in1 (· = s') (keys.zip vs.toArray) kd r) /\
   ∀ps:List Keyed,ps.Perm (keys.toList.zip vs)->ps.Pairwise (gW r)->Q (.ref s2.heap.objs.size) {s' with heap:=keyEnd s'.heap s2.heap.objs.size kS (ps.map (·.2)).toArray})
theorem sorted_key{v:Value}{q:Addr}{Q:KQ}(hc:wpAny (model prog w) A.in1 (collect v) (KeyRun prog w A E q Q) E s) :
  wpAny (model prog w) A (call (.builtin "sorted") [v] [(Str.ofString "key",.ref q)]) Q E s:=by
 refine call_function_entry_kw kind_sorted plain_sorted entry_sorted (ksk_s1 _ _) ?_;unfold Builtin.«sorted»;refine q04 (m:=checkCount "sorted" 1 1 _) (q05 ?_)
 refine q04 (q0X hc (λvs a ⟨n,h⟩=>?_) λ_ _ e=>e);refine q04 (wpAny_newList ?_ (hsz:=by omega));have b:(with1 a vs).get? a.heap.objs.size=some (seqObj "list" vs.toArray 0):=J1 _ rfl;show wpAny _ _ _ _ _ {a with heap:=with1 a vs};obtain⟨z,c⟩:=ya b;obtain⟨I,u,p,d,fin⟩:=h z c _ rfl;refine q04 (q0Y (wpAny_call_entry_kw slot_list_sort ⟨_,b,rfl⟩ entry_list_sort ?body (ksk_l1 _ _)))
 case body=>
  show wpAny (model prog w) A.in1.in1 (Builtin.«list.sort» ⟨[.ref a.heap.objs.size],[(Str.ofString "key",.ref q)]⟩) _ _ _;rw[ksk_t1];refine Au (s:={a with heap:=with1 a vs}) b n I c u p d λkeys g o=>?_;obtain⟨l,r,y,f2,x⟩:=fin keys g o;exact⟨l,r,λh2 {Q} hq=>y h2 Q hq,f2,λi k j=>⟨_,rfl,q05 ⟨_,rfl,x i k j⟩⟩⟩
end
end TS
namespace L2
open PySem PySem.Spec PyProof.Rows QL
abbrev uK(p a:Addr):HO:=.ext λh=>h.IsValuesView p a
section
variable {X:Cx}{pins:KS}{σ:St}{H:Hp}{s:KW}{h':Heap}
theorem Inv.adopt{t':Nat}{a:Addr}{o:HO}(I:Inv X pins σ H s)(k:∀b u,b≠a->s.heap.get? b=some u->h'.get? b=some u)(hn:H a=none)(hL:a≠X.env.locals)
  (h1:X.s₀.heap.objs.size<=a) (h2:∀x c,X.env.cells.lookup x=some c->c≠a) (h3:∀p∈X.pn++pins,p.1≠a) (new:ci X.prog X.w (aE H a o) h' a o):Inv X pins σ (aE H a o) {s with heap:=h',toks:=t' }:=by
 have g:∀b u,H b=some u->b≠a:=λb u e z=>by rw[z,hn]at e;cases e
 have sm:∀b u,H b=some u->aE H a o b=some u:=λb u e=>by rw[av (g b u e)];exact e
 refine I.step (g':=s.gens) (d':=s.drawn) (ch:=[a]) (λb i=>?_) (λb o _ _ d e _=>k b o (λz=>d (by simp[z])) e) (λb o _ _ d e _=>⟨o.slots,k b o (λz=>d (by simp[z])) e⟩) (λb _ d _ n=>by rw[av (λz=>d (by simp[z]))];exact n)
  (λb o d e=>⟨o,k b o (λz=>d (by simp[z])) e⟩) (λb j e=>sm _ _ e) (λb _ _ e=>sm _ _ e) (λb ps e=>⟨#[],by rw[sm _ _ e];simp⟩) (λm w=>?_) (λb u e=>?_) I.bare
 ·have e:b=a:=by simpa using i
  subst e;exact⟨.inr h1,hL,h2,h3⟩
 ·obtain⟨o,y,B,l,r⟩:=w
  exact⟨o,y,B,k _ o (Ne.symm hL) l,r⟩
 ·by_cases i:b=a
  ·subst i;rw[ag]at e;cases e;exact new
  ·rw[av i]at e
   refine(I.hok b u e).stay (λc v d q=>k c v ?_ q) (λc q=>sm _ _ q) λc j q=>sm _ _ q;rcases d with z | z
   ·rw[z];exact i
   ·exact g c _ z
end
section
variable {X:Cx}{o:Expr}{apos cpos:Pos}{td:TE}
def wU(td:TE):TE:=λσ H Q=>td σ H λx H1=>∃a kvs,x=.ref a/\H1 a=some (.dK kvs)/\∀p,H1 p=none->Q (.ref p) (aE H1 p (uK p a))
theorem A4(ho:PE X o td)(hb:attributeBase o "values" X.env (eval o X.env)=eval o X.env)(hl:(apos.endLine==cpos.line)=true):PE X (.Call (.Attribute o "values" apos) [] [] cpos) (wU td):=by
 intro c s σ H Q I h;refine wpAny_Call_method0_late hb hl (cD (ho c s σ H _ I h) λu d ⟨x,H1,g,q,a,i,v,l,r⟩=>?_);subst v;obtain rfl:u=Value.ref a:=q;obtain⟨p,n,t3⟩:=zW g (.inl ⟨i,.inl l⟩);refine⟨"dict",_,PySem.F.plainAttrs_dict,PySem.F.slot_dict_values,PySem.F.type_dict_values,p,n,?_⟩;refine Calls.callWith_builtin rfl (evalArgs_nil3 ?_);obtain⟨z,j,vs,rel,m⟩:=nv g.hok l;refine call_meetsIn PySem.F.slot_dict_values m.typeIs PySem.F.entry_dict_values (PySem.F.args_dict_values_1 _) (meets_dict_values (cz X.prog X.w) a j) ⟨⟨_,m⟩,?_⟩;refine⟨.ref d.heap.objs.size,aE H1 d.heap.objs.size (uK d.heap.objs.size a),g.laid (t':=d.toks) (λb u e=>JV _ e) (Kg _) ?_,rfl,r _ (g.hok.fresh (Kg _))⟩;refine⟨⟨_,J1 _ rfl,rfl,rfl⟩,⟨_,J1 _ rfl⟩,?_⟩;rintro h1 h2 ⟨o,ho,x⟩ k;exact⟨o,k o ho,x⟩
end
end L2
namespace L2
open PySem PySem.Spec PyProof.Rows QL PySem.W
theorem oN{α β:Type}{F:α->β->Prop}:∀{l₁:List α} {l₂:List β} {i:Nat} {a:α},Paired F l₁ l₂->l₁[i]?=some a->∃b,l₂[i]?=some b/\F a b
 |_,_,_,_,.nil,e=>by simp at e
 |_,_,0,_,.cons r _,e=>by simp at e;subst e;exact⟨_,rfl,r⟩
 |_,_,i+1,a,.cons _ t,e=>by
  obtain⟨u,h1,h2⟩:=oN (i:=i) (a:=a) t (by simpa using e);exact⟨u,by simpa using h1,h2⟩
abbrev VE:=cP×Addr×List Str
abbrev Gr(e:VE):cP×V:=(e.1,.ref e.2.1)
abbrev z_(e:VE):V:=.ref e.2.1
def gJ(g:List Str->Int)(zs:List VE):Prop:=zs.Pairwise λa b=>TS.ordI.blt (kI (g b.2.2,b.2.2)) (kI (g a.2.2,a.2.2))=false
section
variable {X:Cx}{pins:KS}{σ:St}{H:Hp}{s:KW}{k:Nat}{f:Addr}{fd:K1}{ps:K3}{sp:Sp}{P:List Str->Prop}{g:List Str->Int}{Q:VK}{vs:KY}{es:List VE}
theorem Cs(F:bw X.prog X.w X.K X.mg X.base bD k f fd ps sp)(hb:dX X.K fd ps [])(hr:c8 (k+2) X.A)
  (hsp:∀l ss H Q E,aM X.K H l (ss.map V.str)->P ss->(∀t,H t=none->Q (.ref t) (aE H t (.tup [.int (g ss),.ref l])))->sp [.ref l] H Q E)
  (I:Inv X pins σ H s) (hl:vs.length=es.length) (hz:es.length<=sizeLine) (hit:∀(i:Nat) (x:Value),vs[i]?=some x->∃e:VE,es[i]?=some e/\x=Value.ref e.2.1)
  (hes:∀e,e∈es->aM X.K H e.2.1 (e.2.2.map V.str)/\P e.2.2)
  (q:∀zs:List VE,zs.Perm es->gJ g zs->∀(H':Hp) (l:Addr),aD H H'->H l=none->H' l=some (.lst (zs.map z_))->Q (.ref l) H') :
  TS.KeyRun X.prog X.w X.A X.xe f (EP X pins σ Q) vs s:=by
 refine⟨⋯,λe1 a6 M a4=>?_⟩;have hw:(TS.with1 s vs).objs.size=s.heap.objs.size+1:=size_push' ..;rw[hw]at a4;have nL:∀b,s.heap.objs.size<=b->b≠X.env.locals:=λb hb z=>by have h1:(X.env.locals:Nat)<s.heap.objs.size:=I.lt;rw[<- z]at h1;exact q0Q (Kb h1 hb) (Ko _)
 have nF:∀b,s.heap.objs.size<=b->b∉X.fs:=λb hb=>I.nofs hb;have nC:∀b,s.heap.objs.size<=b->∀x c,X.env.cells.lookup x=some c->c≠b:=λb hb x c e z=>by
  obtain⟨v,o,ho,_⟩:=I.cell x c e;have h1:=Kj ho;rw[z]at h1;exact q0Q (Kb h1 hb) (Ko _)
 have nP:∀b,s.heap.objs.size<=b->∀p∈X.pn++pins,p.1≠b:=λb hb p hp z=>by
  have h1:=Kj (I.pin p hp).1;rw[z]at h1;exact q0Q (Kb h1 hb) (Ko _)
 have nS:X.s₀.heap.objs.size<=s.heap.objs.size:=I.sz;have a1:H s.heap.objs.size=none:=I.hok.fresh (Kg _);have Y:∀{L:Hp} {C:KW} {pins':KS},Inv X (pins++pins') σ L C->∀p∈pins,C.heap.get? p.1=some p.2/\L p.1=none/\p.1≠X.env.locals/\p.1∉X.fs/\∀v,p.2.data≠.cell v:=λJ p hp=>J.pin p (q0C _ (q0D _ hp));have B:∀(xs:Array Value) (n:Nat) (v),(seqObj "list" xs n).data≠.cell v:=λxs n v z=>by cases z
 refine⟨λi kA C=>∃(L:Hp) (D:KZ) (e:Nat),Inv X (pins++[(s.heap.objs.size,seqObj "list" #[] e1),(M,seqObj "list" kA e)]) σ L C/\aD H L/\kA.toList=D.map Value.ref/\D.length=i /\
  (∀(j:Nat) (t:Addr) (d:VE),D[j]?=some t->es[j]?=some d->L t=some (.tup [.int (g d.2.2),.ref d.2.1])),?_,?_,?_,?_⟩
 ·have I':Inv X pins σ H {s with heap:=TS.sort1 (TS.with1 s vs) s.heap.objs.size vs}:=by
   refine I.kept (t':=s.toks) λb u e=>?_;have:=Kj e;exact yo (JV _ e) (Kc this)
  refine⟨H,[],0,I'.pins_of λp hp=>?_,aD.refl _,rfl,rfl,λj t d h=>by simp at h⟩;rcases J8.mp hp with hp | hp
  ·exact I'.pin p (q0C _ hp)
  ·rcases J_.mp hp with rfl | hp
   ·exact⟨JV _ (JV _ a6),a1,nL _ (Kg _),nF _ (Kg _),B _ _⟩
   ·obtain rfl:=JX.mp hp
    refine⟨?_,I.hok.fresh ⋯,nL _ ⋯,nF _ ⋯,B _ _⟩;have a8:(((TS.with1 s vs).update s.heap.objs.size (Obj.mapSeq λ_=>(#[]:Array Value))).push (seqObj "tuple" vs.toArray 0)).objs.size=M:=by rw[size_push',Heap.size_update,hw];omega
    show(TS.sort1 (TS.with1 s vs) s.heap.objs.size vs).get? M=_;rw[<- a8];exact J1 _ rfl
 ·rintro i kA C ⟨L,D,e,O,sm,hk,S,U⟩
  refine⟨by rw[<- Array.length_toList,hk,JW];exact S,(O.pin (s.heap.objs.size,_) (by simp)).1,e,(O.pin (M,_) (by simp)).1⟩
 ·rintro i x kA C hx ⟨L,D,e,O,sm,hk,S,U⟩
  obtain⟨d,T,rfl⟩:=hit i x hx;have a3:d∈es:=JZ T;have hS:=sm.seq (hes d a3).1;have a2:=hsp d.2.1 d.2.2 L (λv H2=>∃t,v=.ref t/\L t=none/\H2=aE L t (.tup [.int (g d.2.2),.ref d.2.1])) E0 hS (hes d a3).2 λt Z=>⟨t,rfl,Z,rfl⟩;refine wpAny_call (codeAny_mono (F.run X.A.in1.in1 X.stack C L ⟨[.ref d.2.1],[]⟩ [.ref d.2.1] [.ref d.2.1] _ E0 (hr.in1.in1) O.env0.in1.in1 (hb C [.ref d.2.1] O.kIn (by have:=F.len _ _ _ _ a2;simpa using this)) (.cons rfl .nil) a2) λr s2 hq=>?_);cases r with
  |error e=>exact hq
  |ok fl=>
   cases fl with
   |next=>exact False.elim hq
   |brk=>exact False.elim hq
   |cont=>exact False.elim hq
   |ret u=>
    obtain⟨v,H2,I2,rv,t,rfl,Z,rfl⟩:=O.after hq;obtain rfl:u=Value.ref t:=rv;have p0:=I2.pin (s.heap.objs.size,seqObj "list" #[] e1) (by simp);have pk:=I2.pin (M,seqObj "list" kA e) (by simp);have Ia:Inv X (pins++[(s.heap.objs.size,seqObj "list" #[] e1)]) σ (aE L t (.tup [.int (g d.2.2),.ref d.2.1])) s2:=I2.pins_of λp hp=>by
     rcases J8.mp hp with hp | hp
     ·exact Y I2 p hp
     ·obtain rfl:=JX.mp hp;exact p0
    have Ib:=Ia.turned (t':=s2.toks) (h':=s2.heap.update M (Obj.mapSeq (·.push (Value.ref t)))) (λb o hb e=>(Heap.get?_update_ne _ _ _ _ hb).trans e) pk.2.1 (nL _ ⋯) (.inr ⋯) (nC _ ⋯) (λp hp=>by
     rcases J8.mp hp with hp | hp
     ·exact nP _ ⋯ p (q0D _ hp)
     ·rcases J8.mp hp with hp | hp
      ·exact nP _ ⋯ p (q0C _ hp)
      ·obtain rfl:=JX.mp hp;show s.heap.objs.size≠M;omega)
    obtain⟨e',a7⟩:∃e',(s2.heap.update M (Obj.mapSeq (·.push (Value.ref t)))).get? M=some (seqObj "list" (kA.push (Value.ref t)) e'):=⟨_,get?_update_seq pk.1 _⟩;refine⟨⟨e,pk.1⟩,aE L t (.tup [.int (g d.2.2),.ref d.2.1]),D++[t],e',Ib.pins_of λp hp=>?_,sm.trans (ar Z),by simp[hk],by simp[S],λj u e2 h1 h2=>?_⟩
    rotate_right
    ·by_cases hj:j<D.length
     ·rw[Ke hj]at h1
      have q1:=U j u e2 h1 h2;rw[av (aJ q1 Z)];exact q1
     ·have:j=D.length:=by have:=(JU.mp h1).1;simp at this;omega
      subst this;rw[List.getElem?_concat_length]at h1;cases h1;rw[S,T]at h2;cases h2;exact ag
    ·rcases J8.mp hp with hp | hp
     ·exact Ib.pin p (q0C _ (q0D _ hp))
     ·rcases J_.mp hp with rfl | hp
      ·exact Ib.pin (s.heap.objs.size,_) (by simp)
      ·obtain rfl:=JX.mp hp
       exact⟨a7,pk.2.1,nL _ ⋯,nF _ ⋯,B _ _⟩
 ·rintro keys C ⟨L,D,e,O,sm,hk,S,U⟩
  have ez:keys.toList.zip vs=(D.zip es).map λG=>(Value.ref G.1,Value.ref G.2.2.1):=by
   apply List.ext_getElem
   ·simp[hk];omega
   ·intro i i1 i2
    have h1:i<vs.length:=by rw[q0N]at i1;omega
    obtain⟨d,T,hx⟩:=hit i vs[i] (JT h1);obtain⟨h3,h4⟩:=JU.mp T;simp only[List.getElem_zip,List.getElem_map,hk,hx,h4]
  have tup:∀G,G∈D.zip es->TS.TupI C.heap (Value.ref G.1) (g G.2.2.2,G.2.2.2):=λG a5=>by
   obtain⟨i,hi,e⟩:=List.mem_iff_getElem.mp a5;rw[List.getElem_zip]at e;have h1:i<D.length:=by rw[q0N]at hi;omega
   have h2:i<es.length:=by rw[q0N]at hi;omega
   have q1:=U i D[i] es[i] (JT h1) (JT h2);subst e;exact O.pair (x:=.ref D[i]) ⟨D[i],es[i].2.1,rfl,dZ.of q1,sm.seq (hes _ (J3 h2)).1⟩ rfl
  have all:∀v,v∈keys.toList->∃k,TS.TupI C.heap v k:=λv hv=>by
   rw[hk]at hv;obtain⟨t,Z,rfl⟩:=KF.mp hv;obtain⟨i,hi,e⟩:=List.mem_iff_getElem.mp Z;refine⟨_,tup (D[i],es[i]'⋯) ?_ |> λz=>by rw[<- e];exact z⟩;refine List.mem_iff_getElem.mpr ⟨i,by rw[q0N];omega,by rw[List.getElem_zip]⟩
  refine⟨tuples' true,TS.rk TS.ordI (TS.keyI C.heap) (keys.zip vs.toArray).toList,λh2 Q hq=>?_,λ_=>TS.cmp_I (by have:=hr.un;show X.A.units+1+1<cLine;omega) λp hp=>all p.1 ?_,λps p1 p2=>?_⟩
  ·have:=TS.kind_I (prog:=X.prog) (w:=X.w) (A:=X.A.in1.in1) (E:=X.xe) (vs:=keys.toList) all (by rw[hk,JW];omega) hq
   simpa using this
  ·rw[ksk_zip]at hp
   exact(List.of_mem_zip hp).1
  ·rw[ksk_zip]at p2
   have p3:=TS.ranks_out p1 p2;obtain⟨R,pm,rfl⟩:=uC p1 _ ez;have mm:∀t,t∈R->t∈D.zip es:=λt Z=>pm.mem_iff.mp Z;rw[List.pairwise_map]at p3;have p4:gJ g (R.map (·.2)):=by
    unfold gJ;rw[List.pairwise_map];refine(List.Pairwise.and_mem.mp p3).imp ?_;rintro x y ⟨hx,hy,hb⟩;rw[TS.keyI_eq (p:=(Value.ref x.1,Value.ref x.2.2.1)) (tup x (mm x hx)),TS.keyI_eq (p:=(Value.ref y.1,Value.ref y.2.2.1)) (tup y (mm y hy))]at hb;exact hb
   have p5:(R.map (·.2)).Perm es:=(pm.map _).trans (by rw[List.map_snd_zip ⋯]);have qq:=q _ p5 p4;have a0:(((R.map (·.2))).map z_).length<=sizeLine:=by rw[JW,p5.length_eq];exact hz
   have vo:bv ((R.map (·.2)).map z_) (R.map λG=>Value.ref G.2.2.1):=by
    clear p3 p4 p5 qq a0 mm pm p1 p2
    induction R with
    |nil=>exact .nil
    |cons t m ih=>exact .cons rfl ih
   have eo:List.map (λx=>x.2) (List.map (λG:Addr×VE=>(Value.ref G.1,Value.ref G.2.2.1)) R)=R.map λG=>Value.ref G.2.2.1:=by rw[J9];rfl
   rw[eo];generalize(R.map λG=>Value.ref G.2.2.1)=out at vo ⊢;generalize(R.map (·.2)).map z_=zv at vo qq a0;clear p3 p4 p5 pm mm p2 p1 eo;have p0:=O.pin (s.heap.objs.size,seqObj "list" #[] e1) (by simp);have pk:=O.pin (M,seqObj "list" keys e) (by simp);have Ia:Inv X pins σ L C:=O.pins_of (Y O);have Ib:=Ia.turned (t':=C.toks) (h':=C.heap.update M (Obj.mapSeq λ_=>(#[]:Array Value))) (λb o hb e=>(Heap.get?_update_ne _ _ _ _ hb).trans e) pk.2.1 (nL _ ⋯) (.inr ⋯) (nC _ ⋯) (nP _ ⋯);have ga:(C.heap.update M (Obj.mapSeq λ_=>(#[]:Array Value))).get? s.heap.objs.size=some (seqObj "list" #[] e1):=(Heap.get?_update_ne _ _ _ _ (λz=>by have z2:(s.heap.objs.size:Nat)=s.heap.objs.size+1+1:=Eq.trans z a4;omega)).trans p0.1;have Ic:=Ib.adopt (t':=C.toks) (a:=s.heap.objs.size) (o:=.lst zv) (h':=TS.keyEnd C.heap s.heap.objs.size M out.toArray) (λb u hb e=>(Heap.get?_update_ne _ _ _ _ hb).trans e) p0.2.1 (nL _ (Kg _)) nS (nC _ (Kg _)) (nP _ (Kg _))
    (show ci X.prog X.w _ _ _ (.lst zv) from⟨a0,out,_,vo,get?_update_seq ga _⟩)
   exact⟨.ref s.heap.objs.size,_,Ic,rfl,qq _ _ (bE sm a1) a1 ag⟩
end
def tD(K:KR)(P:List Str->Prop)(g:List Str->Int)(t:TA):TE:=λσ H Q=>t σ H λxs H1=>∃(p a:Addr) (es:List VE),xs=[.ref p]/\H1 p=some (uK p a)/\H1 a=some (.dK (es.map Gr))/\(∀e,e∈es->aM K H1 e.2.1 (e.2.2.map V.str)/\P e.2.2) /\
 ∀zs:List VE,zs.Perm es->gJ g zs->∀(H':Hp) (l:Addr),aD H1 H'->H1 l=none->H' l=some (.lst (zs.map z_))->Q (.ref l) H'
section
variable {X:Cx}{e:Expr}{t:TA}{p fp pos kpos:Pos}{k:Nat}{fx:Str}{ps:K3}{sp:Sp}{P:List Str->Prop}{g:List Str->Int}
theorem yC(hr:c8 (k+2) X.A)(hc:X.calm=true)(hg:Gl X "sorted")(hm:X.mg "sorted"=none)(C:dF X.prog X.w X.K X.mg X.base bD k fx ps sp)(hgf:Gl X fx)
  (hsp:∀l ss H Q E,aM X.K H l (ss.map V.str)->P ss->(∀t,H t=none->Q (.ref t) (aE H t (.tup [.int (g ss),.ref l])))->sp [.ref l] H Q E) (ha:PA X [e] t) (hdb:autoParam ((fx==("__debug__":Str))=false) zz3._auto_1)
  (he:autoParam (backTo pos (starEach [e] X.env)=(false,eval e X.env)::backTo pos (starEach [] X.env)) zz0._auto_1) (hpl:autoParam ((backTo pos (starEach [e] X.env)).any (·.1)=false) zz0._auto_1)
  (hall:autoParam ((backToKw pos (keywordEach [⟨some "key",.Name fx fp,kpos⟩] X.env)).all (·.1.isSome)=true) zz0._auto_1) (hkw:autoParam ((backToKw pos (keywordEach [⟨some "key",.Name fx fp,kpos⟩] X.env)).any (·.1.isNone)=false) zz0._auto_1)
  (hks:autoParam ((backToKw pos (keywordEach [⟨some "key",.Name fx fp,kpos⟩] X.env)).filterMap (·.1)=[Str.ofString "key"]) zz0._auto_1) :
  PE X (.Call (.Name "sorted" p) [e] [⟨some "key",.Name fx fp,kpos⟩] pos) (tD X.K P g t):=by
 obtain⟨f,fd,F,G,hkf,L⟩:=C.ex;intro c s σ H Q I h;have hb:bootBuiltins "sorted"=some (.builtin "sorted"):=by decide +kernel
 refine wpAny_Call_Name_kw (eS I hg hm hb ?_);refine callWith_kw (cD (ha pos c s σ H _ I h) λus Y ⟨vs,H1,I1,r,q⟩=>?_) he hpl hall hkw;have hk:PK X [⟨some "key",.Name fx fp,kpos⟩] (gI (tC (.ref f)) k9):=Dh (dq hgf G rfl hdb) EF;refine cD (hk pos c Y σ H1 (λR H2=>R=[.ref f]/\H2=H1) I1 ⟨rfl,rfl⟩) λws s2 ⟨R,H2,B,Z,ez,eh⟩=>?_;subst ez eh;rw[hks];obtain⟨S,a,y,rfl,hp,O,J,q3⟩:=q;obtain⟨u,rfl,ru⟩:=r.one;cases ru;obtain⟨u2,rfl,D⟩:=Z.one;cases D;show wpAny _ _ (call (.builtin "sorted") [.ref S] [(Str.ofString "key",.ref f)]) _ _ _;refine TS.sorted_key ?_;obtain⟨z,hd,vs,m,dd⟩:=nv B.hok O;obtain⟨ep,da⟩:=dd.dictAt;obtain⟨hv,_⟩:=B.hok _ _ hp;have n:vs.length=y.length:=by rw[<- m.length,JW]
 have hz:y.length<=sizeLine:=by rw[JW]at z;exact z
 refine TS.collect_src (PySem.W.kdl_values (knd:=cz X.prog X.w) (r:=S) (d:=a) (kvs:=vs) (ep:=ep)) (B.ok.hd hc) ⟨hv,da⟩ ⋯ λh' U acc' kp j=>?_;have I3:=B.kept (t':=U) kp;refine Cs F L hr hsp I3 (by rw[Array.length_toList,j.1,n]) hz (λi x hx=>?_) J q3;obtain⟨kk,o⟩:=j.2 i x (by simpa using hx);have T:i<y.length:=by have:=(JU.mp o).1;omega
 refine⟨y[i],JT T,?_⟩;have:=oN m (i:=i) (a:=Gr y[i]) (by rw[JY,JT T];rfl);obtain⟨b,v,_,M⟩:=this;rw[o]at v;cases v;exact M
end
section
variable {prog:K2}{w:K5}{A:K4}{E:KQ}{s:KW}
theorem sJ{v:Value}{Q:KQ}
  (hc:wpAny (model prog w) A.in1 (collect v) (λvs s2=>vs.length<=sizeLine/\∃ss,StrsAre vs ss/\∀(out:KY) (ss':K3),StrsAre out ss'->ss'.Perm ss->ss'.Pairwise (λa b=>¬ b.cps.toList<a.cps.toList)->Q (.ref s2.heap.objs.size) {s2 with heap:=sortedHeap (TS.with1 s2 vs) s2.heap.objs.size vs out.toArray}) E s) :
  wpAny (model prog w) A (call (.builtin "sorted") [v]) Q E s:=by
 refine Calls.call_function_entry kind_sorted plain_sorted entry_sorted (args_sorted1 v) ?_;unfold Builtin.«sorted»;refine q04 (m:=checkCount "sorted" 1 1 _) (q05 ?_)
 refine q04 (q0X hc (λvs s2 ⟨D,ss,c,h⟩=>q04 (wpAny_newList ?_ (hsz:=by omega))) λ_ _ e=>e);have d:(TS.with1 s2 vs).get? s2.heap.objs.size=some (seqObj "list" vs.toArray 0):=J1 _ rfl;show wpAny _ _ _ _ _ {s2 with heap:=TS.with1 s2 vs};refine q04 (q0Y (wpAny_call_entry slot_list_sort ⟨_,d,rfl⟩ entry_list_sort (TS.sort_tree (s:={s2 with heap:=TS.with1 s2 vs}) (kd:=oneType') d D (λh2 Q q=>?_) (λ_=>TS.cmp_one strKind_oneLt c.keysOf) λl i n=>⟨_,rfl,?_⟩) (args_list_sort _)))
 ·obtain⟨v₁,g,bU,rfl⟩:∃v₁ g bU,vs=v₁::g::bU:=by
   match vs,h2 with
   |v₁::g::bU,_=>exact⟨v₁,g,bU,rfl⟩
  rw[keyKind_strs c];exact q05 q
 ·refine q05 ⟨_,rfl,?_⟩
  obtain⟨k,z2⟩:=TS.zip_map2 i;have L:∀u,u∈l.map (·.2)->∃x t,u=Value.str x t:=λu G=>c.all u (k.mem_iff.mp G);refine h _ ((l.map (·.2)).map strOf) (strsAre_map _ L) ((k.map strOf).trans (by rw[c.strs])) ?_;rw[List.pairwise_map,List.pairwise_map];rw[pairsOf_toList]at n;have C:=TS.ranks_out i n;refine(List.Pairwise.and_mem.mp C).imp ?_;rintro p q ⟨J,I,j⟩;have B:=(mem_zip_self (i.mem_iff.mp J));have z:=(mem_zip_self (i.mem_iff.mp I));obtain⟨x,t,r⟩:=c.all _ B.2;obtain⟨y,u,o⟩:=c.all _ z.2;rw[<- B.1,<- z.1,r,o];dsimp only at j;rw[r,o]at j;exact of_decide_eq_false j
end
section
variable {X:Cx}
def vP:List V->Hp->VK->Prop:=λxs H Q=>∃(a:Addr) (kvs:List (cP×V)) (ys:K3),xs=[.ref a]/\H a=some (.dK kvs)/\kvs.map (·.1)=ys.map Sum.inr /\
 ∀zs:List Str,zs.Perm ys->zs.Pairwise (λa b=>¬ b.cps.toList<a.cps.toList)->∀l,H l=none->Q (.ref l) (aE H l (.lst (zs.map V.str)))
theorem vY(hc:X.calm=true):eR X (.builtin "sorted") vP:=by
 intro pins s σ H xs us Q I r h;obtain⟨a,kvs,n,rfl,e,L,q⟩:=h;obtain⟨u,rfl,R⟩:=lX r;obtain rfl:u=Value.ref a:=R;obtain⟨z,hd,vs,g,dd⟩:=nv I.hok e;obtain⟨ep,da⟩:=dd.dictAt;have D:vs.length<=sizeLine:=by rw[<- g.length];exact z
 refine sJ (TS.collect_src (PySem.W.kdl_dict hd) (I.ok.hd hc) da D λh' l c kp d=>?_);have G:bv (n.map V.str) c.toList:=by
  have p:n.length=vs.length:=by have:=q0R List.length L;rw[JW,JW]at this;rw[<- this,g.length]
  refine mZ _ _ (by rw[JW,p];simp[d.1]) λj x u M e2=>?_;obtain⟨k,w,B,Z⟩:=d.2 j u (by simpa using e2);have Y:(n.map V.str)=(vs.map (·.1)).map kV:=by rw[<- g.keys,L,J9];rfl
  rw[Y,JY,JY,B]at M;cases M;exact DJ Z
 have hS:=d0 G;have U:c.toList.length<=sizeLine:=by rw[Array.length_toList,d.1];exact D
 have O:=I.kept (t':=l) kp;refine⟨U,_,hS,λout m T C S=>?_⟩;have v:(TS.with1 {s with heap:=h',toks:=l} c.toList).get? h'.objs.size=some (seqObj "list" c.toList.toArray 0):=J1 _ rfl;obtain⟨e',he⟩:=sortedHeap_at (out:=out.toArray) v;have y:m.length<=sizeLine:=by rw[C.length_eq];have:=G.length;rw[JW]at this;omega
 refine⟨.ref h'.objs.size,_,O.laid (t':=l) (h':=sortedHeap (TS.with1 {s with heap:=h',toks:=l} c.toList) h'.objs.size c.toList out.toArray) (λb o J=>?_) (Kg _) (show ci X.prog X.w _ _ _ (.lst (m.map V.str)) from⟨by rw[JW];exact y,out,e',iL T,he⟩),rfl,q m C S _ (O.hok.fresh (Kg _))⟩;have i:b<h'.objs.size:=Kj J;rw[sortedHeap_old (Kc i) (by show _<(Heap.push _ _).objs.size;rw[size_push'];exact Nat.lt_succ_of_lt i)];exact JV _ J
end
theorem lT{β:Type}{g:TG}{ti:TT}{te:TE}{σ:St}{H:Hp}{Q:List V->Hp->Prop}{n:Nat}{emb:β->V}(B:β->Prop)(S:St->Prop)(h0:S σ)(hn:n<=1000000)
  (hs:∀i,i<n->∀σ H' (N1:V->St->Hp->Prop) (N0:St->Hp->Prop),S σ->aD H H'->(∀y σ2 H2,B y->aD H H2->S σ2->N1 (emb y) σ2 H2) ->
   g (.int (0+(i:Int))) σ H' λσ2 H3=>ti σ2 H3 λb H4=>if b=true then te σ2 H4 λv H5=>N1 v σ2 H5 else N0 σ2 H4)
  (he:∀(ys:List β) H',ys.length=n->(∀y∈ys,B y)->aD H H'->Q (ys.map emb) H'):fg (wo 0 n) g ti te σ H Q:=by
 refine jX (lo:=0) (n:=n) (λi a σ H'=>aD H H'/\(∃ys:List β,a=ys.map emb/\ys.length=i/\∀y∈ys,B y)/\i<=n/\S σ) ⟨λ_ _ e=>e,⟨[],rfl,rfl,λy d=>nomatch d⟩,Kh _,h0⟩ ?_ ?_ ?_ ?_
 ·rintro i a σ H' ⟨_,⟨ys,rfl,c,_⟩,j,_⟩
  rw[JW];exact aX ⋯
 ·rintro i a σ H' ⟨_,_,h,_⟩
  exact h
 ·rintro i a σ H' j ⟨sm,⟨ys,rfl,c,k⟩,_,m⟩
  refine hs i j σ H' (λv σ2 H5=>_) (λσ2 H4=>_) m sm (λy σ2 H2 d s2 hS2=>⟨s2,⟨ys++[y],by rw[J7];rfl,by rw[Kf];exact q0R (· + 1) c,λz l=>?_⟩,j,hS2⟩);rcases J8.mp l with h | h
  ·exact k z h
  ·rw[JX.mp h];exact d
 ·rintro a σ H' ⟨sm,⟨ys,rfl,c,k⟩,_⟩
  exact he _ _ c k sm
end L2
namespace aL
def pi(sb:Bool)(p q:aL):aL:=if sb=true then(p.zip q).map λx=>x.1++x.2 else p++q
theorem vn{p q:aL}{r c c':Nat}(hp:rect p r c)(hq:rect q r c'):rect (pi true p q) r (c+c'):=by
 unfold pi;rw[q07 rfl];refine⟨by rw[JW,q0N,hp.1,hq.1,Nat.min_self],λx b=>?_⟩;obtain⟨⟨u,v⟩,a,rfl⟩:=KF.mp b;have:=List.of_mem_zip a;rw[Kf,hp.2 u this.1,hq.2 v this.2]
theorem vV{p q:aL}{r r' c:Nat}(hp:rect p r c)(hq:rect q r' c):rect (pi false p q) (r+r') c:=by
 unfold pi;rw[q06 (by decide)];refine⟨by rw[Kf,hp.1,hq.1],λx a=>?_⟩;rcases J8.mp a with h | h
 ·exact hp.2 x h
 ·exact hq.2 x h
end aL
namespace Win
abbrev Wn:=List Int
def wn(t l b r:Nat):Wn:=[(t:Int),(l:Int),(b:Int),(r:Int)]
def W4(t l b n:Nat):List Wn:=(List.range n).map λk=>wn t l b (l+1+k)
def W3(c t l n:Nat):List Wn:=(List.range n).flatMap λk=>W4 t l (t+1+k) (c-l)
def W2(r c t n:Nat):List Wn:=(List.range n).flatMap λl=>W3 c t l (r-t)
def W1(r c n:Nat):List Wn:=(List.range n).flatMap λt=>W2 r c t c
def jU(r c:Nat):List Wn:=W1 r c r
theorem Dg(t l b n:Nat):W4 t l b (n+1)=W4 t l b n++[wn t l b (l+1+n)]:=by unfold W4;rw[q0M,J7];rfl
theorem CL(c t l n:Nat):W3 c t l (n+1)=W3 c t l n++W4 t l (t+1+n) (c-l):=by unfold W3;rw[q0M,List.flatMap_append];simp
theorem Cr(r c t n:Nat):W2 r c t (n+1)=W2 r c t n++W3 c t n (r-t):=by unfold W2;rw[q0M,List.flatMap_append];simp
theorem CP(r c n:Nat):W1 r c (n+1)=W1 r c n++W2 r c n c:=by unfold W1;rw[q0M,List.flatMap_append];simp
def lt:Wn->Wn->Bool
 | [],[]=>false
 | [],_::_=>true
 |_::_,[]=>false
 |x::xs,y::ys=>if x=y then lt xs ys else decide (x<y)
def good(r c:Nat):Wn->Bool
 | [t,l,b,x]=>decide (0<=t)&&decide (t<b)&&decide (b<=(r:Int))&&decide (0<=l)&&decide (l<x)&&decide (x<=(c:Int))
 |_=>false
def B8:Wn->List Wn->Bool
 |_,[]=>true
 |a,w::ws=>lt a w&&B8 w ws
def check(r c:Nat):Bool:=(jU r c).all (good r c)&&B8 [-1,0,0,0] (jU r c)&&((jU r c).length==r*(r+1)/2*(c*(c+1)/2))&&decide ((jU r c).length<=1000)
theorem zK:((List.range 6).all λr=>(List.range 6).all λc=>check (r+1) (c+1))=true:=by decide +kernel
theorem Cz{r c:Nat}(hr0:0<r)(hr:r<=6)(hc0:0<c)(hc:c<=6):check r c=true:=by
 have h:=KG.mp zK (r-1) (List.mem_range.mpr ⋯);have h2:=KG.mp h (c-1) (List.mem_range.mpr ⋯);have b:r-1+1=r:=by omega
 have a:c-1+1=c:=by omega
 rw[b,a]at h2;exact h2
def cut(p:List (List Nat))(t l b x:Nat):List (List Nat):=((p.drop t).take (b-t)).map λrow=>(row.drop l).take (x-l)
end Win
namespace SnM
open PySem L2 aL QL Win
def bG(p:aL):Prop:=∀row∈p,47∉row
theorem zB{p:aL}(h:bG p):bG (mirror p):=by
 intro row hr;obtain⟨x,a,rfl⟩:=KF.mp hr;rw[List.mem_reverse];exact h x a
theorem wv{p:aL}{r c:Nat}(hp:rect p r c)(hr:0<r)(h:bG p):bG (bx p):=by
 intro row a;unfold bx at a;rw[bg hp hr]at a;obtain⟨i,g,rfl⟩:=KF.mp a;have g:=List.mem_range.mp g;intro d;obtain⟨x,j,e⟩:=KF.mp d;have b:=List.mem_reverse.mp j;have hl:=hp.2 x b;rw[q0A,JT ⋯,q0L]at e;exact h x b (e▸J3 _)
theorem iT:∀(n:Nat) {p:aL} {r c:Nat},rect p r c->0<r->0<c->bG p->bG (aV n p)
 |0,_,_,_,_,_,_,h=>h
 |n+1,p,r,c,hp,hr,hc,h=>by
  have e:aV (n+1) p=bx (aV n p):=(cK 1 n p).symm;rw[e];have hq:=cZ n hp hr hc;refine wv hq ?_ (iT n hp hr hc h)
  split<;>assumption
theorem qT{p:aL}{r c:Nat}(hp:rect p r c)(hr:0<r)(hc:0<c)(h:bG p)(t:Nat):bG (turned p t):=by
 unfold turned
 split
 ·exact iT _ (cr hp) hr hc (zB h)
 ·exact iT _ hp hr hc h
theorem EC{p:aL}{t l b x:Nat}(h:bG p):bG (cut p t l b x):=by
 intro row hr;obtain⟨y,c,rfl⟩:=KF.mp hr;exact λa=>h y (q0I (q0H c)) (q0I (q0H a))
theorem cE{p:aL}{r c t l b x:Nat}(hp:rect p r c)(h1:t<b)(h2:b<=r)(h3:l<x)(h4:x<=c):rect (cut p t l b x) (b-t) (x-l):=by
 refine⟨?_,λrow hr=>?_⟩
 ·unfold cut;rw[JW,Kw,Kx,hp.1];omega
 ·obtain⟨y,a,rfl⟩:=KF.mp hr
  have:=hp.2 y (q0I (q0H a));rw[Kw,Kx];omega
theorem oQ{r c:Nat}{w:Wn}:w∈jU r c↔∃t l b x:Nat,w=wn t l b x/\t<b/\b<=r/\l<x/\x<=c:=by
 unfold jU W1 W2 W3 W4;simp only[List.mem_flatMap,KF,List.mem_range]
 constructor
 ·rintro⟨t,ht,l,hl,k,hk,m,hm,rfl⟩
  exact⟨t,l,t+1+k,l+1+m,rfl,⋯,⋯,⋯,⋯⟩
 ·rintro⟨t,l,b,x,rfl,h1,h2,h3,h4⟩
  exact⟨t,⋯,l,⋯,b-t-1,⋯,x-l-1,⋯,by rw[show t+1+(b-t-1)=b by omega,show l+1+(x-l-1)=x by omega]⟩
def C'(p:aL)(w:Wn):aL:=cut p (w.getD 0 0).toNat (w.getD 1 0).toNat (w.getD 2 0).toNat (w.getD 3 0).toNat
theorem mS(p:aL)(t l b x:Nat):C' p (wn t l b x)=cut p t l b x:=rfl
def ba(p:aL)(r c:Nat)(q:aL):Prop:=∃t l b x u:Nat,t<b/\b<=r/\l<x/\x<=c/\u<8/\q=turned (cut p t l b x) u
theorem zx{p q:aL}{r c:Nat}:ba p r c q↔∃i,i<(jU r c).length/\∃u,u<8/\q=turned (C' p ((jU r c).getD i [])) u:=by
 constructor
 ·rintro⟨t,l,b,x,u,h1,h2,g,d,k,rfl⟩
  obtain⟨i,a,e⟩:=List.mem_iff_getElem.mp (oQ.mpr ⟨t,l,b,x,rfl,h1,h2,g,d⟩);refine⟨i,a,u,k,?_⟩;rw[q0A,JT a,q0L,e,mS]
 ·rintro⟨i,a,u,j,rfl⟩
  obtain⟨t,l,b,x,e,h1,h2,g,d⟩:=oQ.mp (J3 a);refine⟨t,l,b,x,u,h1,h2,g,d,j,?_⟩;rw[q0A,JT a,q0L,e,mS]
theorem sV{p:aL}{r c:Nat}(hp:rect p r c)(hn:bG p){t l b x u:Nat}(h1:t<b)(h2:b<=r)(h3:l<x)(h4:x<=c) :
  turned (cut p t l b x) u≠[]/\bG (turned (cut p t l b x) u)/\∃r' c',rect (turned (cut p t l b x) u) r' c'/\0<r'/\0<c'/\r'<=max r c/\c'<=max r c:=by
 have d:=cE hp h1 h2 h3 h4;have a:=cT d ⋯ ⋯ u;refine⟨λe=>?_,qT d ⋯ ⋯ (EC hn) u,_,_,a,by split<;>omega,by split<;>omega,by split<;>omega,by split<;>omega⟩;have:=a.1;rw[e]at this;simp at this
 split at this<;>omega
abbrev AP:=Addr×aL
def Ej(z:AP):VE:=(.inr (tx (SpM.glue 47 z.2)),z.1,z.2.map tx)
abbrev gy(z:AP):cP×V:=Gr (Ej z)
def ke(zs:List AP)(z:AP):List AP:=if(zs.any λz0=>decide (z0.2=z.2))=true then zs.map (λz0=>if z0.2=z.2 then z else z0) else zs++[z]
theorem tx_inj{a b:KU}(h:tx a=tx b):a=b:=by rw[<- cV a,<- cV b,h]
theorem zT{zs:List AP}{z:AP}(inj:∀z0∈zs,SpM.glue 47 z0.2=SpM.glue 47 z.2->z0.2=z.2):dH (zs.map gy) (.inr (tx (SpM.glue 47 z.2))) (.ref z.1)=(ke zs z).map gy:=by
 have b:∀z0∈zs,((gy z0).1=Sum.inr (tx (SpM.glue 47 z.2))↔z0.2=z.2):=λz0 c=>⟨λe=>inj z0 c (tx_inj (Sum.inr.inj e)),λe=>by show Sum.inr (tx (SpM.glue 47 z0.2))=_;rw[e]⟩;unfold dH ke;have i:((zs.map gy).any λg=>decide (g.1=Sum.inr (tx (SpM.glue 47 z.2))))=zs.any λz0=>decide (z0.2=z.2):=by
  rw[List.any_map];clear inj
  induction zs with
  |nil=>rfl
  |cons a l ih=>
   rw[List.any_cons,List.any_cons,ih λz0 c=>b z0 (J' _ c)]
   congr 1
   exact decide_eq_decide.mpr (b a (q0B ..))
 rw[i]
 split
 ·rw[J9,J9]
  refine q0K λz0 c=>?_;show(if(gy z0).1=Sum.inr (tx (SpM.glue 47 z.2)) then((gy z0).1,V.ref z.1) else gy z0)=gy (if z0.2=z.2 then z else z0)
  by_cases h:z0.2=z.2
  ·have d:=(b z0 c).mpr h
   rw[q07 d,q07 h,d]
   rfl
  ·rw[q06 λq=>h ((b z0 c).mp q),q06 h]
 ·rw[J7];rfl
structure dD(H H':Hp)(d:Addr)(dn:aL->Prop)(zs:List AP)(n:Nat):Prop where
 tbl:H' d=some (.dK (zs.map gy))
 sm:aD H H'
 hd:H d=none
 each:∀z∈zs,H z.1=none/\H' z.1=some (.lst (aq z.2))/\z.2≠[]/\bG z.2/\(z.2.headD []).length<=64
 nda:(zs.map (·.1)).Nodup
 ndp:(zs.map (·.2)).Nodup
 mem:∀q,q∈zs.map (·.2)↔dn q
 len:zs.length<=n
theorem dD.step{H H1 H2:Hp}{d b:Addr}{dn:aL->Prop}{zs:List AP}{q:aL}{n:Nat}(S:dD H H1 d dn zs n)(sm:aD H1 H2)(hb:H1 b=none)(hb2:H2 b=some (.lst (aq q)))(hq:q≠[])(ns:bG q)(hl:(q.headD []).length<=64) :
  dH (zs.map gy) (.inr (tx (SpM.glue 47 q))) (.ref b)=(ke zs (b,q)).map gy/\dD H (aE H2 d (.dK ((ke zs (b,q)).map gy))) d (λx=>dn x\/x=q) (ke zs (b,q)) (n+1):=by
 refine⟨zT (z:=(b,q)) λz0 h0 e=>SpM.glue_inj 47 (S.each z0 h0).2.2.1 hq (S.each z0 h0).2.2.2.1 ns e,?_⟩;have nbd:b≠d:=λe=>by rw[e,S.tbl]at hb;cases hb
 have nzd:∀z∈zs,z.1≠d:=λz hz=>nV (S.each z hz).2.1 S.tbl (by intro e;cases e);have nzb:∀z∈zs,z.1≠b:=λz hz=>aJ (S.each z hz).2.1 hb;have old:∀z∈zs,H z.1=none/\aE H2 d (.dK ((ke zs (b,q)).map gy)) z.1=some (.lst (aq z.2))/\z.2≠[]/\bG z.2/\(z.2.headD []).length<=64:=λz hz=>by
  obtain⟨h1,h2,h3⟩:=S.each z hz;exact⟨h1,by rw[av (nzd z hz)];exact sm _ _ h2,h3⟩
 have new:H b=none/\aE H2 d (.dK ((ke zs (b,q)).map gy)) b=some (.lst (aq q))/\q≠[]/\bG q/\(q.headD []).length<=64:=⟨S.sm.free hb,by rw[av nbd];exact hb2,hq,ns,hl⟩
 by_cases h:(zs.any λz0=>decide (z0.2=q))=true
 ·have e:ke zs (b,q)=zs.map λz0=>if z0.2=q then(b,q) else z0:=by unfold ke;rw[q07 h]
  have e2:((ke zs (b,q)).map (·.2))=zs.map (·.2):=by
   rw[e,J9];refine q0K λz0 _=>?_;show(if z0.2=q then(b,q) else z0).2=z0.2
   split
   ·rename_i hz;exact hz.symm
   ·rfl
  obtain⟨z1,hz1,hz2⟩:=List.any_eq_true.mp h;have hz2:=of_decide_eq_true hz2;refine⟨ag,bE (S.sm.trans sm) S.hd,S.hd,?_,?_,by rw[e2];exact S.ndp,λx=>?_,by rw[e,JW];exact Nat.le_succ_of_le S.len⟩
  ·intro z hz
   have hz':=hz;rw[e]at hz';obtain⟨z0,h0,ez⟩:=KF.mp hz'
   split at ez
   ·rw[<- ez];exact new
   ·rw[<- ez];exact old z0 h0
  ·rw[e,J9,List.Nodup,List.pairwise_map]
   have h1:=S.nda;have h2:=S.ndp;rw[List.Nodup,List.pairwise_map]at h1 h2;refine(List.Pairwise.and_mem.mp (h1.and h2)).imp ?_;rintro x y ⟨hx,hy,n1,n2⟩;show(if x.2=q then(b,q) else x).1≠(if y.2=q then(b,q) else y).1
   by_cases c1:x.2=q
   ·rw[q07 c1,q06 λc2=>n2 (c1.trans c2.symm)]
    exact(nzb y hy).symm
   ·rw[q06 c1]
    by_cases c2:y.2=q
    ·rw[q07 c2];exact nzb x hx
    ·rw[q06 c2];exact n1
  ·rw[e2,S.mem]
   refine⟨.inl,λz=>z.elim id λz=>?_⟩;rw[<- S.mem,z];exact KF.mpr ⟨z1,hz1,hz2⟩
 ·have e:ke zs (b,q)=zs++[(b,q)]:=by unfold ke;rw[q06 h]
  refine⟨ag,bE (S.sm.trans sm) S.hd,S.hd,?_,?_,?_,λx=>?_,by rw[e,Kf];exact Nat.succ_le_succ S.len⟩
  ·intro z hz
   have hz':=hz;rw[e]at hz';rcases J8.mp hz' with hz' | hz'
   ·exact old z hz'
   ·rw[JX.mp hz'];exact new
  ·rw[e,J7,List.nodup_append]
   refine⟨S.nda,by simp,λa ha c hc=>?_⟩;obtain⟨z,hz,rfl⟩:=KF.mp ha;have:c=b:=by simpa using hc
   rw[this];exact nzb z hz
  ·rw[e,J7,List.nodup_append]
   refine⟨S.ndp,by simp,λa ha c hc=>?_⟩;obtain⟨z,hz,rfl⟩:=KF.mp ha;have:c=q:=by simpa using hc
   rw[this];exact λhz2=>h (List.any_eq_true.mpr ⟨z,hz,q09 hz2⟩)
  ·rw[e,J7,J8,S.mem]
   simp
theorem dD.congr{H H':Hp}{d:Addr}{dn dn':aL->Prop}{zs:List AP}{n:Nat}(S:dD H H' d dn zs n)(h:∀q,dn q↔dn' q):dD H H' d dn' zs n:=⟨S.tbl,S.sm,S.hd,S.each,S.nda,S.ndp,λq=>(S.mem q).trans (h q),S.len⟩
theorem dD.same{H H' H2:Hp}{d:Addr}{dn:aL->Prop}{zs:List AP}{n:Nat}(S:dD H H' d dn zs n)(sm:aD H' H2):dD H H2 d dn zs n:=⟨sm _ _ S.tbl,S.sm.trans sm,S.hd,λz hz=>let ⟨h1,h2,h3⟩:=S.each z hz;⟨h1,sm _ _ h2,h3⟩,S.nda,S.ndp,S.mem,S.len⟩
def gw(ss:K3):Int:=(ss.length:Int)*((ss.headD ⟨#[]⟩).length:Int)
def bJ(p:aL):Nat:=p.length*(p.headD []).length
def Fy(a b:aL):Prop:=bJ a<bJ b\/bJ a=bJ b/\a<b
def Fz(p:aL)(r c:Nat)(qs:List aL):Prop:=(∀q,q∈qs↔ba p r c q)/\qs.Pairwise Fy
theorem xJ(p:aL):((p.map tx).headD ⟨#[]⟩).length=(p.headD []).length:=by
 cases p with
 |nil=>rfl
 |cons r p=>exact ax r
theorem yK(p:aL):gw (p.map tx)=(bJ p:Int):=by
 unfold gw bJ;rw[JW,xJ];simp
theorem FV(p:aL):TS.ks (p.map tx)=p:=by
 unfold TS.ks;rw[J9];exact(q0K λr _=>cV r).trans (List.map_id _)
theorem DH(p:aL):kI (gw (p.map tx),p.map tx)=((bJ p:Int),p):=by
 show(gw (p.map tx),TS.ks (p.map tx))=_;rw[yK,FV]
theorem zy{ws:List AP}(h:gJ gw (ws.map Ej))(nd:(ws.map (·.2)).Nodup):(ws.map (·.2)).Pairwise Fy:=by
 unfold gJ at h;rw[List.pairwise_map]at h ⊢;rw[List.Nodup,List.pairwise_map]at nd;refine(h.and nd).imp ?_;rintro a b ⟨c,e⟩;have c:TS.ordI.blt (kI (gw (b.2.map tx),b.2.map tx)) (kI (gw (a.2.map tx),a.2.map tx))=false:=c;rw[DH,DH]at c;cases d:TS.ordI.blt ((bJ a.2:Int),a.2) ((bJ b.2:Int),b.2) with
 |true=>
  have:=of_decide_eq_true d;rcases this with h1 | ⟨h1,h2⟩
  ·exact .inl (Int.ofNat_lt.mp h1)
  ·exact .inr ⟨Int.ofNat.inj h1,h2⟩
 |false=>
  have:=TS.ordI.total _ _ d c;exact q0Q (q0R Prod.snd this) e
theorem xh(a:aL):¬ Fy a a:=λh=>h.elim (Ko _) λh=>List.lt_irrefl _ h.2
theorem Ag{xs:List aL}(h:xs.Pairwise Fy):xs.Nodup:=List.Pairwise.imp (fun{a b} (h:Fy a b) (e:a=b)=>xh a (by rw[<- e]at h;exact h)) h
theorem jT{p:aL}{r c t l b x i j:Nat}(hp:rect p r c)(h2:b<=r)(h4:x<=c)(hi:i<b-t)(hj:j<x-l):zO (cut p t l b x) i j=zO p (t+i) (l+j):=by
 have h1:t+i<p.length:=by rw[hp.1];omega
 have h3:(p[t+i]).length=c:=hp.2 _ (J3 _);have a:(cut p t l b x).getD i []=((p.getD (t+i) []).drop l).take (x-l):=by
  unfold cut;simp only[q0A];rw[JY,List.getElem?_take_of_lt hi,List.getElem?_drop,JT h1]
  rfl
 unfold zO;rw[a];simp only[q0A];rw[List.getElem?_take_of_lt hj,List.getElem?_drop]
theorem vw{p:aL}{r c t l b x:Nat}(hp:rect p r c)(h1:t<b)(h2:b<=r)(h3:l<x)(h4:x<=c):cut (mirror p) t l b x=mirror (cut p t (c-x) b (c-l)):=by
 have d:=cE hp h1 h2 (show c-x<c-l by omega) (show c-l<=c by omega);refine kr (cE (cr hp) h1 h2 h3 h4) (r:=b-t) (c:=x-l) ?_ λi j a e=>?_
 ·have:=cr d
  rwa [show c-l-(c-x)=x-l by omega]at this
 ·rw[jT (cr hp) h2 h4 a e,i8 hp ⋯ ⋯,i8 d a ⋯,jT hp h2 ⋯ a ⋯]
  congr 1
  omega
theorem vk{p:aL}{r c t l b x:Nat}(hp:rect p r c)(h1:t<b)(h2:b<=c)(h3:l<x)(h4:x<=r):cut (bx p) t l b x=bx (cut p (r-x) t (r-l) b):=by
 have e:=cE hp (show r-x<r-l by omega) (show r-l<=r by omega) h1 h2;have a:=bO hp ⋯;refine kr (cE a h1 h2 h3 h4) (r:=b-t) (c:=x-l) ?_ λi j d g=>?_
 ·have:=bO e ⋯
  rwa [show r-l-(r-x)=x-l by omega]at this
 ·rw[jT a h2 h4 d g,cM hp ⋯ ⋯ ⋯,cM e ⋯ d ⋯,jT hp ⋯ h2 ⋯ ⋯]
  congr 1
  omega
theorem hZ:∀(n:Nat) {p:aL} {r c t l b x:Nat},rect p r c->t<b->b<=(if n%2=0 then r else c)->l<x->x<=(if n%2=0 then c else r)->∃t' l' b' x',t'<b'/\b'<=r/\l'<x'/\x'<=c/\cut (aV n p) t l b x=aV n (cut p t' l' b' x')
 |0,p,r,c,t,l,b,x,hp,h1,h2,h3,h4=>⟨t,l,b,x,h1,by simpa using h2,h3,by simpa using h4,rfl⟩
 |n+1,p,r,c,t,l,b,x,hp,h1,h2,h3,h4=>by
  have hr:0<r/\0<c:=by
   split at h2<;>split at h4<;>omega
  have e:∀q:aL,aV (n+1) q=aV n (bx q):=λq=>rfl;rw[e];obtain⟨t',l',b',x',g,d,k,j,i⟩:=hZ n (bO hp hr.1) (t:=t) (l:=l) (b:=b) (x:=x) h1 (by
   by_cases a:n%2=0
   ·rw[q06 ⋯]at h2;rw[q07 a];exact h2
   ·rw[q07 ⋯]at h2;rw[q06 a];exact h2) h3 (by
   by_cases a:n%2=0
   ·rw[q06 ⋯]at h4;rw[q07 a];exact h4
   ·rw[q07 ⋯]at h4;rw[q06 a];exact h4)
  refine⟨r-x',t',r-l',b',⋯,⋯,g,d,?_⟩;rw[i,vk hp g d k j,e]
theorem we{p:aL}{r c t l b x u:Nat}(hp:rect p r c)(h1:t<b)(h2:b<=(if u%2=0 then r else c))(h3:l<x)(h4:x<=(if u%2=0 then c else r)):∃t' l' b' x',t'<b'/\b'<=r/\l'<x'/\x'<=c/\cut (turned p u) t l b x=turned (cut p t' l' b' x') u:=by
 have e:u%4%2=u%2:=by omega
 unfold turned
 by_cases h:4<=u
 ·rw[q07 h]
  obtain⟨t',l',b',x',d,a,j,i,g⟩:=hZ (u%4) (cr hp) h1 (by rw[e];exact h2) h3 (by rw[e];exact h4);refine⟨t',c-x',b',c-l',d,a,⋯,⋯,?_⟩;rw[g,vw hp d a j i,q07 h]
 ·rw[q06 h]
  obtain⟨t',l',b',x',d,a,j,i,g⟩:=hZ (u%4) hp h1 (by rw[e];exact h2) h3 (by rw[e];exact h4);refine⟨t',l',b',x',d,a,j,i,?_⟩;rw[g,q06 h]
theorem Cg{p:aL}{r c t l b x t' l' b' x':Nat}(hp:rect p r c)(h1:t<b)(h2:b<=r)(h3:l<x)(h4:x<=c)(k1:t'<b')(k2:b'<=b-t)(k3:l'<x')(k4:x'<=x-l):cut (cut p t l b x) t' l' b' x'=cut p (t+t') (l+l') (t+b') (l+x'):=by
 have a:=cE hp h1 h2 h3 h4;have g:=cE hp (show t+t'<t+b' by omega) ⋯ (show l+l'<l+x' by omega) ⋯;refine kr (cE a k1 k2 k3 k4) (r:=b'-t') (c:=x'-l') ?_ λi j e d=>?_
 ·rwa [show t+b'-(t+t')=b'-t' by omega,show l+x'-(l+l')=x'-l' by omega]at g
 ·rw[jT a k2 k4 e d,jT hp h2 h4 ⋯ ⋯,jT hp ⋯ ⋯ ⋯ ⋯]
  congr 1<;>omega
theorem Da{p:aL}{r c:Nat}(hp:rect p r c):cut p 0 0 r c=p:=by
 unfold cut;rw[KP,Nat.sub_zero,Nat.sub_zero,q0F (by rw[hp.1];exact Kg _)]
 conv=>rhs;rw[<- List.map_id p]
 refine q0K λy a=>?_;rw[KP,q0F (by rw[hp.2 y a];exact Kg _)];rfl
theorem ql{p:aL}{r c n:Nat}(hp:rect p r c):p.take n=cut p 0 0 n c:=by
 unfold cut;rw[KP,Nat.sub_zero,Nat.sub_zero]
 conv=>lhs;rw[<- List.map_id (p.take n)]
 refine q0K λy a=>?_;rw[KP,q0F (by rw[hp.2 y (q0H a)];exact Kg _)];rfl
theorem qr{p:aL}{r c n:Nat}(hp:rect p r c):p.drop n=cut p n 0 r c:=by
 unfold cut;rw[Nat.sub_zero,q0F (by rw[Kx,hp.1];exact Kg _)]
 conv=>lhs;rw[<- List.map_id (p.drop n)]
 refine q0K λy a=>?_;rw[KP,q0F (by rw[hp.2 y (q0I a)];exact Kg _)];rfl
theorem qO{p:aL}{r c n:Nat}(hp:rect p r c):(p.map λy=>y.take n)=cut p 0 0 r n:=by
 unfold cut;rw[KP,Nat.sub_zero,Nat.sub_zero,q0F (by rw[hp.1];exact Kg _)]
 rfl
theorem qC{p:aL}{r c n:Nat}(hp:rect p r c):(p.map λy=>y.drop n)=cut p 0 n r c:=by
 unfold cut;rw[KP,Nat.sub_zero,q0F (by rw[hp.1];exact Kg _)];refine q0K λy a=>?_;rw[q0F (by rw[Kx,hp.2 y a];exact Kg _)]
theorem ba.rect{p q:aL}{r c:Nat}(hp:rect p r c)(h:ba p r c q):∃r' c',rect q r' c'/\0<r'/\0<c'/\r'<=max r c/\c'<=max r c:=by
 obtain⟨t,l,b,x,u,h1,h2,e,d,h5,rfl⟩:=h;have a:=cE hp h1 h2 e d;exact⟨_,_,cT a ⋯ ⋯ u,by split<;>omega,by split<;>omega,by split<;>omega,by split<;>omega⟩
theorem ba.ns{p q:aL}{r c:Nat}(hp:aL.rect p r c)(hn:bG p)(h:ba p r c q):bG q:=by
 obtain⟨t,l,b,x,u,h1,h2,d,a,h5,rfl⟩:=h;exact(sV hp hn h1 h2 d a).2.1
theorem ba.self{p:aL}{r c:Nat}(hp:aL.rect p r c)(r0:0<r)(c0:0<c):ba p r c p:=⟨0,0,r,c,0,r0,Kg _,c0,Kg _,⋯,by rw[lW,Da hp]⟩
theorem ba.turned{p q:aL}{r c u:Nat}(hp:aL.rect p r c)(h:ba p r c q)(hu:u<8):ba p r c (aL.turned q u):=by
 obtain⟨t,l,b,x,v,h1,h2,e,d,a,rfl⟩:=h;have g:=cE hp h1 h2 e d;exact⟨t,l,b,x,after v u,h1,h2,e,d,gB a hu,bW g ⋯ ⋯ a hu⟩
theorem ba.cut{p q:aL}{r c r' c' t l b x:Nat}(hp:aL.rect p r c)(h:ba p r c q)(hq:aL.rect q r' c')(h1:t<b)(h2:b<=r')(h3:l<x)(h4:x<=c'):ba p r c (Win.cut q t l b x):=by
 obtain⟨a,d,o,e,v,k,j,i,g,I,rfl⟩:=h;have n:=cE hp k j i g;have m:=cT n ⋯ ⋯ v;have J:r'=if v%2=0 then o-a else e-d:=by rw[<- hq.1,m.1]
 have L:c'=if v%2=0 then e-d else o-a:=by
  rw[<- bg hq ⋯,bg m (by split<;>omega)]
 obtain⟨y,G,M,w,m1,D,C,B,z⟩:=we (u:=v) n h1 (by rw[<- J];exact h2) h3 (by rw[<- L];exact h4);rw[z,Cg hp k j i g m1 D C B];exact⟨a+y,d+G,a+M,d+w,v,⋯,⋯,⋯,⋯,I,rfl⟩
end SnM
set_option maxHeartbeats 4000000
namespace Q56
open PySem L2 aL QL Win SnM
local macro_rules|`(tactic|walk_at "wp")=>do
 let f(s:String):Lean.MacroM _:=(s.splitOn ",").toArray.mapM λx=>let i:=Lean.mkIdent (x.splitOn "."|>.foldl .mkStr .anonymous);`(Lean.Parser.Tactic.simpLemma|$i:term)
 let g(s:String):Lean.MacroM _:=(s.splitOn ",").toArray.mapM λx=>let i:=Lean.mkIdent (x.splitOn "."|>.foldl .mkStr .anonymous);`(Lean.Parser.Tactic.simpLemma|↓$i:term)
 let c:="zA,tB,A2,xF,Eu,pR,zi,AZ,xO,Dk,tC,Cd,xZ,E8,Et,Gw,BA,Bt,vJ,wR,sI,tD,wU,wk,vP,CA,Ap,sE,sQ,Bk,vZ,v6,ET,Df,xY,qo,sr,zY,EW,xp,vD,rY,BR,nh,AL,E4,s_,EE,D9,Fn,gI,k9,j_,GM,CM,EQ,Gn,GL,Eo,Gs,q9,B_,Ew,EK,Ft,Gk,u_,rC,Dc,Bg,Bd,AS,GD,Cu,D6,xN,Br,qi,uQ,L2.start,Km,List.map_nil,J6,List.length_nil,List.replicate,List.cons_append,KJ,Nat.reduceAdd,Nat.reduceSub,List.getElem?_cons_zero,Kl,List.set_cons_zero,List.set_cons_succ,u0,Cx.blk,tM,CF,AH,AT,Cx.wish,Cx.nox,Ce,iP";let d<-f (c++",JK,Iz,HU,IK,Jv,Jl,Jg,Jb,De,EI,Ar,Ca");let e<-f (c++",Ks,Option.some.injEq,V.int.injEq,V.str.injEq,V.ref.injEq,V.bl.injEq,List.cons.injEq,and_true,true_and,exists_and_left,exists_eq_left',exists_eq_left,decide_eq_true_eq,Bool.not_eq_true',decide_eq_false_iff_not,CB,Option.join_some,Nat.succ_eq_add_one,Nat.zero_add,exists_const,and_assoc,exists_eq,exists_eq',Int.reducePow,Int.reduceNeg,Int.reduceLT,or_true,true_or,reduceCtorEq,Int.zero_add,Bool.false_eq_true,Bool.not_true,Bool.not_false,Aa,DB,xG,xR,BH,wY,Bh,yM,rI");let h<-g "reduceIte,GC,Gq,Gm,GN,GP,GS,GK,GR";let e:=e++h
 `(tactic|((try dsimp only[$d,*]);(try simp only[$e,*])))
set_option hygiene false in
local macro_rules|`(tactic|walk_at "nc")=>`(tactic|(clear h1;refine am λN1 h1=>?_;walk_at "wp"))
set_option hygiene false in
local macro_rules|`(tactic|walk_at "n")=>`(tactic|(refine am λN1 h1=>?_;walk_at "wp"))
set_option hygiene false in
local macro_rules|`(tactic|walk_at "oc")=>`(tactic|(clear h2;refine am λN2 h2=>?_;walk_at "wp"))
set_option hygiene false in
local macro_rules|`(tactic|walk_at "o")=>`(tactic|(refine am λN2 h2=>?_;walk_at "wp"))
set_option hygiene false in
local macro_rules|`(tactic|walk_at "f")=>`(tactic|refine F.ok sc (λvs H Q E h=>by cases h;subst_vars;rfl) (λcdv A outer s H vs Q E hr h=>?_))
set_option hygiene false in
local macro_rules|`(tactic|walk_at "c")=>`(tactic|exact⟨rfl,rfl,rfl,by decide +kernel,rfl,by decide +kernel,by decide +kernel⟩)
def fU(i:Nat):Stmt:=PySem.Challenge.pw_quiltlaw_k56_whole_table_in_a_table.main.body.getD i (.Pass ⟨0,0,0,0⟩)
def Db:Stmt->List Stmt
 | .ClassDef (body:=b) ..=>b
 |_=>[]
def je(i j:Nat):Stmt:=(Db (fU i)).getD j (.Pass ⟨0,0,0,0⟩)
section
variable {P:K2}{w:K5}{K:W.Frag}{mg:K0}{base:Heap}
abbrev Fc(z:Str)(c:Nat):Bool:=!(Builtin.Str.occurrences z ⟨#[c]⟩ 0 z.length 1).isEmpty
abbrev kQ:Stmt:=fU 33
def jv(r:KU)(z:Str):Bool:=r.all (Fc z)
inductive g7(vs:List V)(H:Hp)(Q:VK)(_E:XK):Prop
 |mk (r:KU) (z:Str) (_:vs=[.str (tx r),.str z]) (_:r.length<=100000) (_:∀H',aD H H'->Q (.bl (jv r z)) H')
theorem w9:aH ["text","letters"] ["text","letters"] (aw kQ):=by walk_at "c"
theorem IL{r:KU}{i c:Nat}(h:(tx r).cps[i]?=some c):r[i]?=some c:=by
 rw[<- h];show r[i]?=r.toArray[i]?;simp
theorem GY(r:KU):(tx r).cps.size=r.length:=by show r.toArray.size=_;simp
theorem wu{f:Addr}{fd:K1}(F:dw K "only_of" "only_of" kQ f fd)(nb:NB mg):bw P w K mg base bD 1 f fd ["text","letters"] g7:=by
 have sc:=w9;walk_at "f"
 ·obtain⟨r,z,rfl,hr',q⟩:=h
  refine⟨_,(ai (aO (az (Ax rfl) rfl nb.all Eb (ac (cU ["sign"] [1] rfl (bQ.of (by kernel_rfl)) (by kernel_rfl) (EY (ao 0))
    (λ_ _ _ _=>(aB (i:=0) (by show(["sign","letters"]:List Str).Nodup;decide +kernel) rfl (Or.inl rfl))) (λ_ _ _ _=>cw) (λ_ _ _ _=>(rG yH (ao 0) (ao 1) (by with_unfolding_all rfl)))) ad)))),?_⟩
  walk_at "wp";refine A_ (x:=tx r) (λi a σ d=>d=H/\a=((r.take i).map (Fc z)).map V.bl/\i<=r.length/\∃x,σ=[x,some (.str z)]) ⟨rfl,rfl,Kh _,_,rfl⟩ ?_ ?_ ?_ ?_
  ·rintro i a σ d ⟨_,rfl,k,_⟩
   rw[JW,JW,Kw];exact aX ⋯
  ·rintro i a σ d ⟨_,_,h,_⟩
   rw[GY];exact h
  ·rintro i c a σ d m ⟨rfl,rfl,k,y,rfl⟩
   have b:=IL m;have g:=(JU.mp b).1;walk_at "wp";refine⟨?_,g⟩;rw[q0E,b];simp
  ·rintro a σ d ⟨rfl,rfl,_⟩ l j
   refine⟨_,aM.of ag,?_⟩;rw[GY,Kv];have e:(r.map (Fc z)).all id=jv r z:=by unfold jv;rw[List.all_map];rfl
   rw[e];exact q _ (ar j)
abbrev k8:Stmt:=fU 34
abbrev ER:Str:="ABCDEFGHIJKLMNOPQRSTUVWXYZ"
def dh(r:KU):Bool:=decide (1<=r.length)&&decide (r.length<=4)&&jv r ER
inductive jY(vs:List V)(H:Hp)(Q:VK)(_E:XK):Prop
 |mk (r:KU) (_:vs=[.str (tx r)]) (_:r.length<=100000) (_:∀H',aD H H'->Q (.bl (dh r)) H')
theorem wL:aH ["text"] ["text"] (aw k8):=by walk_at "c"
theorem wb{f:Addr}{fd:K1}{t1 t2:Tok}(F:dw K "is_name" "is_name" k8 f fd)(nb:NB mg)(yaB:mg "LONGEST_NAME"=some (.int 4 t1))(yaI:mg "CAPITALS"=some (.str "ABCDEFGHIJKLMNOPQRSTUVWXYZ" t2))(yad:dF P w K mg base bD 1 "only_of" ["text","letters"] g7):bw P w K mg base bD 2 f fd ["text"] jY:=by
 have sc:=wL;walk_at "f"
 ·obtain⟨r,rfl,a,q⟩:=h
  refine⟨_,(ai (aO (rS (uh (bd.m0 qp) (bd.m0 qp) af (az aW rfl nb.len aS (ac (ao 0) ad)) (dq (v:=.int 4) rfl yaB ⟨_,rfl⟩)) (wW (q00 yad hr (ac (ao 0) (ac (dq (v:=.str "ABCDEFGHIJKLMNOPQRSTUVWXYZ") rfl yaI ⟨_,rfl⟩) ad))))))),?_⟩;walk_at "wp";refine⟨by rw[ax];exact ay ⋯,?_⟩;rw[ax];unfold dh at q
  by_cases h1:1<=r.length
  ·rw[q07 ⋯]
   by_cases h2:r.length<=4
   ·rw[q07 ⋯]
    refine⟨r,_,rfl,a,λb sm=>?_⟩;have z:=q b sm;rw[q09 h1,q09 h2]at z;exact z
   ·rw[q06 ⋯]
    have z:=q H (λ_ _ e=>e);rw[q09 h1,q08 h2]at z;exact z
  ·rw[q06 ⋯]
   have z:=q H (λ_ _ e=>e);rw[q08 h1]at z;exact z
abbrev gj:Stmt:=je 35 0
inductive dr(K:W.Frag)(vs:List V)(H:Hp)(Q:VK)(_E:XK):Prop
 |mk (a C dx l:Addr) (n:KU) (c:Int) (ps:aL) (_:vs=[.ref a,.str (tx n),.int c,.ref l]) (_:H a=some (.ins C dx [])) (_:jx K C) (_:aI K C "name") (_:aI K C "cost") (_:aI K C "part_names") (_:H l=some (.lst (aq ps))) (_:ps.length<=1000) (_:(∀r∈n::ps,r.length<=100000)) (_:((∀r∈n::ps,dh r=true)/\1<=c/\c<=9)) (_:∀H',aD H H'->Q .non (aE H' a (.ins C dx [("name",.str (tx n)),("cost",.int c),("part_names",.ref l)])))
theorem fC{X:Cx}{st:Stmt}:PS X st (λ_ _ _=>False):=λ_ _ _ _ _ _ h=>h.elim
theorem sU:aH ["self","name","cost","part_names","text"] ["self","name","cost","part_names"] (aw gj):=by walk_at "c"
theorem rF{f:Addr}{fd:K1}(F:dw K "__init__" "Rule.__init__" gj f fd)(nb:NB mg)(yah:dF P w K mg base bD 2 "is_name" ["text"] jY):bw P w K mg base bD 3 f fd ["self","name","cost","part_names"] (dr K):=by
 have sc:=sU;walk_at "f"
 ·obtain⟨a,C,D,l,n,c,b,rfl,T,G,O,M,L,S,hpl,j,ok,good⟩:=h
  refine⟨_,(ae (aY PassesOwn.never rfl (bN (au rK (bF (ac (ao 1) ad)) (ao 3))) (q02 4 sc.nd)
   (ai (bT (eX (fc (q00 yah hr (ac (ao 4) ad)) λ_=>rfl))
   (ai fC)
   bh)))
   (ae (bT (PW.pt (lV (aT (bd.m0 nr) (ao 2) af (bf _)) (jA (aT (bd.m0 ol) (ao 2) af (bf _)))))
   (ai fC)
   bh)
   (ae (c_ (ao 0) (ao 1) rfl)
   (ae (c_ (ao 0) (ao 2) rfl)
   (ai (c_ (ao 0) (ao 3) rfl)))))),?_⟩
  walk_at "wp";refine⟨ay ⋯,λp R=>?_⟩;have m1:aD H (aE H p (.lst [V.str (tx n)])):=ar R;have J:aE H p (.lst [V.str (tx n)]) p=some (.lst [V.str (tx n)]):=ag;generalize aE H p (.lst [V.str (tx n)])=H1 at m1 J ⊢;refine⟨_,J,_,m1 _ _ S,by rw[aj];exact ay (by simp;omega),λm y=>?_⟩;have B:[V.str (tx n)]++aq b=aq (n::b):=rfl;rw[B];have I:aD H1 (aE H1 m (.lst (aq (n::b)))):=ar y;have o:aE H1 m (.lst (aq (n::b))) m=some (.lst (aq (n::b))):=ag;generalize aE H1 m (.lst (aq (n::b)))=H2 at I o ⊢;generalize hqs:n::b=qs at j ok o ⊢;have r:=m1.trans I;refine⟨⟨_,aM.of o⟩,b5 (xs:=aq qs) (λi σ k=>aD H2 k/\∃x,σ=[some (.ref a),some (.str (tx n)),some (.int c),some (.ref l),x]) ⟨λ_ _ e=>e,_,rfl⟩ (λi σ k _ h=>aM.of (h.1 _ _ o)) ?_ ?_⟩
  ·rintro i v σ k u ⟨sm,x,rfl⟩
   have z:i<qs.length:=by have:=(JU.mp u).1;rwa [aj]at this
   rw[bc z]at u;cases u;walk_at "wp";refine⟨_,rfl,j _ (J3 z),λH3 q=>⟨_,rfl,?_⟩⟩;rw[q06 (by rw[ok.1 _ (J3 z)];decide)];exact sm.trans q
  ·rintro σ k ⟨sm,x,rfl⟩
   have d:=r.trans sm;walk_at "wp";rw[q06 ⋯,q06 ⋯];have g:=good k d;have l1:(cO "name" (V.str (tx n)) []).length<=1:=di _ _ _;have l2:(cO "cost" (V.int c) (cO "name" (V.str (tx n)) [])).length<=2:=Kn (di _ _ _) ⋯;have Z:¬ (("name":Str)="cost"):=by decide +kernel
   have Y:¬ (("name":Str)="part_names"):=by decide +kernel
   have U:¬ (("cost":Str)="part_names"):=by decide +kernel
   have e:cO "part_names" (V.ref l) (cO "cost" (V.int c) (cO "name" (V.str (tx n)) []))=[(("name":Str),V.str (tx n)),(("cost":Str),V.int c),(("part_names":Str),V.ref l)]:=by
    simp only[cO,q06 Z,q06 Y,q06 U]
   refine⟨C,D,[],d _ _ T,G,O,by simp,C,D,_,ag,G,M,⋯,C,D,_,ag,G,L,⋯,?_⟩;rw[kD,kD,e];exact g
def bj(a:Addr)(H H':Hp):Prop:=∀b o,b≠a->H b=some o->H' b=some o
theorem bj.of{a:Addr}{H H':Hp}(s:aD H H'):bj a H H':=λb o _ e=>s b o e
theorem bj.put{a:Addr}{H H':Hp}{o:HO}(s:bj a H H'):bj a H (aE H' a o):=λb u hb e=>by rw[av hb];exact s b u hb e
theorem bj.then{a:Addr}{H H' H2:Hp}(s:bj a H H')(t:aD H' H2):bj a H H2:=λb u hb e=>t b u (s b u hb e)
theorem bj.trans{a:Addr}{H H' H2:Hp}(s:bj a H H')(t:bj a H' H2):bj a H H2:=λb u hb e=>t b u hb (s b u hb e)
abbrev Fl:Str:="abcdefghijklmnopqrstuvwxyz"
def jq(r:KU):Bool:=decide (r.length=1)&&jv r Fl
def jF(n:KU)(ps:aL)(c:Int):Prop:=(∀r∈n::ps,dh r=true)/\1<=c/\c<=9
abbrev gc:Stmt:=je 36 0
inductive ib(K:W.Frag)(vs:List V)(H:Hp)(Q:VK)(_E:XK):Prop
 |mk (a C dx:Addr) (n sg:KU) (c:Int) (_:vs=[.ref a,.str (tx n),.int c,.str (tx sg)]) (_:H a=some (.ins C dx [])) (_:jx K C) (_:(aI K C "name"/\aI K C "cost"/\aI K C "part_names"/\aI K C "sign")) (_:n.length<=100000) (_:sg.length<=100000) (_:(jF n [] c/\jq sg=true)) (_:∀(l:Addr) (H':Hp),bj a H H'->H l=none->H' l=some (.lst [])->H' a=some (.ins C dx [("name",.str (tx n)),("cost",.int c),("part_names",.ref l),("sign",.str (tx sg))])->Q .non H')
theorem rZ:aH ["self","name","cost","sign"] ["self","name","cost","sign"] (aw gc):=by walk_at "c"
theorem sP{f:Addr}{fd:K1}{t3:Tok}(F:dw K "__init__" "CellRule.__init__" gc f fd)(nb:NB mg)(yaj:mg "SMALLS"=some (.str "abcdefghijklmnopqrstuvwxyz" t3))
  (yad:dF P w K mg base bD 1 "only_of" ["text","letters"] g7) (zfa:yF P w K mg base bD 3 "Rule" "__init__" ["self","name","cost","part_names"] (dr K)):bw P w K mg base bD 4 f fd ["self","name","cost","sign"] (ib K):=by
 have sc:=rZ;walk_at "f"
 ·obtain⟨a,C,d,n,i,c,rfl,u,z,⟨I,G,D,B⟩,J,o,⟨ok,m⟩,good⟩:=h
  refine⟨_,(ae (bi (m6 zfa (hr.mono (by decide)) rfl aK (ac (ao 0) (ac (ao 1) (ac (ao 2) (ac (bF ad) ad))))))
   (ae (bT (PW.pt (lV (aT DK (az aW rfl nb.len aS (ac (ao 3) ad)) af (bf _)) (jA (eX (fc (q00 yad hr (ac (ao 3) (ac (dq (v:=.str "abcdefghijklmnopqrstuvwxyz") rfl yaj ⟨_,rfl⟩) ad))) λ_=>rfl)))))
   (ai fC)
   bh)
   (ai (c_ (ao 0) (ao 3) rfl)))),?_⟩
  walk_at "wp";refine⟨Kh _,λl k=>?_⟩;have m1:aD H (aE H l (.lst [])):=ar k;have p:aE H l (.lst []) l=some (.lst []):=ag;generalize aE H l (.lst [])=H1 at m1 p ⊢;have j:l≠a:=λe=>by rw[e,u]at k;cases k
  refine⟨a,C,d,l,n,c,[],rfl,m1 _ _ u,z,I,G,D,p,by simp,λr hr=>by rw[show r=n by simpa using hr];exact J,ok,λH2 g=>?_⟩;have q:bj a H (aE H2 a (.ins C d [("name",.str (tx n)),("cost",.int c),("part_names",.ref l)])):=(bj.of (m1.trans g)).put;have y:aE H2 a (.ins C d [("name",.str (tx n)),("cost",.int c),("part_names",.ref l)]) a=some (.ins C d [("name",.str (tx n)),("cost",.int c),("part_names",.ref l)]):=ag;have x:aE H2 a (.ins C d [("name",.str (tx n)),("cost",.int c),("part_names",.ref l)]) l=some (.lst []):=by rw[av j];exact g _ _ p
  generalize aE H2 a (.ins C d [("name",.str (tx n)),("cost",.int c),("part_names",.ref l)])=H3 at q y x ⊢
  try dsimp only
  obtain⟨h1,L⟩:i.length=1/\jv i Fl=true:=by
   have h:=m;unfold jq at h;rw[q0O,q0b]at h;exact h
  refine⟨by rw[ax];exact ay ⋯,?_⟩;rw[ax,q06 (λh=>h ⋯)];refine⟨i,_,rfl,o,λH4 b=>⟨_,rfl,?_⟩⟩;rw[q06 (by rw[L];decide)];have R:¬ (("name":Str)="sign"):=by decide +kernel
  have O:¬ (("cost":Str)="sign"):=by decide +kernel
  have M:¬ (("part_names":Str)="sign"):=by decide +kernel
  have e:cO "sign" (V.str (tx i)) [(("name":Str),V.str (tx n)),(("cost":Str),V.int c),(("part_names":Str),V.ref l)]=[(("name":Str),V.str (tx n)),(("cost":Str),V.int c),(("part_names":Str),V.ref l),(("sign":Str),V.str (tx i))]:=by
   simp only[cO,q06 R,q06 O,q06 M]
  refine⟨C,d,_,b _ _ y,z,B,by simp,?_⟩;rw[e];exact good l _ (q.then b).put k (by rw[av j];exact b _ _ x) ag
inductive dt(K:W.Frag)(vs:List V)(H:Hp)(Q:VK)(_E:XK):Prop
 |mk (a C dx:Addr) (n o1 o2:KU) (c:Int) (_:vs=[.ref a,.str (tx n),.int c,.str (tx o1),.str (tx o2)]) (_:H a=some (.ins C dx [])) (_:jx K C) (_:(aI K C "name"/\aI K C "cost"/\aI K C "part_names"/\aI K C "one"/\aI K C "other")) (_:n.length<=100000) (_:o1.length<=100000) (_:o2.length<=100000) (_:jF n [o1,o2] c) (_:∀(l:Addr) (H':Hp),bj a H H'->H l=none->H' l=some (.lst (aq [o1,o2]))->H' a=some (.ins C dx [("name",.str (tx n)),("cost",.int c),("part_names",.ref l),("one",.str (tx o1)),("other",.str (tx o2))])->Q .non H')
theorem uw{n o1 o2:KU}{c:Int}{l:Addr}:cO "other" (V.str (tx o2)) (cO "one" (V.str (tx o1)) [(("name":Str),V.str (tx n)),(("cost":Str),V.int c),(("part_names":Str),V.ref l)])=[(("name":Str),V.str (tx n)),(("cost":Str),V.int c),(("part_names":Str),V.ref l),(("one":Str),V.str (tx o1)),(("other":Str),V.str (tx o2))]:=by
 have j:¬ (("name":Str)="one"):=by decide +kernel
 have i:¬ (("cost":Str)="one"):=by decide +kernel
 have g:¬ (("part_names":Str)="one"):=by decide +kernel
 have e:¬ (("name":Str)="other"):=by decide +kernel
 have d:¬ (("cost":Str)="other"):=by decide +kernel
 have b:¬ (("part_names":Str)="other"):=by decide +kernel
 have a:¬ (("one":Str)="other"):=by decide +kernel
 simp only[cO,q06 j,q06 i,q06 g,q06 e,q06 d,q06 b,q06 a]
abbrev eD:Stmt:=je 37 0
theorem oH:aH ["self","name","cost","one","other"] ["self","name","cost","one","other"] (aw eD):=by walk_at "c"
theorem oY{f:Addr}{fd:K1}(F:dw K "__init__" "BesideRule.__init__" eD f fd)(nb:NB mg)
  (zfa:yF P w K mg base bD 3 "Rule" "__init__" ["self","name","cost","part_names"] (dr K)):bw P w K mg base bD 4 f fd ["self","name","cost","one","other"] (dt K):=by
 have sc:=oH;walk_at "f"
 ·obtain⟨a,C,b,n,g,d,c,rfl,v,q,⟨I,G,D,B,z⟩,J,o,m,ok,good⟩:=h
  refine⟨_,(ae (bi (m6 zfa (hr.mono (by decide)) rfl aK (ac (ao 0) (ac (ao 1) (ac (ao 2) (ac (bF (ac (ao 3) (ac (ao 4) ad))) ad))))))
   (ae (c_ (ao 0) (ao 3) rfl)
   (ai (c_ (ao 0) (ao 4) rfl)))),?_⟩
  walk_at "wp";refine⟨ay ⋯,λl k=>?_⟩;have m1:aD H (aE H l (.lst [V.str (tx g),V.str (tx d)])):=ar k;have p:aE H l (.lst [V.str (tx g),V.str (tx d)]) l=some (.lst (aq [g,d])):=ag;generalize aE H l (.lst [V.str (tx g),V.str (tx d)])=H1 at m1 p ⊢;have j:l≠a:=λe=>by rw[e,v]at k;cases k
  refine⟨a,C,b,l,n,c,[g,d],rfl,m1 _ _ v,q,I,G,D,p,by simp,λr hr=>?_,ok,λH2 i=>?_⟩
  ·have L:r=n\/r=g\/r=d:=by simpa using hr
   rcases L with rfl | rfl | rfl
   ·exact J
   ·exact o
   ·exact m
  ·have u:bj a H (aE H2 a (.ins C b [("name",.str (tx n)),("cost",.int c),("part_names",.ref l)])):=(bj.of (m1.trans i)).put
   have y:aE H2 a (.ins C b [("name",.str (tx n)),("cost",.int c),("part_names",.ref l)]) a=some (.ins C b [("name",.str (tx n)),("cost",.int c),("part_names",.ref l)]):=ag;have x:aE H2 a (.ins C b [("name",.str (tx n)),("cost",.int c),("part_names",.ref l)]) l=some (.lst (aq [g,d])):=by rw[av j];exact i _ _ p
   generalize aE H2 a (.ins C b [("name",.str (tx n)),("cost",.int c),("part_names",.ref l)])=H3 at u y x ⊢
   try dsimp only
   refine⟨C,b,_,y,q,B,by simp,C,b,_,ag,q,z,?_,?_⟩
   ·exact KC (di _ _ _) (by simp)
   ·rw[kD,uw]
    exact good l _ u.put k (by rw[av j];exact x) ag
abbrev fk:Stmt:=je 38 0
theorem p7:aH ["self","name","cost","one","other"] ["self","name","cost","one","other"] (aw fk):=by walk_at "c"
theorem pW{f:Addr}{fd:K1}(F:dw K "__init__" "AboveRule.__init__" fk f fd)(nb:NB mg)
  (zfa:yF P w K mg base bD 3 "Rule" "__init__" ["self","name","cost","part_names"] (dr K)):bw P w K mg base bD 4 f fd ["self","name","cost","one","other"] (dt K):=by
 have sc:=p7;walk_at "f"
 ·obtain⟨a,C,b,n,g,d,c,rfl,v,q,⟨I,G,D,B,z⟩,J,o,m,ok,good⟩:=h
  refine⟨_,(ae (bi (m6 zfa (hr.mono (by decide)) rfl aK (ac (ao 0) (ac (ao 1) (ac (ao 2) (ac (bF (ac (ao 3) (ac (ao 4) ad))) ad))))))
   (ae (c_ (ao 0) (ao 3) rfl)
   (ai (c_ (ao 0) (ao 4) rfl)))),?_⟩
  walk_at "wp";refine⟨ay ⋯,λl k=>?_⟩;have m1:aD H (aE H l (.lst [V.str (tx g),V.str (tx d)])):=ar k;have p:aE H l (.lst [V.str (tx g),V.str (tx d)]) l=some (.lst (aq [g,d])):=ag;generalize aE H l (.lst [V.str (tx g),V.str (tx d)])=H1 at m1 p ⊢;have j:l≠a:=λe=>by rw[e,v]at k;cases k
  refine⟨a,C,b,l,n,c,[g,d],rfl,m1 _ _ v,q,I,G,D,p,by simp,λr hr=>?_,ok,λH2 i=>?_⟩
  ·have L:r=n\/r=g\/r=d:=by simpa using hr
   rcases L with rfl | rfl | rfl
   ·exact J
   ·exact o
   ·exact m
  ·have u:bj a H (aE H2 a (.ins C b [("name",.str (tx n)),("cost",.int c),("part_names",.ref l)])):=(bj.of (m1.trans i)).put
   have y:aE H2 a (.ins C b [("name",.str (tx n)),("cost",.int c),("part_names",.ref l)]) a=some (.ins C b [("name",.str (tx n)),("cost",.int c),("part_names",.ref l)]):=ag;have x:aE H2 a (.ins C b [("name",.str (tx n)),("cost",.int c),("part_names",.ref l)]) l=some (.lst (aq [g,d])):=by rw[av j];exact i _ _ p
   generalize aE H2 a (.ins C b [("name",.str (tx n)),("cost",.int c),("part_names",.ref l)])=H3 at u y x ⊢
   try dsimp only
   refine⟨C,b,_,y,q,B,by simp,C,b,_,ag,q,z,?_,?_⟩
   ·exact KC (di _ _ _) (by simp)
   ·rw[kD,uw]
    exact good l _ u.put k (by rw[av j];exact x) ag
inductive h_(K:W.Frag)(vs:List V)(H:Hp)(Q:VK)(_E:XK):Prop
 |mk (a C dx:Addr) (n o1:KU) (c t:Int) (_:vs=[.ref a,.str (tx n),.int c,.str (tx o1),.int t]) (_:H a=some (.ins C dx [])) (_:jx K C) (_:(aI K C "name"/\aI K C "cost"/\aI K C "part_names"/\aI K C "part"/\aI K C "turning")) (_:n.length<=100000) (_:o1.length<=100000) (_:(jF n [o1] c/\0<=t/\t<=7)) (_:∀(l:Addr) (H':Hp),bj a H H'->H l=none->H' l=some (.lst (aq [o1]))->H' a=some (.ins C dx [("name",.str (tx n)),("cost",.int c),("part_names",.ref l),("part",.str (tx o1)),("turning",.int t)])->Q .non H')
theorem AI{n o1:KU}{c t:Int}{l:Addr}:cO "turning" (V.int t) (cO "part" (V.str (tx o1)) [(("name":Str),V.str (tx n)),(("cost":Str),V.int c),(("part_names":Str),V.ref l)])=[(("name":Str),V.str (tx n)),(("cost":Str),V.int c),(("part_names":Str),V.ref l),(("part":Str),V.str (tx o1)),(("turning":Str),V.int t)]:=by
 have j:¬ (("name":Str)="part"):=by decide +kernel
 have i:¬ (("cost":Str)="part"):=by decide +kernel
 have g:¬ (("part_names":Str)="part"):=by decide +kernel
 have e:¬ (("name":Str)="turning"):=by decide +kernel
 have d:¬ (("cost":Str)="turning"):=by decide +kernel
 have b:¬ (("part_names":Str)="turning"):=by decide +kernel
 have a:¬ (("part":Str)="turning"):=by decide +kernel
 simp only[cO,q06 j,q06 i,q06 g,q06 e,q06 d,q06 b,q06 a]
abbrev fZ:Stmt:=je 39 0
theorem sW:aH ["self","name","cost","part","turning"] ["self","name","cost","part","turning"] (aw fZ):=by walk_at "c"
theorem rj{f:Addr}{fd:K1}(F:dw K "__init__" "TurnRule.__init__" fZ f fd)(nb:NB mg)
  (zfa:yF P w K mg base bD 3 "Rule" "__init__" ["self","name","cost","part_names"] (dr K)):bw P w K mg base bD 4 f fd ["self","name","cost","part","turning"] (h_ K):=by
 have sc:=sW;walk_at "f"
 ·obtain⟨a,C,b,n,d,c,t,rfl,q,o,⟨D,B,z,y,x⟩,G,k,⟨ok,t0,t7⟩,good⟩:=h
  refine⟨_,(ae (bi (m6 zfa (hr.mono (by decide)) rfl aK (ac (ao 0) (ac (ao 1) (ac (ao 2) (ac (bF (ac (ao 3) ad)) ad))))))
   (ae (bT (PW.pt (lV (aT (bd.m0 nr) (ao 4) af (bf _)) (jA (aT (bd.m0 ol) (ao 4) af (bf _)))))
   (ai fC)
   bh)
   (ae (c_ (ao 0) (ao 3) rfl)
   (ai (c_ (ao 0) (ao 4) rfl))))),?_⟩
  walk_at "wp";refine⟨ay ⋯,λl j=>?_⟩;have m1:aD H (aE H l (.lst [V.str (tx d)])):=ar j;have m:aE H l (.lst [V.str (tx d)]) l=some (.lst (aq [d])):=ag;generalize aE H l (.lst [V.str (tx d)])=H1 at m1 m ⊢;have i:l≠a:=λe=>by rw[e,q]at j;cases j
  refine⟨a,C,b,l,n,c,[d],rfl,m1 _ _ q,o,D,B,z,m,by simp,λr hr=>?_,ok,λH2 g=>?_⟩
  ·have I:r=n\/r=d:=by simpa using hr
   rcases I with rfl | rfl
   ·exact G
   ·exact k
  ·have p:bj a H (aE H2 a (.ins C b [("name",.str (tx n)),("cost",.int c),("part_names",.ref l)])):=(bj.of (m1.trans g)).put
   have v:aE H2 a (.ins C b [("name",.str (tx n)),("cost",.int c),("part_names",.ref l)]) a=some (.ins C b [("name",.str (tx n)),("cost",.int c),("part_names",.ref l)]):=ag;have u:aE H2 a (.ins C b [("name",.str (tx n)),("cost",.int c),("part_names",.ref l)]) l=some (.lst (aq [d])):=by rw[av i];exact g _ _ m
   generalize aE H2 a (.ins C b [("name",.str (tx n)),("cost",.int c),("part_names",.ref l)])=H3 at p v u ⊢
   try dsimp only
   rw[q06 ⋯,q06 ⋯];refine⟨C,b,_,v,o,y,by simp,C,b,_,ag,o,x,?_,?_⟩
   ·exact KC (di _ _ _) (by simp)
   ·rw[kD,AI]
    exact good l _ p.put j (by rw[av i];exact u) ag
abbrev fm:Stmt:=je 35 1
inductive cN(K:W.Frag)(vs:List V)(H:Hp)(Q:VK)(_E:XK):Prop
 |mk (a C dx l:Addr) (fs:List (Str×V)) (ps:aL) (_:vs=[.ref a]) (_:H a=some (.ins C dx fs)) (_:jx K C) (_:aI K C "part_names") (_:fs.lookup ("part_names":Str)=some (V.ref l)) (_:H l=some (.lst (aq ps))) (_:gG H ps Q)
theorem p9:aH ["self"] ["self"] (aw fm):=by walk_at "c"
theorem eJ{f:Addr}{fd:K1}(F:dw K "parts" "Rule.parts" fm f fd)(nb:NB mg):bw P w K mg base bD 1 f fd ["self"] (cN K):=by
 have sc:=p9;walk_at "f"
 ·obtain⟨a,C,j,l,fs,ps,rfl,i,k,c,d,g,q⟩:=h
  refine⟨_,(ai (aO (cG bY rfl nb.list du (ac (cH (ao 0) rfl) ad)))),?_⟩;walk_at "wp";refine⟨C,j,fs,i,k,c,V.ref l,d,l,rfl,_,.inl (aM.of g),λe b=>q e _ b ag (ar b)⟩
abbrev FG(n:KU)(c:Int)(l:Addr)(sg:KU):List (Str×V):=[("name",.str (tx n)),("cost",.int c),("part_names",.ref l),("sign",.str (tx sg))]
abbrev D1(n:KU)(c:Int)(l:Addr)(o1 o2:KU):List (Str×V):=[("name",.str (tx n)),("cost",.int c),("part_names",.ref l),("one",.str (tx o1)),("other",.str (tx o2))]
abbrev DE(n:KU)(c:Int)(l:Addr)(o1:KU)(t:Int):List (Str×V):=[("name",.str (tx n)),("cost",.int c),("part_names",.ref l),("part",.str (tx o1)),("turning",.int t)]
theorem i7{r:KU}(h:dh r=true):1<=r.length/\r.length<=4:=by
 unfold dh at h;rw[q0O,q0O,q0b,q0b]at h;exact h.1
theorem yW{r:KU}(h:jq r=true):r.length=1:=by
 unfold jq at h;rw[q0O,q0b]at h;exact h.1
theorem am{a b:TS}{D:gu}{σ:St}{H:Hp}(h:∀N:St->Hp->Prop,(∀σ2 H2,b D σ2 H2->N σ2 H2)->a {D with nx:=N} σ H):zA a b D σ H:=h (b D) λ_ _ z=>z
abbrev kK:Stmt:=fU 57
inductive oF(vs:List V)(H:Hp)(Q:VK)(_E:XK):Prop
 |mk (i:Int) (_:vs=[.int i]) (_:Q (.bl true) H)
theorem wy:aH ["_law_x"] ["_law_x"] (aw kK):=by walk_at "c"
theorem wO{f:Addr}{fd:K1}(F:dw K "_law_whole" "_law_whole" kK f fd)(nb:NB mg):bw P w K mg base bD 1 f fd ["_law_x"] oF:=by
 have sc:=wy;walk_at "f"
 ·obtain⟨i,rfl,q⟩:=h
  refine⟨_,(ai (aO (rS (az b7 rfl nb.isinstance cn (ac (ao 0) (ac (i_ (v:=.ty "int") rfl nb.int Er rfl) ad))) (wW (Eg (az b7 rfl nb.isinstance cn (ac (ao 0) (ac (i_ (v:=.ty "bool") rfl nb.bool Du rfl) ad)))))))),?_⟩;walk_at "wp";refine⟨_,jd.int i,_,iH K _,?_⟩;walk_at "wp";refine⟨_,jd.int i,_,sv K,?_⟩;exact q
structure RV where
 n:List Nat
 c:Int
 o1:List Nat
 o2:List Nat
 sg:List Nat
 t:Int
abbrev Yaa:=List (Nat×RV)
structure RC where
 rr:Addr
 cc:Addr
 cb:Addr
 ca:Addr
 ct:Addr
def RC.at(R:RC)(k:Nat):Addr:=match k with | 0=>R.cc | 1=>R.cb | 2=>R.ca | _=>R.ct
def rE(k:Nat)(l:Addr)(v:RV):List (Str×V):=match k with | 0=>FG v.n v.c l v.sg | 1=>D1 v.n v.c l v.o1 v.o2 | 2=>D1 v.n v.c l v.o1 v.o2 | _=>DE v.n v.c l v.o1 v.t
def cC(k:Nat)(v:RV):aL:=match k with | 0=>[] | 1=>[v.o1,v.o2] | 2=>[v.o1,v.o2] | _=>[v.o1]
def Jx(k:Nat)(v:RV):Prop:=match k with | 0=>jF v.n [] v.c/\jq v.sg=true | 1=>jF v.n [v.o1,v.o2] v.c | 2=>jF v.n [v.o1,v.o2] v.c | _=>jF v.n [v.o1] v.c/\0<=v.t/\v.t<=7
structure RV.small(v:RV):Prop where
 n:v.n.length<=1000
 o1:v.o1.length<=1000
 o2:v.o2.length<=1000
 sg:v.sg.length<=1000
structure RV.good(v:RV):Prop where
 n:dh v.n=true
 c1:1<=v.c
 c9:v.c<=9
 o1:dh v.o1=true
 o2:dh v.o2=true
 sg:jq v.sg=true
 t0:0<=v.t
 t7:v.t<=7
theorem RV.good.small{v:RV}(g:v.good):v.small:=⟨by have:=i7 g.n;omega,by have:=i7 g.o1;omega,by have:=i7 g.o2;omega,by have:=yW g.sg;omega⟩
theorem RV.good.ok{v:RV}(g:v.good):∀k,Jx k v
 |0=>⟨⟨λr hr=>by rw[show r=v.n by simpa using hr];exact g.n,g.c1,g.c9⟩,g.sg⟩
 |1=>⟨λr hr=>by rcases(show r=v.n\/r=v.o1\/r=v.o2 by simpa using hr) with rfl | rfl | rfl<;>first | exact g.n | exact g.o1 | exact g.o2,g.c1,g.c9⟩
 |2=>⟨λr hr=>by rcases(show r=v.n\/r=v.o1\/r=v.o2 by simpa using hr) with rfl | rfl | rfl<;>first | exact g.n | exact g.o1 | exact g.o2,g.c1,g.c9⟩
 |_+3=>⟨⟨λr hr=>by rcases(show r=v.n\/r=v.o1 by simpa using hr) with rfl | rfl<;>first | exact g.n | exact g.o1,g.c1,g.c9⟩,g.t0,g.t7⟩
def gx(R:RC)(H:Hp)(k:Nat)(a:Addr)(v:RV):Prop:=∃dx l,H a=some (.ins (R.at k) dx (rE k l v))/\H l=some (.lst (aq (cC k v)))
theorem gx.up{R:RC}{H H':Hp}{k:Nat}{a:Addr}{v:RV}(r:gx R H k a v)(s:aD H H'):gx R H' k a v:=by
 obtain⟨b,l,h1,h2⟩:=r;exact⟨b,l,s _ _ h1,s _ _ h2⟩
structure lC(K:W.Frag)(R:RC):Prop where
 i0:jl K R.cc
 i1:jl K R.cb
 i2:jl K R.ca
 i3:jl K R.ct
 a0:aI K R.cc "name"/\aI K R.cc "cost"/\aI K R.cc "part_names"/\aI K R.cc "sign"
 a1:aI K R.cb "name"/\aI K R.cb "cost"/\aI K R.cb "part_names"/\aI K R.cb "one"/\aI K R.cb "other"
 a2:aI K R.ca "name"/\aI K R.ca "cost"/\aI K R.ca "part_names"/\aI K R.ca "one"/\aI K R.ca "other"
 a3:aI K R.ct "name"/\aI K R.ct "cost"/\aI K R.ct "part_names"/\aI K R.ct "part"/\aI K R.ct "turning"
 r0:W.kitOne K (.ref R.cc) (.ref R.rr)=some true
 r1:W.kitOne K (.ref R.cb) (.ref R.rr)=some true
 r2:W.kitOne K (.ref R.ca) (.ref R.rr)=some true
 r3:W.kitOne K (.ref R.ct) (.ref R.rr)=some true
 s0:W.kitOne K (.ref R.cc) (.ref R.cc)=some true
 s1:W.kitOne K (.ref R.cb) (.ref R.cb)=some true
 s2:W.kitOne K (.ref R.ca) (.ref R.ca)=some true
 s3:W.kitOne K (.ref R.ct) (.ref R.ct)=some true
theorem lC.icls{R:RC}(rk:lC K R):∀k,jl K (R.at k)
 |0=>rk.i0
 |1=>rk.i1
 |2=>rk.i2
 |_+3=>rk.i3
theorem lC.name{R:RC}(rk:lC K R):∀k,aI K (R.at k) "name"/\aI K (R.at k) "cost"/\aI K (R.at k) "part_names"
 |0=>⟨rk.a0.1,rk.a0.2.1,rk.a0.2.2.1⟩
 |1=>⟨rk.a1.1,rk.a1.2.1,rk.a1.2.2.1⟩
 |2=>⟨rk.a2.1,rk.a2.2.1,rk.a2.2.2.1⟩
 |_+3=>⟨rk.a3.1,rk.a3.2.1,rk.a3.2.2.1⟩
theorem iX(l:Addr)(v:RV):∀k,(rE k l v).lookup ("name":Str)=some (V.str (tx v.n))/\(rE k l v).lookup ("cost":Str)=some (V.int v.c)/\(rE k l v).lookup ("part_names":Str)=some (V.ref l)/\(rE k l v).lookup ("parts":Str)=none/\(rE k l v).lookup ("told":Str)=none
 |0=>⟨rfl,rfl,rfl,rfl,rfl⟩
 |1=>⟨rfl,rfl,rfl,rfl,rfl⟩
 |2=>⟨rfl,rfl,rfl,rfl,rfl⟩
 |_+3=>⟨rfl,rfl,rfl,rfl,rfl⟩
theorem i4{H1 H2:Hp}{x dx:Addr}{o o':HO}(hx:H1 x=none)(hd:H1 dx=none)(s:bj x (aE (aE H1 dx o) x o') H2):aD H1 H2:=
 λb u e=>s b u (aJ e hx) (by rw[av (aJ e hx),av (aJ e hd)];exact e)
theorem DT{CX:j0}{k:Nat}{m:Str}{C0 C1 C2 C3:Addr}{s0 s1 s2 s3:Sp}(h0:∃ps,ji P w K mg base CX k C0 m ps s0)(h1:∃ps,ji P w K mg base CX k C1 m ps s1)(h2:∃ps,ji P w K mg base CX k C2 m ps s2)(h3:∃ps,ji P w K mg base CX k C3 m ps s3) :
  vC P w K mg base CX k m [(C0,s0),(C1,s1),(C2,s2),(C3,s3)]:=⟨λo ho=>by
 simp only[J_,List.not_mem_nil,or_false]at ho;rcases ho with rfl | rfl | rfl | rfl
 ·exact h0
 ·exact h1
 ·exact h2
 ·exact h3⟩
def oz(K:W.Frag)(R:RC):List (Addr×Sp):=[(R.cc,cN K),(R.cb,cN K),(R.ca,cN K),(R.ct,cN K)]
theorem zG{R:RC}{H:Hp}{k a}{v:RV}{Q:VK}{E:XK}(rk:lC K R)(r:gx R H k a v)(q:gG H (cC k v) Q) :
  ∃o∈oz K R,∃dx fs,H a=some (.ins o.1 dx fs)/\fs.lookup ("parts":Str)=none/\o.2 [.ref a] H Q E:=by
 obtain⟨dx,l,h1,h2⟩:=r;have c:cN K [.ref a] H Q E:=⟨a,R.at k,dx,l,_,_,rfl,h1,(rk.icls k).cl,(rk.name k).2.2,(iX l v k).2.2.1,h2,q⟩;have b:(R.at k,cN K)∈oz K R:=by
  unfold oz
  match k with
  |0=>simp[RC.at]
  |1=>simp[RC.at]
  |2=>simp[RC.at]
  |_+3=>simp[RC.at]
 exact⟨_,b,dx,_,h1,(iX l v k).2.2.2.1,c⟩
abbrev iO:Stmt:=fU 46
abbrev kb:Str:="abcdefghijklmnopqrstuvwxyz"
def il(r:KU):Bool:=decide (1<=r.length)&&decide (r.length<=4)&&jv r kb&&decide ((met (cR (tx r))).length=r.length)
inductive ka(vs:List V)(H:Hp)(Q:VK)(_E:XK):Prop
 |mk (r:KU) (_:vs=[.str (tx r)]) (_:r.length<=1000) (_:∀H',aD H H'->Q (.bl (il r)) H')
theorem sK:aH ["text"] ["text"] (aw iO):=by walk_at "c"
theorem rD{f:Addr}{fd:K1}{t1 t2:Tok}(F:dw K "are_signs" "are_signs" iO f fd)(nb:NB mg)(yaT:mg "MOST_SIGNS"=some (.int 4 t1))(yaj:mg "SMALLS"=some (.str "abcdefghijklmnopqrstuvwxyz" t2))(yad:dF P w K mg base bD 1 "only_of" ["text","letters"] g7):bw P w K mg base bD 2 f fd ["text"] ka:=by
 have sc:=sK;walk_at "f"
 ·obtain⟨r,rfl,hr',q⟩:=h
  refine⟨_,(ai (aO (rS (uh (bd.m0 qp) (bd.m0 qp) af (az aW rfl nb.len aS (ac (ao 0) ad)) (dq (v:=.int 4) rfl yaT ⟨_,rfl⟩)) (rS (q00 yad hr (ac (ao 0) (ac (dq (v:=.str "abcdefghijklmnopqrstuvwxyz") rfl yaj ⟨_,rfl⟩) ad))) (wW (rG dQ (yI rfl (ao 0) rfl nb.len rfl nb.set) (az aW rfl nb.len aS (ac (ao 0) ad)) (bf _))))))),?_⟩;walk_at "wp";refine⟨by rw[ax];exact ay ⋯,?_⟩;rw[ax];unfold il at q
  by_cases h1:1<=r.length
  ·rw[q07 ⋯]
   by_cases h2:r.length<=4
   ·rw[q07 ⋯]
    refine⟨r,_,rfl,⋯,λb sm=>⟨_,rfl,?_⟩⟩;have z:=q b sm;rw[q09 h1,q09 h2]at z;cases a:jv r kb with
    |false=>
     rw[a]at z;rw[q06 (by simp)];exact z
    |true=>
     rw[a]at z;rw[q07 rfl];refine⟨by rw[GY];unfold scanBound;omega,by exact ay ⋯,?_⟩;have e:decide (((met (cR (tx r))).length:Int)=(r.length:Int))=decide ((met (cR (tx r))).length=r.length):=by
      apply decide_eq_decide.mpr
      constructor<;>intro h<;>omega
     rw[e];exact z
   ·rw[q06 ⋯]
    have z:=q H (λ_ _ e=>e);rw[q09 h1,q08 h2]at z;exact z
  ·rw[q06 ⋯]
   have z:=q H (λ_ _ e=>e);rw[q08 h1]at z;exact z
theorem BK{α:Type}{l:List α}{i:Nat}{x:α}(h:l[i]?=some x):l.drop i=x::l.drop (i+1):=by
 obtain⟨a,e⟩:=JU.mp h;rw[q0T a,e]
structure BG(K:W.Frag)(R:RC):Prop where
 kit:∀i j,i<4->j<4->W.kitOne K (.ref (R.at i)) (.ref (R.at j))=some (decide (i=j))
abbrev Fm(z x:Str):Bool:=!(Builtin.Str.occurrences z x 0 z.length 1).isEmpty
def ge(sg:Str):Yaa->Nat->Option Nat
 | [],_=>none
 |r::rs,j=>if r.1=0/\Fm sg (tx r.2.sg)=false then some j else ge sg rs (j+1)
def hX(sg st:KU)(rs:Yaa):Option (Str×List Int):=
 if il sg=false then some ("signs",[]) else if dh st=false then some ("start",[]) else if 24<rs.length then some ("rules",[(rs.length:Int)]) else
  match ge (tx sg) rs 0 with
  |some k=>some ("sign",[(k:Int)])
  |none=>none
abbrev eU:Stmt:=fU 45
def bL(R:RC)(H:Hp)(as:KZ)(rs:Yaa):Prop:=as.length=rs.length/\∀(i:Nat) a r,as[i]?=some a->rs[i]?=some r->gx R H r.1 a r.2
theorem bL.up{R:RC}{H H':Hp}{as:KZ}{rs:Yaa}(h:bL R H as rs)(s:aD H H'):bL R H' as rs:=⟨h.1,λi a r e1 e2=>(h.2 i a r e1 e2).up s⟩
inductive gP(R:RC)(vs:List V)(H:Hp)(Q:VK)(_E:XK):Prop
 |mk (sg st:KU) (a:Addr) (as:KZ) (rs:Yaa) (_:vs=[.str (tx sg),.str (tx st),.ref a]) (_:sg.length<=1000) (_:st.length<=1000) (_:H a=some (.lst (as.map V.ref))) (_:bL R H as rs) (_:(∀r∈rs,r.1<4)) (_:rs.length<=100) (_:hX sg st rs=none) (_:∀H',aD H H'->Q .non H')
theorem lQ:aH ["signs","start","rules","k","rule"] ["signs","start","rules"] (aw eU):=by walk_at "c"
theorem kN{R:RC}{f:Addr}{fd:K1}{t1:Tok}(F:dw K "check_made_of" "check_made_of" eU f fd)(nb:NB mg)(rk:lC K R)(rk4:BG K R)(yaO:mg "MOST_RULES"=some (.int 24 t1))(zRa:mg "CellRule"=some (.ref R.cc))
  (yaq:dF P w K mg base bD 2 "are_signs" ["text"] ka) (yah:dF P w K mg base bD 2 "is_name" ["text"] jY):bw P w K mg base bD 3 f fd ["signs","start","rules"] (gP R):=by
 have sc:=lQ;walk_at "f"
 ·obtain⟨sg,G,a,J,g,rfl,S,hst,ha,q,Y,hn,c,good⟩:=h
  refine⟨_,(ae (bT (eX (fc (q00 yaq hr (ac (ao 0) ad)) λ_=>rfl))
   (ai fC)
   bh)
   (ae (bT (eX (fc (q00 yah hr (ac (ao 1) ad)) λ_=>rfl))
   (ai fC)
   bh)
   (ae (bT (aT (bd.m0 ol) (az aQ rfl nb.len aS (ac (ao 2) ad)) (dq (v:=.int 24) rfl yaO ⟨_,rfl⟩) (bf _))
   (ai fC)
   bh)
   (ai (aY PassesOwn.never rfl (mT rfl nb.enumerate (ac (ao 2) ad)) (ic (n:=2) rfl (bp (q02 3 sc.nd) (bp (q02 4 sc.nd) dB)))
   (ai (bT (PW.pt (fM (fc (az b7 rfl nb.isinstance cn (ac (ao 4) (ac (dq (v:=.ref _) rfl zRa rfl) ad))) λ_=>rfl) (eC (aT rQ (cH (ao 4) rfl) (ao 0) (by with_unfolding_all rfl)))))
   (ai fC)
   bh))))))),?_⟩
  walk_at "n";refine⟨sg,rfl,S,λH1 O=>⟨_,rfl,?_⟩⟩;unfold hX at c;have e1:il sg=true:=by
   cases e:il sg with
   |true=>rfl
   |false=>rw[q07 e]at c;cases c
  rw[q06 (by rw[e1];decide)]at c ⊢;refine h1 _ _ ?_;clear h1;walk_at "o";refine⟨G,rfl,⋯,λH2 M=>⟨_,rfl,?_⟩⟩;have l:=O.trans M;have e2:dh G=true:=by
   cases e:dh G with
   |true=>rfl
   |false=>rw[q07 e]at c;cases c
  rw[q06 (by rw[e2];decide)]at c ⊢;refine h2 _ _ ?_;clear h2;have D:=l _ _ ha;have C:(J.map V.ref).length=g.length:=by rw[JW];exact q.1
  refine am λN3 h3=>?_;walk_at "wp";refine⟨_,aM.of D,?_⟩;rw[C];have a1:¬ 24<g.length:=λh=>by rw[q07 h]at c;cases c
  rw[q06 ⋯];rw[q06 a1]at c;refine h3 _ _ ?_;clear h3;walk_at "wp";refine⟨_,aM.of D,?_⟩;refine lI (xs:=J.map V.ref) (λi σ L=>aD H L/\ge (tx sg) (g.drop i) i=ge (tx sg) g 0/\∃x y,σ=[some (.str (tx sg)),some (.str (tx G)),some (.ref a),x,y]) ⟨l,rfl,_,_,rfl⟩ ?_ ?_ ?_
  ·rintro i σ L _ ⟨sm,_⟩
   exact aM.of (sm _ _ ha)
  ·rintro i x σ H3 T p ⟨sm,Z,x1,y1,rfl⟩ hT
   have B:i<g.length:=by have:=(JU.mp p).1;rw[C]at this;exact this
   obtain⟨d,U,rfl⟩:∃d,J[i]?=some d/\V.ref d=x:=by
    rw[JY]at p;cases e:J[i]? with
    |none=>rw[e]at p;cases p
    |some d=>rw[e]at p;exact⟨d,rfl,q0S p⟩
   have o:g[i]?=some g[i]:=JT B;have u:=Y _ (J3 B);generalize g[i]=r at o u;rw[BK o]at Z;have j:aD H (aE H3 T (.tup [V.int (i:Int),V.ref d])):=sm.trans (ar hT);have eT:aE H3 T (.tup [V.int (i:Int),V.ref d]) T=some (.tup [V.int (i:Int),V.ref d]):=ag;generalize aE H3 T (.tup [V.int (i:Int),V.ref d])=H4 at j eT ⊢;have rr:=(q.2 i d r U o).up j;obtain⟨dx,pl,m,_⟩:=id rr;walk_at "wp";refine⟨_,dZ.of eT,rfl,_,_,rfl,_,_,rfl,rfl,?_⟩;refine⟨_,(rk.icls r.1).ty m,_,rk4.kit r.1 0 u (by decide),?_⟩;have b:(if r.1=0/\Fm (tx sg) (tx r.2.sg)=false then some i else ge (tx sg) (g.drop (i+1)) (i+1))=ge (tx sg) g 0:=Z
   by_cases I:r.1=0
   ·rw[q07 (by simp[I])]
    obtain⟨r0,v⟩:=r;have a2:r0=0:=I;subst a2;refine⟨d,rfl,_,_,_,m,rk.i0.cl,rk.a0.2.2.2,_,rfl,_,rfl,?_⟩;have k:Fm (tx sg) (tx v.sg)=true:=by
     cases k:Fm (tx sg) (tx v.sg) with
     |true=>rfl
     |false=>
      rw[q07 ⟨rfl,k⟩]at b;rw[<- b]at c;cases c
    rw[q06 (by rw[show(!(Builtin.Str.occurrences (tx sg) (tx v.sg) 0 (tx sg).length 1).isEmpty)=true from k];decide)];rw[q06 (λz=>by rw[k]at z;exact q0Q z.2 (by decide))]at b;exact⟨j,b⟩
   ·rw[q06 (by simp[I])]
    rw[q06 (λz=>I z.1)]at b;exact⟨j,b⟩
  ·rintro σ L ⟨sm,Z,x,y,rfl⟩
   walk_at "wp";exact good L sm
def iu(m:List (Str×List Nat))(z:Str)(i:Nat):List (Str×List Nat):=m.map λq=>if q.1=z then(q.1,q.2++[i]) else q
structure rO(H0:Hp)(p:Addr)(t:NT)(H:Hp):Prop where
 same:aD H0 H
 at_:dl H p t
 fresh:∀x∈t,H0 x.2.1=none
 nodup:((iY t).map (·.1)).Nodup
theorem n9(t:NT):(iY t).length=t.length:=by unfold iY;rw[JW]
theorem pN(m:List (Str×List Nat))(z:Str):(cB m z).length<=m.length+1:=by
 unfold cB;split
 ·omega
 ·rw[Kf];simp
theorem io(m:List (Str×List Nat))(z:Str)(i:Nat):(iu m z i).map (·.1)=m.map (·.1):=by
 unfold iu;rw[J9]
 apply q0K;intro q _;simp only[Function.comp]
 split<;>rfl
theorem yX{m:List (Str×List Nat)}{j i:Nat}{q:Str×List Nat}(nd:(m.map (·.1)).Nodup)(hj:m[j]?=some q):m.set j (q.1,q.2++[i])=iu m q.1 i:=by
 unfold iu;apply List.ext_getElem?;intro k;rw[JY,List.getElem?_set];have b:j<m.length:=(JU.mp hj).1
 by_cases e:j=k
 ·subst e
  rw[q07 rfl,q07 b,hj];simp
 ·rw[q06 e]
  cases c:m[k]? with
  |none=>rfl
  |some y=>
   have a:y.1≠q.1:=by
    intro h;have h1:(m.map (·.1))[j]?=some q.1:=by rw[JY,hj];rfl
    have h2:(m.map (·.1))[k]?=some q.1:=by rw[JY,c];simp[h]
    exact e ((List.getElem?_inj (JU.mp h1).1 nd).mp (h1.trans h2.symm))
   simp[a]
theorem rO.free{H0 H:Hp}{p:Addr}{t:NT}(N:rO H0 p t H){l:Addr}(h:H l=none):H0 l=none:=N.same.free h
theorem mn{te:TE}{σ:St}{H0 H:Hp}{p:Addr}{t:NT}{z:Str}{i:Nat}{Q:VK}(hp:H0 p=none)(hv:σ[i]?=some (some (.ref p)))(hte:∀R:VK,R (.str z) H->te σ H R)(N:rO H0 p t H)(hn:t.length<sizeLine)
  (h:∀(H':Hp) (t':NT) (j:Nat) (x:Str×Addr×List Nat),rO H0 p t' H'->t'[j]?=some x->x.1=z->iY t'=cB (iY t) z->t'.length<=t.length+1->(∀a o,a≠p->H a=some o->H' a=some o)->Q (.ref x.2.1) H'):vd (BH i) te (CM k9) σ H Q:=by
 refine⟨.ref p,hv,p,rfl,.inl ⟨_,.inl N.at_.dict⟩,hte _ ⟨Kh _,λl k=>?_⟩⟩;have g:=N.free k;refine N.at_.setdef k hn λH' t' j x v u r d n m=>h H' t' j x ⟨λb o e=>m b o (λq=>by rw[q,hp]at e;exact nomatch e) (N.same b o e),v,λy c=>?_,?_⟩ u r d ?_ m
 ·rcases n y c with q | q
  ·exact N.fresh y q
  ·rw[q];exact g
 ·rw[d];exact ku N.nodup
 ·have:=pN (iY t) z
  rw[<- d,n9,n9]at this;exact this
theorem rO.put{H0 H:Hp}{p:Addr}{t:NT}{j k:Nat}{x:Str×Addr×List Nat}(N:rO H0 p t H)(hj:t[j]?=some x) :
  rO H0 p (t.set j (x.1,x.2.1,x.2.2++[k])) (aE H x.2.1 (.lst (xi (x.2.2++[k]))))/\iY (t.set j (x.1,x.2.1,x.2.2++[k]))=iu (iY t) x.1 k:=by
 have a:=JZ hj;have e:iY (t.set j (x.1,x.2.1,x.2.2++[k]))=iu (iY t) x.1 k:=by
  rw[Cf];exact yX (q:=(x.1,x.2.2)) N.nodup (by unfold iY;rw[JY,hj];rfl)
 refine⟨⟨bE N.same (N.fresh x a),N.at_.put hj,λy b=>?_,?_⟩,e⟩
 ·rcases List.mem_or_eq_of_mem_set b with q | q
  ·exact N.fresh y q
  ·rw[q];exact N.fresh x a
 ·rw[e,io];exact N.nodup
abbrev dW:Stmt:=fU 47
theorem jK:aH ["start","rules","numbers","k","rule","part"] ["start","rules"] (aw dW):=by walk_at "c"
def d_(m:List (Str×List Nat))(i:Nat)(r:Nat×RV):List (Str×List Nat):=((cC r.1 r.2).map tx).foldl cB (iu (cB m (tx r.2.n)) (tx r.2.n) i)
def fN:Nat->Yaa->List (Str×List Nat)->List (Str×List Nat)
 |_,[],m=>m
 |i,r::rs,m=>fN (i+1) rs (d_ m i r)
theorem jV{m:List (Str×List Nat)}{z:Str}{n:Nat}(h:∀q∈m,q.2.length<=n):∀q∈cB m z,q.2.length<=n:=by
 unfold cB;split
 ·exact h
 ·intro q a
  rcases J8.mp a with z1 | z1
  ·exact h q z1
  ·rw[JX.mp z1];exact Kh _
theorem mh:∀{zs:K3} {m:List (Str×List Nat)} {n:Nat},(∀q∈m,q.2.length<=n)->∀q∈zs.foldl cB m,q.2.length<=n
 | [],_,_,h=>h
 |z::zs,_,_,h=>mh (zs:=zs) (jV h)
theorem uf{m:List (Str×List Nat)}{i n:Nat}{r:Nat×RV}(h:∀q∈m,q.2.length<=n):∀q∈d_ m i r,q.2.length<=n+1:=by
 unfold d_;refine mh λq b=>?_;unfold iu at b;obtain⟨c,a,rfl⟩:=KF.mp b;have:=jV h c a
 split
 ·rw[Kf];simp;exact this
 ·omega
theorem pE:∀{rs:Yaa} {i n:Nat} {m:List (Str×List Nat)},(∀q∈m,q.2.length<=n)->∀q∈fN i rs m,q.2.length<=n+rs.length
 | [],_,_,_,h=>h
 |r::rs,i,n,m,h=>λq hq=>by
  have:=pE (rs:=rs) (i:=i+1) (uf (i:=i) (r:=r) h) q hq;rw[J6];omega
theorem fV:∀{rs:Yaa} {i:Nat} {m:List (Str×List Nat)} {r:Nat×RV},fN i (rs++[r]) m=d_ (fN i rs m) (i+rs.length) r
 | [],i,m,r=>rfl
 |r0::rs,i,m,r=>by
  show fN (i+1) (rs++[r]) (d_ m i r0)=d_ (fN (i+1) rs (d_ m i r0)) (i+(rs.length+1)) r;rw[fV,show i+1+rs.length=i+(rs.length+1) by omega]
theorem wT(k:Nat)(v:RV):(cC k v).length<=2:=by
 match k with
 |0=>simp[cC]
 |1=>simp[cC]
 |2=>simp[cC]
 |_+3=>simp[cC]
def cq(z:Str)(rs:Yaa):List (Str×List Nat):=fN 0 rs [(z,[])]
inductive fE(K:W.Frag)(R:RC)(vs:List V)(H:Hp)(Q:VK)(_E:XK):Prop
 |mk (z:Str) (a:Addr) (as:KZ) (rs:Yaa) (_:vs=[.str z,.ref a]) (_:H a=some (.lst (as.map V.ref))) (_:bL R H as rs) (_:rs.length<=100) (_:∀p H' t,H p=none->dl H' p t->iY t=cq z rs->(∀x∈t,H x.2.1=none)->aD H H'->Q (.ref p) H')
theorem jG{R:RC}{f:Addr}{fd:K1}(F:dw K "numbers_by_name" "numbers_by_name" dW f fd)(nb:NB mg)(rk:lC K R)(yaA:vC P w K mg base bD 1 "parts" (oz K R)):bw P w K mg base bD 2 f fd ["start","rules"] (fE K R):=by
 have sc:=jK;walk_at "f"
 ·obtain⟨z,a,as,rs,rfl,ha,U,hn,q⟩:=h
  refine⟨_,(ae (q01 2 sc.nd (Dy (Bf (pv 0) (bF ad) CD) rfl rfl (by simp) (by decide)))
   (ae (aY PassesOwn.never rfl (mT rfl nb.enumerate (ac (pv 1) ad)) (ic (n:=2) rfl (bp (q02 3 sc.nd) (bp (q02 4 sc.nd) dB)))
   (ae (bi (q03 (nO (pv 2) (cH (pv 4) rfl) (bF ad) ⟨rfl,rfl,rfl,rfl⟩) (ac (pv 3) ad)))
   (ai (aY PassesOwn.never rfl (bN (A1 yaA (hr.mono (by decide)) aK (pv 4))) (q02 5 sc.nd)
   (ai (bi (nO (pv 2) (pv 5) (bF ad) ⟨rfl,rfl,rfl,rfl⟩)))))))
   (ai (aO (pv 2))))),?_⟩
  walk_at "wp";intro p hp;refine⟨Kh _,λl hl=>?_⟩;have g:l≠p:=λe=>by rw[e,ag]at hl;exact nomatch hl
  have a0:H l=none:=by rw[av g]at hl;exact hl
  have a7:a≠p:=λe=>by rw[e,hp]at ha;exact nomatch ha
  have b3:a≠l:=λe=>by rw[e,a0]at ha;exact nomatch ha
  refine⟨by rw[av (Ne.symm g),ag],[(.inr z,.ref l)],rfl,by simp,as.map V.ref,aM.of (by rw[av a7,av b3,av a7];exact ha),?_⟩;refine lI (xs:=as.map V.ref) (λi σ B=>aD H B/\∃t,dl B p t/\(∀x∈t,H x.2.1=none)/\((iY t).map (·.1)).Nodup/\iY t=fN 0 (rs.take i) [(z,[])]/\t.length<=1+3*i/\∃x y u,σ=[some (.str z),some (.ref a),some (.ref p),x,y,u]) ?_ ?_ ?_ ?_
  ·refine⟨λb o e=>?_,[(z,l,[])],⟨by rw[ag];rfl,λx c=>?_,by simp⟩,λx c=>?_,by simp[iY],rfl,by simp,_,_,_,rfl⟩
   ·have h1:b≠p:=λq=>by rw[q,hp]at e;exact nomatch e
    have h2:b≠l:=λq=>by rw[q,a0]at e;exact nomatch e
    rw[av h1,av h2,av h1];exact e
   ·rw[JX.mp c,av g,ag];rfl
   ·rw[JX.mp c];exact a0
  ·rintro i σ B _ ⟨sm,_⟩
   exact aM.of (sm _ _ ha)
  ·rintro i x σ H1 T c ⟨sm,t,N,fr,nd,em,hlen,x1,y1,u1,rfl⟩ hT
   have a3:i<rs.length:=by have:=(JU.mp c).1;rw[JW,U.1]at this;exact this
   obtain⟨d,b0,rfl⟩:∃d,as[i]?=some d/\V.ref d=x:=by
    rw[JY]at c;cases e:as[i]? with
    |none=>rw[e]at c;cases c
    |some d=>rw[e]at c;exact⟨d,rfl,q0S c⟩
   have Y:rs[i]?=some rs[i]:=JT a3;generalize rs[i]=r at Y;have rr:=U.2 i d r b0 Y;have M:aD H (aE H1 T (.tup [V.int (i:Int),V.ref d])):=sm.trans (ar hT);have gT:∀b o,H1 b=some o->aE H1 T (.tup [V.int (i:Int),V.ref d]) b=some o:=ar hT;have eT:dZ K (aE H1 T (.tup [V.int (i:Int),V.ref d])) T [V.int (i:Int),V.ref d]:=dZ.of ag;have N2:=N.grow gT;generalize aE H1 T (.tup [V.int (i:Int),V.ref d])=H2 at M gT eT N2 ⊢;clear gT N hT sm H1;simp only[AZ,xO,iP,Dk];refine⟨_,_,rfl,eT,rfl,_,_,rfl,_,_,rfl,rfl,?_⟩;refine am λN1 h1=>?_;have a2:=rr.up M;have NI:rO H p t H2:=⟨M,N2,fr,nd⟩;have hz:sizeLine>1000:=aX (by decide);obtain⟨dx,pl,J,_⟩:=id a2;walk_at "wp";refine mn (z:=tx r.2.n) hp rfl (λS hS=>⟨_,rfl,d,_,dx,_,_,rfl,J,(rk.icls r.1).cl,(rk.name r.1).1,(iX pl r.2 r.1).1,hS⟩) NI ⋯ λH3 t3 j x N3 hj c hm a5 hk=>?_;have O:=N3.at_.list x (JZ hj);refine⟨.inl ⟨rfl,_,aM.of O⟩,_,rfl,_,O,?_,h1 _ _ ?_⟩
   ·have h2:(x.1,x.2.2)∈cB (iY t) (tx r.2.n):=by rw[<- hm];exact KF.mpr ⟨x,JZ hj,rfl⟩
    have h3:=jV (pE (rs:=rs.take i) (i:=0) (n:=0) (m:=[(z,[])]) (λq hq=>by rw[JX.mp hq];exact Kh _)) (z:=tx r.2.n) (x.1,x.2.2) (by rw[<- em];exact h2);rw[Kw]at h3;unfold xi;rw[JW];have h4:x.2.2.length<=100:=by simp at h3;omega
    omega
   clear h1;obtain⟨I,C⟩:=N3.put (k:=i) hj;have a4:(t3.set j (x.1,x.2.1,x.2.2++[i])).length<=t.length+1:=by rw[List.length_set];exact a5
   have C:iY (t3.set j (x.1,x.2.1,x.2.2++[i]))=iu (cB (iY t) (tx r.2.n)) (tx r.2.n) i:=by rw[C,hm,c]
   have eI:xi (x.2.2++[i])=xi x.2.2++[V.int (i:Int)]:=by unfold xi;rw[J7];rfl
   rw[eI]at I;generalize t3.set j (x.1,x.2.1,x.2.2++[i])=t4 at I C a4;generalize aE H3 x.2.1 (.lst (xi x.2.2++[V.int (i:Int)]))=H4 at I ⊢;clear hk O hj N3 hm a5 c NI N2 J a2;have a9:=rr.up I.same;have hpk:=wT r.1 r.2;walk_at "wp";refine zG rk a9 λlp H5 g a8 a1=>⟨lp,rfl,⟨_,aM.of a8⟩,?_⟩;have b1:lp≠p:=λe=>by rw[e,I.at_.dict]at g;exact nomatch g
   refine b5 (xs:=aq (cC r.1 r.2)) (λn σ B=>n<=(cC r.1 r.2).length/\∃L,rO H p L B/\iY L=(((cC r.1 r.2).take n).map tx).foldl cB (iu (cB (iY t) (tx r.2.n)) (tx r.2.n) i)/\L.length<=t.length+1+n/\B lp=some (.lst (aq (cC r.1 r.2)))/\∃u,σ=[some (.str z),some (.ref a),some (.ref p),some (.int (i:Int)),some (.ref d),u])
    ⟨Kh _,t4,⟨I.same.trans a1,I.at_.grow a1,I.fresh,I.nodup⟩,C,a4,a8,_,rfl⟩ ?_ ?_ ?_
   ·rintro n σ B _ ⟨_,L,_,_,_,G,_⟩
    exact aM.of G
   ·rintro n v σ B hv ⟨hn1,L,N',D,a6,G,u,rfl⟩
    have Z:n<(cC r.1 r.2).length:=by have:=(JU.mp hv).1;rwa [aj]at this
    rw[bc Z]at hv;cases hv;walk_at "wp";refine mn (z:=tx (cC r.1 r.2)[n]) hp rfl (λS hS=>⟨_,rfl,hS⟩) N' ⋯ λH6 t6 j x N6 hj c b2 hl6 hk=>?_;refine⟨Z,t6,N6,?_,⋯,hk _ _ b1 G⟩;rw[b2,D,q0E,JT Z,J7,List.foldl_append]
    rfl
   ·rintro σ B ⟨_,L,N',D,a6,G,u,rfl⟩
    rw[aj,Kv]at D;refine⟨N'.same,L,N'.at_,N'.fresh,N'.nodup,?_,?_,_,_,_,rfl⟩
    ·rw[D,q0E,Y,em]
     show _=fN 0 (rs.take i++[r]) _;rw[fV,Kw,KO (q0P a3),Nat.zero_add]
     rfl
    ·rw[aj]at a6;omega
  ·rintro σ B ⟨sm,t,N,fr,_,em,_,x,y,u,rfl⟩
   walk_at "wp";refine q p B t hp N ?_ fr sm;rw[em,JW,U.1,Kv];rfl
def oJ(sg st:KU)(rs:Yaa):Option (Str×List Int):=
 match hX sg st rs with
 |some y=>some y
 |none=>if 8<(cq (tx st) rs).length then some ("names",[((cq (tx st) rs).length:Int)]) else none
def gs(sg st:KU)(lk pn:Addr):List (Str×V):=[("signs",.str (tx sg)),("start",.str (tx st)),("kept",.ref lk),("numbers",.ref pn)]
def dJ(R:RC)(H:Hp)(C dx a:Addr)(sg st:KU)(as:KZ)(rs:Yaa):Prop:=
 ∃lk pn t,H a=some (.ins C dx (gs sg st lk pn))/\H lk=some (.lst (as.map V.ref))/\bL R H as rs/\dl H pn t/\iY t=cq (tx st) rs
def su(R:RC)(H:Hp)(C dx a:Addr)(sg st:KU)(as:KZ)(rs:Yaa)(lk pn:Addr)(t:NT):Prop:=
 H a=some (.ins C dx (gs sg st lk pn))/\H lk=some (.lst (as.map V.ref))/\bL R H as rs/\dl H pn t/\iY t=cq (tx st) rs
theorem su.f{R:RC}{H:Hp}{C dx a:Addr}{sg st:KU}{as:KZ}{rs:Yaa}{lk pn:Addr}{t:NT}(g:su R H C dx a sg st as rs lk pn t):dJ R H C dx a sg st as rs:=⟨lk,pn,t,g⟩
theorem dJ.up{R:RC}{H H':Hp}{C dx a:Addr}{sg st:KU}{as:KZ}{rs:Yaa}(g:dJ R H C dx a sg st as rs)(s:aD H H'):dJ R H' C dx a sg st as rs:=by
 obtain⟨c,b,t,h1,h2,i,e,d⟩:=g;exact⟨c,b,t,s _ _ h1,s _ _ h2,i.up s,e.grow s,d⟩
theorem Di(k:Nat)(l:Addr)(v:RV):rE k l v≠[]:=λe=>by
 have:=(iX l v k).1;rw[e]at this;exact nomatch this
theorem bL.upX{R:RC}{H H':Hp}{a C dx:Addr}{as:KZ}{rs:Yaa}(h:bL R H as rs)(ha:H a=some (.ins C dx []))(s:bj a H H'):bL R H' as rs:=by
 refine⟨h.1,λi b r g c=>?_⟩;obtain⟨d,l,h1,h2⟩:=h.2 i b r g c;refine⟨d,l,s _ _ (λe=>?_) h1,s _ _ (λe=>?_) h2⟩
 ·rw[e,ha]at h1
  have:=q0S h1;exact q0Q (HO.ins.inj this).2.2.symm (Di _ _ _)
 ·rw[e,ha]at h2;cases h2
abbrev gl:Stmt:=je 44 0
inductive ig(K:W.Frag)(R:RC)(vs:List V)(H:Hp)(Q:VK)(_E:XK):Prop
 |mk (a C dx l:Addr) (sg st:KU) (as:KZ) (rs:Yaa) (_:vs=[.ref a,.str (tx sg),.str (tx st),.ref l]) (_:H a=some (.ins C dx [])) (_:jx K C) (_:(aI K C "signs"/\aI K C "start"/\aI K C "kept"/\aI K C "numbers")) (_:sg.length<=1000) (_:st.length<=1000) (_:H l=some (.lst (as.map V.ref))) (_:bL R H as rs) (_:(∀r∈rs,r.1<4)) (_:rs.length<=100) (_:oJ sg st rs=none) (_:∀H' lk pn t,bj a H H'->su R H' C dx a sg st as rs lk pn t->H lk=none->H pn=none->(∀x∈t,H x.2.1=none)->Q .non H')
theorem sG:aH ["self","signs","start","rules"] ["self","signs","start","rules"] (aw gl):=by walk_at "c"
theorem rm{R:RC}{f:Addr}{fd:K1}{t1:Tok}(F:dw K "__init__" "Grammar.__init__" gl f fd)(nb:NB mg)(yaz:mg "MOST_NAMES"=some (.int 8 t1))
  (yaG:dF P w K mg base bD 3 "check_made_of" ["signs","start","rules"] (gP R)) (yaM:dF P w K mg base bD 2 "numbers_by_name" ["start","rules"] (fE K R)) :
  bw P w K mg base bD 4 f fd ["self","signs","start","rules"] (ig K R):=by
 have sc:=sG;walk_at "f"
 ·obtain⟨a,C,g,l,b,c,q,I,rfl,ha,cl,⟨n1,n2,n3,n4⟩,a6,a5,hl,J,a7,hn,O,good⟩:=h
  refine⟨_,(ae (bi (q00 yaG hr (ac (ao 1) (ac (ao 2) (ac (ao 3) ad)))))
   (ae (c_ (ao 0) (ao 1) rfl)
   (ae (c_ (ao 0) (ao 2) rfl)
   (ae (c_ (ao 0) (cG bY rfl nb.list du (ac (ao 3) ad)) rfl)
   (ae (c_ (ao 0) (q00 yaM hr (ac (ao 2) (ac (ao 3) ad))) rfl)
   (ai (bT (aT (bd.m0 ol) (az yk rfl nb.len aS (ac (cH (ao 0) rfl) ad)) (dq (v:=.int 8) rfl yaz ⟨_,rfl⟩) (bf _))
   (ai fC)
   bh))))))),?_⟩
  obtain⟨g0,h8⟩:hX b c I=none/\¬ 8<(cq (tx c) I).length:=by
   unfold oJ at O;cases e:hX b c I with
   |some y=>rw[e]at O;cases O
   |none=>
    rw[e]at O;exact⟨rfl,λh=>by simp only[]at O;rw[q07 h]at O;cases O⟩
  walk_at "n";refine⟨b,c,l,q,I,rfl,a6,a5,hl,J,a7,hn,g0,λH1 G=>h1 _ _ ?_⟩;clear h1;have a1:=G _ _ ha;have Z:l≠a:=λe=>by rw[e,ha]at hl;cases hl
  walk_at "o";refine⟨C,g,_,a1,cl,n1,by simp,h2 _ _ ?_⟩;clear h2;have B:bj a H (aE H1 a (.ins C g [("signs",.str (tx b))])):=(bj.of G).put;have U:aE H1 a (.ins C g [("signs",.str (tx b))]) a=some (.ins C g [("signs",.str (tx b))]):=ag;show _;change zA _ _ _ _ (aE H1 a (.ins C g [("signs",.str (tx b))]));generalize aE H1 a (.ins C g [("signs",.str (tx b))])=H2 at B U ⊢;clear G a1;refine am λN3 h3=>?_;walk_at "wp";have d1:¬ (("signs":Str)="start"):=by decide +kernel
  have e3:cO "start" (V.str (tx c)) [(("signs":Str),V.str (tx b))]=[(("signs":Str),V.str (tx b)),(("start":Str),V.str (tx c))]:=by simp only[cO,q06 d1]
  refine⟨C,g,_,U,cl,n2,by simp,?_⟩;rw[e3];refine h3 _ _ ?_;clear h3;have n:bj a H (aE H2 a (.ins C g [(("signs":Str),V.str (tx b)),(("start":Str),V.str (tx c))])):=B.put;have T:aE H2 a (.ins C g [(("signs":Str),V.str (tx b)),(("start":Str),V.str (tx c))]) a=some (.ins C g [(("signs":Str),V.str (tx b)),(("start":Str),V.str (tx c))]):=ag;generalize aE H2 a (.ins C g [(("signs":Str),V.str (tx b)),(("start":Str),V.str (tx c))])=H3 at n T ⊢;clear B U;have a0:=n _ _ Z hl;refine am λN4 h4=>?_;walk_at "wp";refine⟨_,.inl (aM.of a0),λd j=>?_⟩;have M:d≠a:=λe=>by rw[e,T]at j;cases j
  have hlk0:d≠l:=λe=>by rw[e,a0]at j;cases j
  have sk:aD H3 (aE H3 d (.lst (q.map V.ref))):=ar j;have ek:aE H3 d (.lst (q.map V.ref)) d=some (.lst (q.map V.ref)):=ag;have b1:H d=none:=by
   cases e:H d with
   |none=>rfl
   |some u=>rw[n _ _ M e]at j;cases j
  generalize aE H3 d (.lst (q.map V.ref))=H4 at sk ek ⊢;have d2:¬ (("signs":Str)="kept"):=by decide +kernel
  have d3:¬ (("start":Str)="kept"):=by decide +kernel
  have e4:cO "kept" (V.ref d) [(("signs":Str),V.str (tx b)),(("start":Str),V.str (tx c))]=[(("signs":Str),V.str (tx b)),(("start":Str),V.str (tx c)),(("kept":Str),V.ref d)]:=by simp only[cO,q06 d2,q06 d3]
  refine⟨C,g,_,sk _ _ T,cl,n3,by simp,?_⟩;rw[e4];refine h4 _ _ ?_;clear h4;have k:bj a H (aE H4 a (.ins C g [(("signs":Str),V.str (tx b)),(("start":Str),V.str (tx c)),(("kept":Str),V.ref d)])):=(n.then sk).put;have p:aE H4 a (.ins C g [(("signs":Str),V.str (tx b)),(("start":Str),V.str (tx c)),(("kept":Str),V.ref d)]) a=some (.ins C g [(("signs":Str),V.str (tx b)),(("start":Str),V.str (tx c)),(("kept":Str),V.ref d)]):=ag;have S:aE H4 a (.ins C g [(("signs":Str),V.str (tx b)),(("start":Str),V.str (tx c)),(("kept":Str),V.ref d)]) d=some (.lst (q.map V.ref)):=by rw[av M];exact ek
  generalize aE H4 a (.ins C g [(("signs":Str),V.str (tx b)),(("start":Str),V.str (tx c)),(("kept":Str),V.ref d)])=H5 at k p S ⊢;refine am λN5 h5=>?_;walk_at "wp";refine⟨tx c,l,q,I,rfl,k _ _ Z hl,J.upX ha k,hn,λi H6 t m hN hm a8 D=>?_⟩;have L:i≠a:=λe=>by rw[e,p]at m;cases m
  have hpk:i≠d:=λe=>by rw[e,S]at m;cases m
  have b0:H i=none:=by
   cases e:H i with
   |none=>rfl
   |some u=>rw[k _ _ L e]at m;cases m
  have a9:∀x∈t,H x.2.1=none:=λx hx=>by
   have o:=a8 x hx;cases e:H x.2.1 with
   |none=>rfl
   |some u=>rw[k _ _ (λz=>by rw[z,p]at o;cases o) e]at o;cases o
  have d4:¬ (("signs":Str)="numbers"):=by decide +kernel
  have d5:¬ (("start":Str)="numbers"):=by decide +kernel
  have d6:¬ (("kept":Str)="numbers"):=by decide +kernel
  have e6:cO "numbers" (V.ref i) [(("signs":Str),V.str (tx b)),(("start":Str),V.str (tx c)),(("kept":Str),V.ref d)]=gs b c d i:=by unfold gs;simp only[cO,q06 d4,q06 d5,q06 d6]
  have a4:=D _ _ p;refine⟨C,g,_,a4,cl,n4,by simp,?_⟩;rw[e6];refine h5 _ _ ?_;clear h5;have r:bj a H (aE H6 a (.ins C g (gs b c d i))):=(k.then D).put;have gf:su R (aE H6 a (.ins C g (gs b c d i))) C g a b c q I d i t:=by
   refine⟨ag,by rw[av M];exact D _ _ S,J.upX ha r,⟨by rw[av L];exact hN.dict,λx hx=>?_,hN.apart⟩,hm⟩;have hq:=hN.list x hx;rw[av (λe=>by rw[e,a4]at hq;cases hq)];exact hq
  have a3:aE H6 a (.ins C g (gs b c d i)) a=some (.ins C g (gs b c d i)):=ag;have a2:aE H6 a (.ins C g (gs b c d i)) i=some (.dK (uR t)):=by rw[av L];exact hN.dict
  generalize aE H6 a (.ins C g (gs b c d i))=H7 at r gf a3 a2 ⊢;have Y:(uR t).length=(cq (tx c) I).length:=by rw[<- hm];unfold uR iY;rw[JW,JW]
  walk_at "wp";refine⟨C,g,_,a3,cl,n4,_,rfl,i,rfl,_,a2,?_⟩;rw[Y];rw[q06 ⋯];exact good H7 d i t r gf b1 b0 a9
abbrev gg:Stmt:=je 44 2
inductive fz(R:RC)(C:Addr)(vs:List V)(H:Hp)(Q:VK)(_E:XK):Prop
 |mk (a dx:Addr) (sg st:KU) (as:KZ) (rs:Yaa) (k:Nat) (b:Addr) (_:vs=[.ref a,.int (k:Int)]) (_:dJ R H C dx a sg st as rs) (_:as[k]?=some b) (_:Q (.ref b) H)
theorem rV:aH ["self","k"] ["self","k"] (aw gg):=by walk_at "c"
theorem ri{R:RC}{f C:Addr}{fd:K1}(F:dw K "rule" "Grammar.rule" gg f fd)(nb:NB mg)(cl:jx K C)(na:aI K C "signs"/\aI K C "start"/\aI K C "kept"/\aI K C "numbers"):bw P w K mg base bD 1 f fd ["self","k"] (fz R C):=by
 have sc:=rV;walk_at "f"
 ·obtain⟨a,j,sg,st,as,rs,k,b,rfl,g,e,q⟩:=h
  obtain⟨c,pn,t,i,d,hrs,hN,hm⟩:=id g;have hu:=hr.units;refine⟨_,(ai (aO (a_ aU (cH (ao 0) rfl) (ao 1) (λ_ _=>rfl)))),?_⟩;walk_at "wp";exact⟨C,j,_,i,cl,na.2.2.1,_,rfl,c,rfl,_,aM.of d,_,bC (by rw[JY,e];rfl),q⟩
abbrev fB:Stmt:=je 44 4
inductive gv(R:RC)(C:Addr)(vs:List V)(H:Hp)(Q:VK)(_E:XK):Prop
 |mk (a dx:Addr) (sg st:KU) (as:KZ) (rs:Yaa) (_:vs=[.ref a]) (_:dJ R H C dx a sg st as rs) (_:∀l H',H l=none->H' l=some (.lst ((cq (tx st) rs).map λq=>V.str q.1))->aD H H'->Q (.ref l) H')
theorem pI:aH ["self"] ["self"] (aw fB):=by walk_at "c"
theorem pS{R:RC}{f C:Addr}{fd:K1}(F:dw K "names" "Grammar.names" fB f fd)(nb:NB mg)(cl:jx K C)(na:aI K C "signs"/\aI K C "start"/\aI K C "kept"/\aI K C "numbers"):bw P w K mg base bD 1 f fd ["self"] (gv R C):=by
 have sc:=pI;walk_at "f"
 ·obtain⟨a,j,sg,st,as,rs,rfl,g,q⟩:=h
  obtain⟨lk,c,t,e,hk,hrs,i,d⟩:=id g;have hu:=hr.units;refine⟨_,(ai (aO (cG (vX rfl) rfl nb.list du (ac (cH (ao 0) rfl) ad)))),?_⟩;walk_at "wp";refine⟨C,j,_,e,cl,na.2.2.2,_,rfl,c,rfl,_,i.dict,λl b=>q l _ b ?_ (ar b)⟩;rw[ag,<- d];unfold uR iY;rw[J9,J9]
  rfl
abbrev fw:Stmt:=je 44 1
inductive gq(R:RC)(C:Addr)(vs:List V)(H:Hp)(Q:VK)(_E:XK):Prop
 |mk (a dx:Addr) (sg st:KU) (as:KZ) (rs:Yaa) (_:vs=[.ref a]) (_:dJ R H C dx a sg st as rs) (_:∀l H',H l=none->H' l=some (.lst (as.map V.ref))->aD H H'->Q (.ref l) H')
theorem pJ:aH ["self"] ["self"] (aw fw):=by walk_at "c"
theorem p_{R:RC}{f C:Addr}{fd:K1}(F:dw K "rules" "Grammar.rules" fw f fd)(nb:NB mg)(cl:jx K C)(na:aI K C "signs"/\aI K C "start"/\aI K C "kept"/\aI K C "numbers"):bw P w K mg base bD 1 f fd ["self"] (gq R C):=by
 have sc:=pJ;walk_at "f"
 ·obtain⟨a,j,sg,st,as,rs,rfl,g,q⟩:=h
  obtain⟨c,pn,t,i,e,hrs,hN,hm⟩:=id g;have hu:=hr.units;refine⟨_,(ai (aO (cG bY rfl nb.list du (ac (cH (ao 0) rfl) ad)))),?_⟩;walk_at "wp";exact⟨C,j,_,i,cl,na.2.2.1,_,rfl,c,rfl,_,.inl (aM.of e),λd b=>q d _ b ag (ar b)⟩
abbrev oP:Stmt:=fU 17
inductive qH(K:W.Frag)(vs:List V)(H:Hp)(Q:VK)(_E:XK):Prop
 |mk (a:Addr) (p:aL) (_:vs=[.ref a]) (_:aM K H a (aq p)) (_:eM p) (_:gG H (mirror p) Q)
theorem yL:aH ["picture"] ["picture"] (aw oP):=by walk_at "c"
theorem ze{f:Addr}{fd:K1}(F:dw K "mirror" "mirror" oP f fd)(nb:NB mg):bw P w K mg base bD 1 f fd ["picture"] (qH K):=by
 have sc:=yL;walk_at "f"
 ·obtain⟨a,p,rfl,j,g,q⟩:=h
  refine⟨_,(ai (aO (cU ["row"] [] rfl (bQ.of (by kernel_rfl)) (by kernel_rfl) (bN (ao 0))
    (λ_ _ _ _=>(aB (i:=0) (by show(["row"]:List Str).Nodup;decide +kernel) rfl (Or.inl rfl))) (λ_ _ _ _=>cw) (λ_ _ _ _=>(ou rfl rfl nb.reversed (ac (ao 0) ad)))))),?_⟩
  walk_at "wp";refine⟨⟨_,j⟩,d9 (xs:=aq p) (λi b σ d=>d=H/\b=aq (mirror (p.take i))/\i<=p.length/\∃x,σ=[x]) ⟨rfl,rfl,Kh _,_,rfl⟩ ?_ ?_ ?_ ?_ ?_⟩
  ·rintro i b σ d ⟨_,rfl,_⟩
   refine aX ?_;rw[aj];unfold mirror;rw[JW,Kw];have:=g.1;omega
  ·rintro i b σ d ⟨_,_,h,_⟩
   rw[aj];exact h
  ·rintro i b σ d ⟨rfl,_⟩
   exact j
  ·rintro i x b σ d e ⟨rfl,rfl,hi,y,rfl⟩
   have c:i<p.length:=by have:=(JU.mp e).1;rwa [aj]at this
   rw[bc c]at e;cases e;have hr:=g.2 _ (J3 c);walk_at "wp";refine⟨by rw[ax];omega,by decide,?_,c⟩;rw[cV,i6,q0E,JT c];unfold mirror;rw[J7];exact(bX _ _).symm
  ·rintro b σ d ⟨rfl,rfl,_⟩ l c
   rw[aj,Kv];exact q l _ c ag (ar c)
abbrev dv:Stmt:=fU 19
inductive qU(K:W.Frag)(vs:List V)(H:Hp)(Q:VK)(_E:XK):Prop
 |mk (a:Addr) (p:aL) (i:Nat) (_:vs=[.ref a,.int (i:Int)]) (_:aM K H a (aq p)) (_:eM p) (_:(∀r∈p,i<r.length)) (_:∀H',aD H H'->Q (.str (tx (rM p i))) H')
theorem zd:aH ["picture","i"] ["picture","i"] (aw dv):=by walk_at "c"
theorem yx{f:Addr}{fd:K1}(F:dw K "column_from_below" "column_from_below" dv f fd)(nb:NB mg):bw P w K mg base bD 1 f fd ["picture","i"] (qU K):=by
 have sc:=zd;walk_at "f"
 ·obtain⟨a,p,i,rfl,v,m,z,q⟩:=h
  refine⟨_,(ai (aO (@qE _ _ _ _ _ _ _ _ (ac (cU ["row"] [1] rfl (bQ.of (by kernel_rfl)) (by kernel_rfl) (Aw rfl nb.reversed (ac (ao 0) ad))
    (λ_ _ _ _=>(aB (i:=0) (by show(["row","i"]:List Str).Nodup;decide +kernel) rfl (Or.inl rfl))) (λ_ _ _ _=>cw) (λ_ _ _ _=>(a_ nq (ao 0) (ao 1) (λ_ _=>rfl)))) ad) rfl rfl))),?_⟩
  walk_at "wp";have hd:∀n,((p.reverse.take n).map λr=>V.str ⟨#[r.getD i 0]⟩)=(((p.reverse.take n).map λr=>r.getD i 0).map λc=>(⟨#[c]⟩:Str)).map V.str:=λn=>by rw[J9,J9];rfl
  refine⟨rfl,_,v,uJ (xs:=aq p) (λn b σ g=>g=H/\b=((p.reverse.take n).map λr=>V.str ⟨#[r.getD i 0]⟩)/\n<=p.length/\∃x,σ=[x,some (.int (i:Int))]) ⟨rfl,rfl,Kh _,_,rfl⟩ ?_ ?_ ?_ ?_ ?_⟩
  ·rintro n b σ g ⟨_,rfl,_⟩
   refine aX ?_;rw[JW,Kw];have:=m.1;rw[Ka];omega
  ·rintro n b σ g ⟨_,_,h,_⟩
   rw[aj];exact h
  ·rintro n b σ g ⟨rfl,_⟩
   exact v
  ·rintro n x b σ g o ⟨rfl,rfl,hn,y,rfl⟩
   have d:n<p.reverse.length:=by
    have:=(JU.mp o).1
    rwa [Ka,aj,<- Ka (as:=p)]at this
   have j:(aq p.reverse)[n]?=some x:=by unfold aq at o ⊢;rwa [List.map_reverse]
   rw[bc d]at j;cases j;have u:p.reverse[n]∈p:=List.mem_reverse.mp (J3 d);have hr:=m.2 _ u;have k:=z _ u;walk_at "wp";have B:(tx p.reverse[n]).cps.toList[i]?=some (p.reverse[n].getD i 0):=by rw[cV,q0A,JT k];rfl
   refine⟨by rw[ax];exact ay ⋯,_,bC B,?_,by rw[Ka]at d;exact d⟩;rw[q0E,JT d,J7]
   rfl
  ·rintro b σ g ⟨rfl,rfl,_⟩ l d
   rw[aj,<- Ka (as:=p),Kv]at *;refine⟨(rM p i).map λc=>(⟨#[c]⟩:Str),.inl (aM.of ?_),?_,?_⟩
   ·rw[ag];unfold rM;rw[J9,J9];rfl
   ·rw[J9]
    have e:((λy:Str=>y.length)∘λc=>(⟨#[c]⟩:Str))=λ_=>1:=by funext c;rfl
    rw[e,List.map_const',List.sum_replicate_nat,JW];have C:(Str.ofString "").length=0:=rfl;rw[C];have:=m.1;unfold rM;rw[JW,Ka];omega
   ·rw[i6];exact q _ (ar d)
abbrev lx:Stmt:=fU 18
inductive ia(K:W.Frag)(vs:List V)(H:Hp)(Q:VK)(_E:XK):Prop
 |mk (a:Addr) (p:aL) (r c:Nat) (_:vs=[.ref a]) (_:aM K H a (aq p)) (_:rect p r c) (_:0<r) (_:r<=64) (_:c<=64) (_:gG H (bx p) Q)
theorem v9:aH ["picture"] ["picture"] (aw lx):=by walk_at "c"
theorem v5{f:Addr}{fd:K1}(F:dw K "quarter" "quarter" lx f fd)(nb:NB mg)(yaD:dF P w K mg base bD 1 "column_from_below" ["picture","i"] (qU K)):bw P w K mg base bD 2 f fd ["picture"] (ia K):=by
 have sc:=v9;walk_at "f"
 ·obtain⟨a,p,r,c,rfl,B,e,d,m,o,q⟩:=h
  refine⟨_,(ai (aO (cU ["i"] [0] rfl (bQ.of (by kernel_rfl)) (by kernel_rfl) (bH rfl nb.range (ac (az aW rfl nb.len aS (ac (a_ aU (ao 0) af (λ_ _=>rfl)) ad)) ad))
    (λ_ _ _ _=>(aB (i:=0) (by show(["i","picture"]:List Str).Nodup;decide +kernel) rfl (Or.inl rfl))) (λ_ _ _ _=>cw) (λ_ _ _ _=>(q00 yaD hr (ac (ao 1) (ac (ao 0) ad))))))),?_⟩
  walk_at "wp";have g:0<p.length:=by rw[e.1];exact d
  have u:(p[0]).length=c:=e.2 _ (J3 g);have D:(p.headD []).length=c:=bg e d;refine⟨_,B,_,bC (bc g),_,rfl,by rw[ax];exact ay ⋯,by rw[ax];omega,by rw[ax];omega,?_⟩;rw[ax,u,J4];refine jX (lo:=0) (n:=c) (λi b σ j=>aD H j/\b=aq ((List.range i).map (rM p))/\i<=c/\∃x,σ=[x,some (.ref a)]) ⟨aD.refl _,rfl,Kh _,_,rfl⟩ ?_ ?_ ?_ ?_
  ·rintro i b σ j ⟨_,rfl,_⟩
   refine aX ?_;rw[aj,JW,q0J];omega
  ·rintro i b σ j ⟨_,_,h,_⟩
   exact h
  ·rintro i b σ j z ⟨sm,rfl,_,y,rfl⟩
   walk_at "wp";refine⟨a,p,i,by simp,sm.seq B,eM.of e m o,λx C=>by rw[e.2 x C];exact z,λH2 k=>⟨sm.trans k,?_,z⟩⟩;rw[q0M,J7];exact(bX _ _).symm
  ·rintro b σ j ⟨sm,rfl,_⟩ l v
   refine q l _ (sm.free v) ?_ (sm.trans (ar v));rw[ag];unfold bx;rw[D]
abbrev oM:Stmt:=fU 16
inductive i9(K:W.Frag)(vs:List V)(H:Hp)(Q:VK)(_E:XK):Prop
 |mk (a:Addr) (p:aL) (r c t:Nat) (_:vs=[.ref a,.int (t:Int)]) (_:aM K H a (aq p)) (_:rect p r c) (_:0<r) (_:0<c) (_:r<=64) (_:c<=64) (_:t<8) (_:gG H (turned p t) Q)
theorem yE:aH ["picture","t","result","step"] ["picture","t"] (aw oM):=by walk_at "c"
theorem yS{f:Addr}{fd:K1}(F:dw K "turned" "turned" oM f fd)(nb:NB mg)(yaK:dF P w K mg base bD 1 "mirror" ["picture"] (qH K))(yaR:dF P w K mg base bD 2 "quarter" ["picture"] (ia K)):bw P w K mg base bD 3 f fd ["picture","t"] (i9 K):=by
 have sc:=yE;walk_at "f"
 ·obtain⟨a,p,r,c,t,rfl,hS,hp,hr0,hc0,hr1,hc1,ht,q⟩:=h
  refine⟨_,(ae (q01 2 sc.nd (cG bY rfl nb.list du (ac (pv 0) ad)))
   (ae (bT (aT DZ (pv 1) af (bf _))
   (ai (q01 2 sc.nd (q00 yaK hr (ac (pv 2) ad))))
   bh)
   (ae (aY PassesOwn.never rfl (bH rfl nb.range (ac (au aR (pv 1) af) ad)) (q02 3 sc.nd)
   (ai (q01 2 sc.nd (q00 yaR hr (ac (pv 2) ad)))))
   (ai (aO (pv 2)))))),?_⟩
  walk_at "wp"
  -- the aV,from the list at l
  have loop:∀(l:Addr) (p':aL) (H1:Hp),H l=none->H1 l=some (.lst (aq p'))->aD H H1->rect p' r c->turned p t=aV (t%4) p' ->
    ∀(g:TG) (tb:TS) (D:gu),g=iP 3->tb=zi (j_ (ia K) [] E0 (gI (BH 2) k9)) (iP 2)->(∀σ' H' v,σ'[2]?=some (some v)->Q v H'->D.nx σ' H')->ww (wo 0 ((t:Int)%4).toNat) g tb D [some (V.ref a),some (V.int t),some (V.ref l),none] H1:=by
   intro l p' H1 hl h1 sm hp' et g tb D hg htb hD;subst hg htb;have e4:((t:Int)%4).toNat=t%4:=by omega
   rw[e4];refine bz (λi σ H2=>∃(l2:Addr) (x:Option V),σ=[some (V.ref a),some (V.int t),some (V.ref l2),x]/\H l2=none/\H2 l2=some (.lst (aq (aV i p')))/\aD H H2) ⟨l,none,rfl,hl,h1,sm⟩ ?_ ?_
   ·rintro i σ H2 hi ⟨l2,x,rfl,h2,h3,sm2⟩
    walk_at "wp";have hq:=cZ i hp' hr0 hc0;have gp:∀r' c',rect (aV i p') r' c'->0<r'->r'<=64->c'<=64->ia K [V.ref l2] H2 (λx_1 H1=>∃l2,x_1=V.ref l2/\H l2=none/\H1 l2=some (HO.lst (aq (aV (i+1) p')))/\aD H H1) E0:=λr' c' h4 h5 h6 h7=>
     ⟨l2,aV i p',r',c',rfl,aM.of h3,h4,h5,h6,h7,λl3 H3 h8 h9 sm3=>⟨l3,rfl,sm2.free h8,by rw[h9,<- cK 1 i p'];rfl,sm2.trans sm3⟩⟩
    by_cases j3:i%2=0
    ·rw[q07 j3,q07 j3]at hq
     exact gp r c hq hr0 hr1 hc1
    ·rw[q06 j3,q06 j3]at hq
     exact gp c r hq hc0 hc1 hr1
   ·rintro σ H2 ⟨l2,x,rfl,h2,h3,sm2⟩
    exact hD _ _ _ rfl (q l2 H2 h2 (by rw[h3,et]) sm2)
  refine⟨_,.inl hS,λl hl=>?_⟩
  split
  ·rename_i h4
   refine⟨l,p,rfl,aM.of ag,eM.of hp hr1 hc1,λl2 H2 h2 h3 sm2=>⟨⋯,⋯,?_⟩⟩;refine loop l2 (mirror p) H2 ((ar hl).free h2) h3 ((ar hl).trans sm2) (cr hp) (by unfold turned;rw[q07 ⋯]) _ _ _ rfl rfl ?_;intro σ' H' v e hq;exact⟨v,e,hq⟩
  ·rename_i h4
   refine⟨⋯,⋯,?_⟩;refine loop l p _ hl ag (ar hl) hp (by unfold turned;rw[q06 ⋯]) _ _ _ rfl rfl ?_;intro σ' H' v e hq;exact⟨v,e,hq⟩
def o_(r:Nat×RV):List V:=match r.1 with
 |0=>[.int 0,.str (tx r.2.n),.int r.2.c,.str (tx r.2.sg),.str ""]
 |1=>[.int 1,.str (tx r.2.n),.int r.2.c,.str (tx r.2.o1),.str (tx r.2.o2)]
 |2=>[.int 2,.str (tx r.2.n),.int r.2.c,.str (tx r.2.o1),.str (tx r.2.o2)]
 |_=>[.int 3,.str (tx r.2.n),.int r.2.c,.str (tx r.2.o1),.int r.2.t]
def cL(H:Hp)(l:Addr)(ts:KZ)(rs:Yaa):Prop:=H l=some (.lst (ts.map V.ref))/\ts.length=rs.length/\∀(i:Nat) t r,ts[i]?=some t->rs[i]?=some r->H t=some (.tup (o_ r))
theorem cL.up{H H':Hp}{l:Addr}{ts:KZ}{rs:Yaa}(h:cL H l ts rs)(s:aD H H'):cL H' l ts rs:=⟨s _ _ h.1,h.2.1,λi t r e1 e2=>s _ _ (h.2.2 i t r e1 e2)⟩
theorem gY{k:Nat}(h:k<4):k=0\/k=1\/k=2\/k=3:=by omega
structure qV(r:Nat×RV):Prop where
 k4:r.1<4
 good:r.2.good
 small:r.2.small
structure iQ(p:aL)(sg:KU)(r:Nat×RV):Prop where
 good:qV r
 n:r.2.n∈p
 o1:r.2.o1∈p
 o2:r.2.o2∈p
 sg:∃c∈sg,r.2.sg=[c]
theorem cL.app{H:Hp}{l t:Addr}{ts:KZ}{rs:Yaa}{r:Nat×RV}(h:cL H l ts rs)(ht:H t=some (.tup (o_ r))):cL (aE H l (.lst (ts.map V.ref++[V.ref t]))) l (ts++[t]) (rs++[r]):=by
 obtain⟨h1,h2,k⟩:=h;refine⟨by rw[ag,J7];rfl,by rw[Kf,Kf,h2];rfl,λi c d b g=>?_⟩;have a:∀c d,H c=some (.tup (o_ d))->aE H l (.lst (ts.map V.ref++[V.ref t])) c=some (.tup (o_ d)):=λc d e=>by
  rw[av (λz=>by rw[z,h1]at e;cases e)];exact e
 by_cases j:i<ts.length
 ·rw[Ke j]at b
  rw[Ke ⋯]at g;exact a _ _ (k i c d b g)
 ·rw[Kd ⋯]at b
  rw[Kd ⋯]at g;have j3:i=ts.length:=by
   have:=(JU.mp b).1;simp at this;omega
  subst j3;rw[Nat.sub_self]at b;rw[h2,Nat.sub_self]at g;cases b;cases g
  exact a _ _ ht
def addNew(ks:K3)(z:Str):List Str:=if z∈ks then ks else ks++[z]
theorem qQ(m:List (Str×List Nat))(z:Str):(cB m z).map (·.1)=addNew (m.map (·.1)) z:=by
 unfold cB addNew
 split
 ·rfl
 ·rw[J7];rfl
theorem nN:∀(zs:K3) (m:List (Str×List Nat)),(zs.foldl cB m).map (·.1)=zs.foldl addNew (m.map (·.1))
 | [],_=>rfl
 |z::zs,m=>by rw[List.foldl_cons,List.foldl_cons,nN zs,qQ]
theorem zc(m:List (Str×List Nat))(i:Nat)(r:Nat×RV):(d_ m i r).map (·.1)=(tx r.2.n::(cC r.1 r.2).map tx).foldl addNew (m.map (·.1)):=by
 unfold d_;rw[nN,io,qQ,List.foldl_cons]
def oG(z:Str)(rs:Yaa):List Nat:=rs.zipIdx.filterMap λx=>if tx x.1.2.n=z then some x.2 else none
theorem vK(z:Str)(rs:Yaa)(r:Nat×RV):oG z (rs++[r])=oG z rs++if tx r.2.n=z then[rs.length] else[]:=by
 unfold oG;rw[List.zipIdx_append,List.filterMap_append]
 congr 1
 simp
 split<;>rename_i h<;>simp[h]
theorem w_{z:Str}:∀{rs:Yaa},(∀r∈rs,tx r.2.n≠z)->oG z rs=[]:=by
 intro rs h;unfold oG;rw[List.filterMap_eq_nil_iff];intro x a;rw[q06 (h x.1 (List.fst_mem_of_mem_zipIdx a))]
structure NI(rs:Yaa)(m:List (Str×List Nat)):Prop where
 nd:(m.map (·.1)).Nodup
 ix:∀q∈m,q.2=oG q.1 rs
 all:∀r∈rs,tx r.2.n∈m.map (·.1)
theorem og{m:List (Str×List Nat)}{z y:Str}:y∈(cB m z).map (·.1)↔y∈m.map (·.1)\/y=z:=by
 unfold cB
 split
 ·rename_i h
  exact⟨λq=>.inl q,λq=>q.elim id λe=>e▸h⟩
 ·rw[J7,J8];simp
theorem NI.name{rs:Yaa}{m:List (Str×List Nat)}(h:NI rs m)(z:Str):NI rs (cB m z):=by
 refine⟨ku h.nd,λq hq=>?_,λr hr=>og.mpr (.inl (h.all r hr))⟩;unfold cB at hq
 split at hq
 ·exact h.ix q hq
 ·rename_i hz
  rcases J8.mp hq with q1 | q1
  ·exact h.ix q q1
  ·rw[JX.mp q1]
   exact(w_ (z:=z) λr hr e=>hz (by rw[<- e];exact h.all r hr)).symm
theorem NI.names{rs:Yaa}:∀(zs:K3) {m:List (Str×List Nat)},NI rs m->NI rs (zs.foldl cB m)
 | [],_,h=>h
 |z::zs,m,h=>NI.names zs (h.name z)
theorem NI.put{rs:Yaa}{m:List (Str×List Nat)}{r:Nat×RV}(h:NI rs m)(hn:tx r.2.n∈m.map (·.1)):NI (rs++[r]) (iu m (tx r.2.n) rs.length):=by
 refine⟨by rw[io];exact h.nd,λq b=>?_,λd a=>?_⟩
 ·unfold iu at b
  obtain⟨p,c,rfl⟩:=KF.mp b;rw[vK]
  by_cases e:p.1=tx r.2.n
  ·rw[q07 e]
   show p.2++[rs.length]=oG p.1 rs++_;rw[q07 e.symm,h.ix p c]
  ·rw[q06 e,q06 (λz=>e z.symm),Ks]
   exact h.ix p c
 ·rw[io]
  rcases J8.mp a with q | q
  ·exact h.all d q
  ·rw[JX.mp q];exact hn
theorem kU(z:Str):∀(n:Nat) (rs:Yaa),rs.length=n->NI rs (cq z rs)
 |0,rs,h=>by
  rw[KD.mp h];exact⟨by simp[cq,fN],λq hq=>by rw[show q=(z,[]) by simpa[cq,fN]using hq];rfl,λr hr=>nomatch hr⟩
 |n+1,rs,h=>by
  obtain⟨rs',r,rfl⟩:∃rs' r,rs=rs'++[r]:=⟨rs.dropLast,rs.getLast (by intro e;rw[e]at h;cases h),(List.dropLast_concat_getLast _).symm⟩;have hl:rs'.length=n:=by rw[Kf,q0Z]at h;omega
  have a:=kU z n rs' hl;unfold cq at a ⊢;rw[fV,Nat.zero_add];unfold d_;exact((a.name (tx r.2.n)).put (og.mpr (.inr rfl))).names _
def Fe(rs:Yaa):List ThM.NR:=rs.map λr=>(tx r.2.n,(cC r.1 r.2).map tx)
theorem xk{ks:K3}{z y:Str}:y∈addNew ks z↔y∈ks\/y=z:=ThM.mem_addNew
theorem kB{y:Str}:∀(zs ks:K3),y∈zs.foldl addNew ks↔y∈ks\/y∈zs
 | [],ks=>by simp
 |z::zs,ks=>by
  rw[List.foldl_cons,kB zs,xk,J_];exact⟨λh=>h.elim (λh=>h.elim .inl λe=>.inr (.inl e)) λh=>.inr (.inr h),λh=>h.elim (λh=>.inl (.inl h)) λh=>h.elim (λe=>.inl (.inr e)) .inr⟩
theorem zg(z:Str)(rs:Yaa)(r:Nat×RV):(cq z (rs++[r])).map (·.1)=(tx r.2.n::(cC r.1 r.2).map tx).foldl addNew ((cq z rs).map (·.1)):=by
 unfold cq;rw[fV,zc]
theorem BC{α:Type}{P:List α->Prop}(h0:P [])(h1:∀rs r,P rs->P (rs++[r]))(rs:List α):P rs:=by
 have:∀(n:Nat) (rs:List α),rs.length=n->P rs:=by
  intro n
  induction n with
  |zero=>intro rs h;rw[KD.mp h];exact h0
  |succ n ih=>
   intro rs h;have a:rs≠[]:=by intro e;rw[e]at h;cases h
   rw[<- List.dropLast_concat_getLast a];exact h1 _ _ (ih _ (by rw[List.length_dropLast];omega))
 exact this _ rs rfl
theorem j7(z:Str)(rs:Yaa):∀y,y∈(cq z rs).map (·.1)↔y=z\/∃r∈Fe rs,y=r.1\/y∈r.2:=by
 refine BC (P:=λrs=>∀y,y∈(cq z rs).map (·.1)↔y=z\/∃r∈Fe rs,y=r.1\/y∈r.2) ?_ ?_ rs
 ·intro y
  have e:(cq z []).map (·.1)=[z]:=rfl;rw[e];unfold Fe;simp
 ·intro rs r a y
  rw[zg,kB,a y,J_];unfold Fe;rw[J7]
  constructor
  ·rintro((h | ⟨q,hq,h⟩) | h)
   ·exact .inl h
   ·exact .inr ⟨q,J8.mpr (.inl hq),h⟩
   ·exact .inr ⟨_,J8.mpr (.inr (JX.mpr rfl)),h⟩
  ·rintro(h | ⟨q,hq,h⟩)
   ·exact .inl (.inl h)
   ·rcases J8.mp hq with hq | hq
    ·exact .inl (.inr ⟨q,hq,h⟩)
    ·rw[JX.mp hq]at h
     exact .inr h
theorem Ct{sg:KU}{c:Nat}(h:c∈sg):Fm (tx sg) (tx [c])=true:=by
 have:=StrLaws.found_one (tx sg) c;show(!(Builtin.Str.occurrences (tx sg) ⟨#[c]⟩ 0 (tx sg).length 1).isEmpty)=true;rw[this,cV,q09 h]
theorem km{sg:KU}:∀{rs:Yaa} {j:Nat},(∀r∈rs,∃c∈sg,r.2.sg=[c])->ge (tx sg) rs j=none
 | [],_,_=>rfl
 |r::rs,j,h=>by
  obtain⟨c,hc,e⟩:=h r q0B;unfold ge;rw[q06 (λz=>by rw[e,Ct hc]at z;exact q0Q z.2 (by decide))];exact km λr' hr'=>h r' (J' _ hr')
theorem yg{p:aL}{sg st:KU}{rs:Yaa}(hsg:il sg=true)(hst:st∈p)(hpn:∀r∈p,dh r=true)(hp:p.length<=8)(hn:rs.length<=24)(hr:∀r∈rs,iQ p sg r):oJ sg st rs=none:=by
 have i:hX sg st rs=none:=by
  unfold hX;rw[q06 (by rw[hsg];decide),q06 (by rw[hpn _ hst];decide),q06 ⋯,km λr h=>(hr r h).sg]
 unfold oJ;rw[i];simp only[];rw[q06];have g:∀z∈(cq (tx st) rs).map (·.1),z∈p.map tx:=λz d=>by
  rcases(j7 _ _ _).mp d with e | ⟨q,c,e⟩
  ·rw[e];exact List.mem_map_of_mem hst
  ·unfold Fe at c
   obtain⟨r,b,rfl⟩:=KF.mp c;have R:=hr r b;rcases e with e | e
   ·rw[e];exact List.mem_map_of_mem R.n
   ·obtain⟨y,a,rfl⟩:=KF.mp e
    refine List.mem_map_of_mem ?_;obtain⟨k,v⟩:=r;rcases gY R.good.k4 with rfl | rfl | rfl | rfl
    ·exact q0Q a List.not_mem_nil
    ·rcases(show y=v.o1\/y=v.o2 by simpa[cC]using a) with rfl | rfl
     ·exact R.o1
     ·exact R.o2
    ·rcases(show y=v.o1\/y=v.o2 by simpa[cC]using a) with rfl | rfl
     ·exact R.o1
     ·exact R.o2
    ·rw[show y=v.o1 by simpa[cC]using a];exact R.o1
 have:=ThM.nd_len (kU (tx st) _ rs rfl).nd g;rw[JW,JW]at this;omega
theorem bL.zip{R:RC}{H:Hp}{as:KZ}{rs:Yaa}(h:bL R H as rs):(as.zip rs).map (λx=>V.ref x.1)=as.map V.ref/\(as.zip rs).map (·.2)=rs/\∀x∈as.zip rs,gx R H x.2.1 x.1 x.2.2:=by
 refine⟨?_,List.map_snd_zip (by have:=h.1;omega),λx b=>?_⟩
 ·have e:(as.zip rs).map (λx=>V.ref x.1)=((as.zip rs).map Prod.fst).map V.ref:=by rw[J9];rfl
  rw[e,List.map_fst_zip (by have:=h.1;omega)]
 ·obtain⟨i,c,e⟩:=List.mem_iff_getElem.mp b
  have a:(as.zip rs)[i]?=some x:=by rw[JT c,e]
  rw[List.getElem?_zip_eq_some]at a;exact h.2 i x.1 x.2 a.1 a.2
structure Hh(K:W.Frag)(C:Addr):Prop where
 cl:jl K C
 na:aI K C "signs"/\aI K C "start"/\aI K C "kept"/\aI K C "numbers"
abbrev rU:Stmt:=fU 8
theorem E2(x:Str):x=tx x.cps.toList:=by unfold tx;simp
theorem xI(p:aL):Txt.join (Str.ofString "/") (p.map tx)=tx (SpM.glue 47 p):=by
 have e:(Txt.join (Str.ofString "/") (p.map tx)).cps.toList=SpM.glue 47 p:=by
  have h:=SpM.join_glue 47 (p.map tx);rw[J9]at h;have a:((λy:Str=>y.cps.toList)∘tx)=id:=by funext r;exact cV r
  rw[a,List.map_id]at h;exact h
 rw[<- e];exact E2 _
inductive gL(K:W.Frag)(vs:List V)(H:Hp)(Q:VK)(_E:XK):Prop
 |mk (a:Addr) (p:aL) (_:vs=[.ref a]) (_:H a=some (.lst (aq p))) (_:eM p) (_:Q (.str (tx (SpM.glue 47 p))) H)
theorem BF:aH ["picture"] ["picture"] (aw rU):=by walk_at "c"
theorem gO:∀{p:aL} {n:Nat},(∀r∈p,r.length<=n)->((p.map tx).map λy:Str=>y.length).sum<=p.length*n
 | [],n,_=>by simp
 |r::p,n,h=>by
  have h1:=h r (by simp);have h2:=gO (p:=p) (n:=n) λx hx=>h x (by simp[hx]);simp only[Km,List.sum_cons,ax,J6];rw[Nat.succ_mul];omega
theorem Al{f:Addr}{fd:K1}(F:dw K "shown" "shown" rU f fd):bw P w K mg base bD 1 f fd ["picture"] (gL K):=by
 have sc:=BF;walk_at "f"
 ·obtain⟨a,p,rfl,c,b,q⟩:=h
  refine⟨_,(ai (aO (@qE _ _ _ _ _ _ _ _ (ac (ao 0) ad) rfl rfl))),?_⟩;walk_at "wp";refine⟨rfl,p.map tx,.inl (by rw[<- fO];exact aM.of c),?_,?_⟩
  ·have:=gO b.2
   have h1:=b.1;have d:(Str.ofString "/").length=1:=rfl;rw[JW,d];have h2:p.length*64<=64*64:=Nat.mul_le_mul_right _ h1;omega
  ·rw[xI];exact q
abbrev oO:Stmt:=fU 13
def qf(sb:Bool)(p:aL)(n:Nat):aL:=if sb=true then p.map (List.take n) else p.take n
def kW(sb:Bool)(p:aL)(n:Nat):aL:=if sb=true then p.map (List.drop n) else p.drop n
inductive qy(K:W.Frag)(vs:List V)(H:Hp)(Q:VK)(_E:XK):Prop
 |mk (sb:Bool) (a:Addr) (p:aL) (r c n:Nat) (_:vs=[.ref a,.bl sb,.int (n:Int)]) (_:aM K H a (aq p)) (_:rect p r c) (_:r<=6) (_:c<=6) (_:n<=(if sb=true then c else r)) (_:∀(t l1 l2:Addr) (H':Hp),H t=none->H l1=none->H l2=none->l1≠l2->H' t=some (.tup [.ref l1,.ref l2])->H' l1=some (.lst (aq (qf sb p n)))->H' l2=some (.lst (aq (kW sb p n)))->aD H H'->Q (.ref t) H')
theorem yR:aH ["picture","side_by_side","at"] ["picture","side_by_side","at"] (aw oO):=by walk_at "c"
theorem Bq{row:KU}{n:Nat}(h:n<=row.length):Txt.slice (tx row) none (some (n:Int))=tx (row.take n):=by
 rw[gD,HT.sIx_nat,KO h];show tx ((row.drop 0).take (n-0))=_;rw[KP,Nat.sub_zero]
theorem vW{row:KU}{n:Nat}(h:n<=row.length):Txt.slice (tx row) (some (n:Int)) none=tx (row.drop n):=by
 rw[gD,HT.sIx_nat,KO h];show tx ((row.drop n).take (row.length-n))=_;rw[q0F (by rw[Kx];omega)]
theorem EB{p:aL}{n:Nat}(h:n<=p.length):j8 (aq p) none (some (n:Int))=aq (p.take n):=by
 unfold j8;rw[HT.sIx_nat,aj,KO h];show((aq p).drop 0).take (n-0)=_;rw[KP,Nat.sub_zero];unfold aq;rw[List.map_take]
theorem B7{p:aL}{n:Nat}(h:n<=p.length):j8 (aq p) (some (n:Int)) none=aq (p.drop n):=by
 unfold j8;rw[HT.sIx_nat,aj,KO h];show((aq p).drop n).take (p.length-n)=_;rw[q0F (by rw[Kx,aj];omega)];unfold aq;rw[List.map_drop]
theorem yO{f:Addr}{fd:K1}(F:dw K "parted" "parted" oO f fd)(nb:NB mg):bw P w K mg base bD 1 f fd ["picture","side_by_side","at"] (qy K):=by
 have sc:=yR;walk_at "f"
 ·obtain⟨J,a,p,r,c,n,rfl,B,z,hr1,hc1,D,q⟩:=h
  refine⟨_,(ae (bT (fc (ao 1) λ_=>rfl)
   (ai (aO (bZ (ac (cU ["row"] [2] rfl (bQ.of (by kernel_rfl)) (by kernel_rfl) (bN (ao 0))
    (λ_ _ _ _=>(aB (i:=0) (by show(["row","at"]:List Str).Nodup;decide +kernel) rfl (Or.inl rfl))) (λ_ _ _ _=>cw) (λ_ _ _ _=>(dy pp (ao 0) mW (cQ (ao 1))))) (ac (cU ["row"] [2] rfl (bQ.of (by kernel_rfl)) (by kernel_rfl) (bN (ao 0))
    (λ_ _ _ _=>(aB (i:=0) (by show(["row","at"]:List Str).Nodup;decide +kernel) rfl (Or.inl rfl))) (λ_ _ _ _=>cw) (λ_ _ _ _=>(dy pp (ao 0) (cQ (ao 1)) mW))) ad)))))
   bh)
   (ai (aO (bZ (ac (dy kq (ao 0) mW (cQ (ao 2))) (ac (dy kq (ao 0) (cQ (ao 2)) mW) ad)))))),?_⟩
  walk_at "wp";cases J with
  |true=>
   rw[q07 rfl]at D ⊢;refine⟨⟨_,B⟩,d9 (xs:=aq p) (λi b σ l=>l=H/\b=aq ((p.take i).map (List.take n))/\i<=p.length/\∃y,σ=[y,some (V.int (n:Int))]) ⟨rfl,rfl,Kh _,_,rfl⟩ ?_ ?_ ?_ ?_ ?_⟩
   ·rintro i b σ l ⟨_,rfl,I,_⟩
    rw[aj,JW,Kw];exact aX (by rw[z.1]at *;omega)
   ·rintro i b σ l ⟨_,_,h,_⟩
    rw[aj];exact h
   ·rintro i b σ l ⟨rfl,_⟩
    exact B
   ·rintro i v b σ l x ⟨rfl,rfl,I,y,rfl⟩
    have m:i<p.length:=by have:=(JU.mp x).1;rwa [aj]at this
    rw[bc m]at x;cases x;have C:=z.2 _ (J3 m);walk_at "wp";refine⟨by rw[ax];exact ay ⋯,?_,m⟩;rw[Bq ⋯,q0E,JT m,J7];exact(bX _ _).symm
   ·rintro b σ l ⟨rfl,rfl,_⟩ g j
    rw[aj,Kv];have sm:aD l (aE l g (HO.lst (aq (p.map (List.take n))))):=ar j;have h1:aE l g (HO.lst (aq (p.map (List.take n)))) g=some (HO.lst (aq (p.map (List.take n)))):=ag;generalize aE l g (HO.lst (aq (p.map (List.take n))))=H1 at sm h1 ⊢;refine⟨⟨_,sm.seq B⟩,d9 (xs:=aq p) (λi b σ H2=>H2=H1/\b=aq ((p.take i).map (List.drop n))/\i<=p.length/\∃y,σ=[y,some (V.int (n:Int))]) ⟨rfl,rfl,Kh _,_,rfl⟩ ?_ ?_ ?_ ?_ ?_⟩
    ·rintro i b σ H2 ⟨_,rfl,I,_⟩
     rw[aj,JW,Kw];exact aX (by rw[z.1]at *;omega)
    ·rintro i b σ H2 ⟨_,_,h,_⟩
     rw[aj];exact h
    ·rintro i b σ H2 ⟨rfl,_⟩
     exact sm.seq B
    ·rintro i v b σ H2 x ⟨rfl,rfl,I,y,rfl⟩
     have m:i<p.length:=by have:=(JU.mp x).1;rwa [aj]at this
     rw[bc m]at x;cases x;have C:=z.2 _ (J3 m);walk_at "wp";refine⟨by rw[ax];exact ay ⋯,?_,m⟩;rw[vW ⋯,q0E,JT m,J7];exact(bX _ _).symm
    ·rintro b σ H2 ⟨rfl,rfl,_⟩ u e
     rw[aj,Kv];refine⟨ay ⋯,λt k=>?_⟩;have G:g≠u:=aJ h1 e;have d:∀o,aD H2 (aE H2 u o):=λo=>ar e;refine q t g u _ ?_ j (sm.free e) G ag ?_ ?_ ((sm.trans (d _)).trans (ar k))
     ·exact sm.free ((d _).free k)
     ·exact(ar k) _ _ ((d _) _ _ h1)
     ·exact(ar k) _ _ ag
  |false=>
   rw[q06 (by decide)]at D ⊢;refine⟨_,B,λg j=>?_⟩;rw[EB (by rw[z.1];exact D)];have sm:aD H (aE H g (HO.lst (aq (p.take n)))):=ar j;have h1:aE H g (HO.lst (aq (p.take n))) g=some (HO.lst (aq (p.take n))):=ag;generalize aE H g (HO.lst (aq (p.take n)))=H1 at sm h1 ⊢;refine⟨_,sm.seq B,λu e=>⟨ay ⋯,λt k=>?_⟩⟩;rw[B7 (by rw[z.1];exact D)]at k ⊢;have G:g≠u:=aJ h1 e;have d:∀o,aD H1 (aE H1 u o):=λo=>ar e;refine q t g u _ ?_ j (sm.free e) G ag ?_ ?_ ((sm.trans (d _)).trans (ar k))
   ·exact sm.free ((d _).free k)
   ·exact(ar k) _ _ ((d _) _ _ h1)
   ·exact(ar k) _ _ ag
abbrev wj:Stmt:=fU 21
inductive xP(vs:List V)(H:Hp)(Q:VK)(_E:XK):Prop
 |mk (t:Nat) (_:vs=[.int (t:Int)]) (_:t<8) (_:Q (.int (dP t:Nat)) H)
theorem C5:aH ["t"] ["t"] (aw wj):=by walk_at "c"
theorem Cw{f:Addr}{fd:K1}(F:dw K "back" "back" wj f fd):bw P w K mg base bD 1 f fd ["t"] xP:=by
 have sc:=C5;walk_at "f"
 ·obtain⟨t,rfl,ht,q⟩:=h
  refine⟨_,(ae (bT (aT (bd.m0 nr) (ao 0) af (bf _))
   (ai (aO (au (bd.m1 aR) (au (bd.m0 ii) af (ao 0)) af)))
   bh)
   (ai (aO (ao 0)))),?_⟩
  walk_at "wp"
  split
  ·have e:((dP t:Nat):Int)=(4-(t:Int))%4:=by unfold dP;rw[q07 ⋯];omega
   rw[<- e];exact q
  ·have e:((dP t:Nat):Int)=(t:Int):=by unfold dP;rw[q06 ⋯]
   rw[<- e];exact q
abbrev gZ:Stmt:=fU 9
def ce(H:Hp):List Addr->List Wn->Prop
 | [],[]=>True
 |b::bs,x::xs=>H b=some (.tup (x.map V.int))/\ce H bs xs
 |_,_=>False
theorem ce.same{H H':Hp}(sm:aD H H'):∀{bs:KZ} {xs:List Wn},ce H bs xs->ce H' bs xs
 | [],[],_=>trivial
 |_::_,_::_,h=>⟨sm _ _ h.1,ce.same sm h.2⟩
 | [],_::_,h=>h.elim
 |_::_,[],h=>h.elim
theorem ce.snoc{H:Hp}{b:Addr}{x:Wn}(hb:H b=some (.tup (x.map V.int))):∀{bs:KZ} {xs:List Wn},ce H bs xs->ce H (bs++[b]) (xs++[x])
 | [],[],_=>⟨hb,trivial⟩
 |_::_,_::_,h=>⟨h.1,ce.snoc hb h.2⟩
 | [],_::_,h=>h.elim
 |_::_,[],h=>h.elim
theorem ce.get{H:Hp}:∀{bs:KZ} {xs:List Wn} {i:Nat} {b:Addr},ce H bs xs->bs[i]?=some b->∃x,xs[i]?=some x/\H b=some (.tup (x.map V.int))
 | [],_,_,_,_,e=>by simp at e
 |c::bs,x::xs,0,b,h,e=>by simp at e;subst e;exact⟨x,rfl,h.1⟩
 |c::bs,x::xs,i+1,b,h,e=>by
  obtain⟨y,h1,h2⟩:=ce.get (i:=i) h.2 (by simpa using e);exact⟨y,by simpa using h1,h2⟩
 |_::_,[],_,_,h,_=>h.elim
theorem ce.length{H:Hp}:∀{bs:KZ} {xs:List Wn},ce H bs xs->bs.length=xs.length
 | [],[],_=>rfl
 |_::_,_::_,h=>by simp[ce.length h.2]
 | [],_::_,h=>h.elim
 |_::_,[],h=>h.elim
inductive jo(vs:List V)(H:Hp)(Q:VK)(_E:XK):Prop
 |mk (r c:Nat) (_:vs=[.int (r:Int),.int (c:Int)]) (_:r<=8) (_:c<=8) (_:∀(l:Addr) (bs:KZ) (H':Hp),H l=none->H' l=some (.lst (bs.map V.ref))->ce H' bs (jU r c)->aD H H'->Q (.ref l) H')
theorem pT:aH ["rows","columns","windows","top","left","bottom","right"] ["rows","columns"] (aw gZ):=by walk_at "c"
structure gH(H H':Hp)(l:Addr)(xs:List Wn)(n:Nat):Prop where
 ex:∃bs:List Addr,H' l=some (.lst (bs.map V.ref))/\ce H' bs xs/\bs.length<=n
 sm:aD H H'
theorem gH.more{H H':Hp}{l:Addr}{xs:List Wn}{n m:Nat}(h:gH H H' l xs n)(hm:n<=m):gH H H' l xs m:=
 ⟨let ⟨bs,h1,h2,h3⟩:=h.ex;⟨bs,h1,h2,Kn h3 hm⟩,h.sm⟩
theorem gH.snoc{H H':Hp}{l p:Addr}{xs:List Wn}{x:Wn}{n:Nat}{bs:KZ}(hl:H l=none)(h1:H' l=some (.lst (bs.map V.ref)))(h2:ce H' bs xs)(h3:bs.length<=n)(sm:aD H H')(hp:H' p=none) :
  gH H (aE (aE H' p (.tup (x.map V.int))) l (.lst (bs.map V.ref++[V.ref p]))) l (xs++[x]) (n+1):=by
 have d:p≠l:=λe=>by rw[e,h1]at hp;cases hp
 refine⟨⟨bs++[p],?_,?_,by rw[Kf,q0Z];omega⟩,bE (bE sm (sm.free hp)) hl⟩
 ·rw[ag,J7];rfl
 ·refine ce.snoc (by rw[av d,ag]) ?_
  -- no tuple is the list
  have i:∀{b:KZ} {a:List Wn},ce H' b a->ce (aE (aE H' p (.tup (x.map V.int))) l (.lst (bs.map V.ref++[V.ref p]))) b a:=by
   intro b
   induction b with
   |nil=>intro a h;cases a with
    |nil=>trivial
    |cons _ _=>exact h.elim
   |cons c b ih=>
    intro a h;cases a with
    |nil=>exact h.elim
    |cons y a=>
     have g:c≠l:=nV h.1 h1 (by intro z;cases z);exact⟨by rw[av g,av (aJ h.1 hp)];exact h.1,ih h.2⟩
  exact i h2
theorem pQ{f:Addr}{fd:K1}(F:dw K "windows_of" "windows_of" gZ f fd)(nb:NB mg):bw P w K mg base bD 1 f fd ["rows","columns"] jo:=by
 have sc:=pT;walk_at "f"
 ·obtain⟨r,c,rfl,hr1,hc1,q⟩:=h
  refine⟨_,(ae (q01 2 sc.nd (bF ad))
   (ae (aY PassesOwn.never rfl (bH rfl nb.range (ac (ao 0) ad)) (q02 3 sc.nd)
   (ai (aY PassesOwn.never rfl (bH rfl nb.range (ac (ao 1) ad)) (q02 4 sc.nd)
   (ai (aY PassesOwn.never rfl (gQ rfl nb.range (ac (au (bd.m0 br) (ao 3) af) (ac (au (bd.m0 br) (ao 0) af) ad))) (q02 5 sc.nd)
   (ai (aY PassesOwn.never rfl (gQ rfl nb.range (ac (au (bd.m0 br) (ao 4) af) (ac (au (bd.m0 br) (ao 1) af) ad))) (q02 6 sc.nd)
   (ai (bi (q03 (ao 2) (ac (bZ (ac (ao 3) (ac (ao 4) (ac (ao 5) (ac (ao 6) ad))))) ad)))))))))))
   (ai (aO (ao 2))))),?_⟩
  walk_at "wp";refine⟨ay ⋯,λl x=>⟨⋯,⋯,?_⟩⟩;rw[J4];refine bz (lo:=0) (n:=r) (λt σ H1=>t<=r/\gH H H1 l (W1 r c t) (t*1000)/\∃j g d b,σ=[some (V.int r),some (V.int c),some (V.ref l),j,g,d,b])
   ⟨Kh _,⟨⟨[],ag,trivial,Kh _⟩,ar x⟩,_,_,_,_,rfl⟩ ?_ ?_
  ·rintro t σ H1 G ⟨_,D,j,g,d,b,rfl⟩
   walk_at "wp";refine⟨⋯,⋯,?_⟩;rw[J4];refine bz (lo:=0) (n:=c) (λa σ H2=>a<=c/\gH H H2 l (W1 r c t++W2 r c t a) (t*1000+a*100)/\∃g d b,σ=[some (V.int r),some (V.int c),some (V.ref l),some (V.int t),g,d,b])
    ⟨Kh _,by show gH H H1 l (W1 r c t++[]) _;rw[Ks];exact D.more ⋯,_,_,_,rfl⟩ ?_ ?_
   ·rintro a σ H2 v ⟨_,u,g,d,b,rfl⟩
    walk_at "wp";refine⟨⋯,⋯,⋯,⋯,?_⟩;rw[show((r:Int)+1-((t:Int)+1)).toNat=r-t by omega];refine bz (lo:=(t:Int)+1) (n:=r-t) (λbt σ i=>bt<=r-t/\gH H i l (W1 r c t++W2 r c t a++W3 c t a bt) (t*1000+a*100+bt*10)/\∃d b,σ=[some (V.int r),some (V.int c),some (V.ref l),some (V.int t),some (V.int a),d,b])
     ⟨Kh _,by show gH H H2 l (W1 r c t++W2 r c t a++[]) _;rw[Ks];exact u.more ⋯,_,_,rfl⟩ ?_ ?_
    ·rintro bt σ i y ⟨_,o,d,b,rfl⟩
     walk_at "wp";refine⟨⋯,⋯,⋯,⋯,?_⟩;rw[show((c:Int)+1-((a:Int)+1)).toNat=c-a by omega];refine bz (lo:=(a:Int)+1) (n:=c-a) (λk σ z=>k<=c-a/\gH H z l (W1 r c t++W2 r c t a++W3 c t a bt++W4 t a (t+1+bt) k) (t*1000+a*100+bt*10+k)/\∃b,σ=[some (V.int r),some (V.int c),some (V.ref l),some (V.int t),some (V.int a),some (V.int ((t:Int)+1+bt)),b])
      ⟨Kh _,by show gH H i l (W1 r c t++W2 r c t a++W3 c t a bt++[]) _;rw[Ks];exact o.more ⋯,_,rfl⟩ ?_ ?_
     ·rintro k σ z I ⟨_,m,b,rfl⟩
      obtain⟨⟨bs,h1,h2,C⟩,sm⟩:=m;walk_at "wp";refine⟨.inl ⟨rfl,_,aM.of h1⟩,ay ⋯,λp B=>⟨_,by rw[av (aJ h1 B)];exact h1,?_,I,?_⟩⟩
      ·rw[JW];exact aX ⋯
      ·rw[Dg,<- Kt]
       have e:[V.int (t:Int),V.int (a:Int),V.int ((t:Int)+1+(bt:Int)),V.int ((a:Int)+1+(k:Int))]=(wn t a (t+1+bt) (a+1+k)).map V.int:=by unfold wn;simp
       rw[e];exact gH.snoc x h1 h2 C sm B
     ·rintro σ z ⟨_,m,b,rfl⟩
      refine⟨y,?_,_,_,rfl⟩;rw[CL,<- Kt];exact m.more ⋯
    ·rintro σ i ⟨_,o,d,b,rfl⟩
     refine⟨v,?_,_,_,_,rfl⟩;rw[Cr,<- Kt];exact o.more ⋯
   ·rintro σ H2 ⟨_,u,g,d,b,rfl⟩
    refine⟨G,?_,_,_,_,_,rfl⟩;rw[CP];exact u.more ⋯
  ·rintro σ H1 ⟨_,⟨⟨bs,h1,h2,C⟩,sm⟩,j,g,d,b,rfl⟩
   walk_at "wp";exact q l bs H1 x h1 h2 sm
abbrev lG:Stmt:=fU 10
inductive Ab(K:W.Frag)(vs:List V)(H:Hp)(Q:VK)(_E:XK):Prop
 |mk (a tp:Addr) (p:aL) (r c t l b x:Nat) (_:vs=[.ref a,.ref tp]) (_:aM K H a (aq p)) (_:dZ K H tp ((wn t l b x).map V.int)) (_:rect p r c) (_:r<=64) (_:c<=64) (_:t<b) (_:b<=r) (_:l<x) (_:x<=c) (_:gG H (cut p t l b x) Q)
theorem vU:aH ["picture","window","top","left","bottom","right"] ["picture","window"] (aw lG):=by walk_at "c"
theorem zS{row:KU}{l x:Nat}(h1:l<=x)(h2:x<=row.length):Txt.slice (tx row) (some (l:Int)) (some (x:Int))=tx ((row.drop l).take (x-l)):=by
 rw[gD,HT.sIx_nat,HT.sIx_nat,KO (show l<=row.length by omega),KO h2]
theorem B1{p:aL}{t b:Nat}(h1:t<=b)(h2:b<=p.length):j8 (aq p) (some (t:Int)) (some (b:Int))=aq ((p.drop t).take (b-t)):=by
 unfold j8;rw[HT.sIx_nat,HT.sIx_nat,aj,KO (show t<=p.length by omega),KO h2];unfold aq;rw[List.map_take,List.map_drop]
theorem wC{f:Addr}{fd:K1}(F:dw K "cut_out" "cut_out" lG f fd)(nb:NB mg):bw P w K mg base bD 1 f fd ["picture","window"] (Ab K):=by
 have sc:=vU;walk_at "f"
 ·obtain⟨a,tp,p,r,c,t,l,b,x,rfl,L,o,G,hr1,hc1,h1,h2,h3,h4,q⟩:=h
  refine⟨_,(ae (q01 2 sc.nd (a_ bS (ao 1) af (λ_ _=>rfl)))
   (ae (aC (i:=3) sc.nd rfl (Or.inr rfl) (a_ bS (ao 1) af (λ_ _=>rfl)))
   (ae (q01 4 sc.nd (a_ bS (ao 1) af (λ_ _=>rfl)))
   (ae (aC (i:=5) sc.nd rfl (Or.inr rfl) (a_ bS (ao 1) af (λ_ _=>rfl)))
   (ai (aO (cU ["row"] [3,5] rfl (bQ.of (by kernel_rfl)) (by kernel_rfl) (bN (dy kq (ao 0) (cQ (ao 2)) (cQ (ao 4))))
    (λ_ _ _ _=>(aB (i:=0) (by show(["row","left","right"]:List Str).Nodup;decide +kernel) rfl (Or.inl rfl))) (λ_ _ _ _=>cw) (λ_ _ _ _=>(dy pp (ao 0) (cQ (ao 1)) (cQ (ao 2))))))))))),?_⟩
  walk_at "wp";refine⟨_,o,V.int t,bC (j:=0) rfl,_,o,V.int l,bC (j:=1) rfl,_,o,V.int b,bC (j:=2) rfl,_,o,V.int x,bC (j:=3) rfl,_,rfl,_,rfl,_,L,λC z=>⟨⟨_,aM.of ag⟩,?_⟩⟩;rw[B1 ⋯ (by rw[G.1];omega)];have D:∀row∈(p.drop t).take (b-t),row.length=c:=λrow e=>G.2 row (q0I (q0H e));have k:((p.drop t).take (b-t)).length<=64:=by rw[Kw];omega
  generalize B:(p.drop t).take (b-t)=q0 at D k ⊢;have sm:aD H (aE H C (HO.lst (aq q0))):=ar z;refine d9 (xs:=aq q0) (λi d σ g=>g=aE H C (HO.lst (aq q0))/\d=aq ((q0.take i).map λrow=>(row.drop l).take (x-l))/\i<=q0.length/\∃y,σ=[y,some (V.int l),some (V.int x)]) ⟨rfl,rfl,Kh _,_,rfl⟩ ?_ ?_ ?_ ?_ ?_
  ·rintro i d σ g ⟨_,rfl,J,_⟩
   rw[aj,JW,Kw];exact aX ⋯
  ·rintro i d σ g ⟨_,_,h,_⟩
   rw[aj];exact h
  ·rintro i d σ g ⟨rfl,_⟩
   exact aM.of ag
  ·rintro i v d σ g u ⟨rfl,rfl,J,y,rfl⟩
   have n:i<q0.length:=by have:=(JU.mp u).1;rwa [aj]at this
   rw[bc n]at u;cases u;have e:=D _ (J3 n);walk_at "wp";refine⟨by rw[ax];exact ay ⋯,?_,n⟩;rw[zS ⋯ ⋯,q0E,JT n,J7];exact(bX _ _).symm
  ·rintro d σ g ⟨rfl,rfl,_⟩ I m
   rw[aj,Kv];refine q I _ (sm.free m) ?_ (sm.trans (ar m));rw[ag];unfold cut;rw[B]
abbrev dN:Stmt:=fU 23
def xD(ss:K3):Prop:=ss≠[]/\(ss.headD ⟨#[]⟩).length<=64
inductive dE(K:W.Frag)(vs:List V)(H:Hp)(Q:VK)(_E:XK):Prop
 |mk (a:Addr) (ss:K3) (_:vs=[.ref a]) (_:aM K H a (ss.map V.str)) (_:xD ss) (_:∀t,H t=none->Q (.ref t) (aE H t (.tup [.int (gw ss),.ref a])))
theorem jB:aH ["picture"] ["picture"] (aw dN):=by walk_at "c"
theorem dG(K:W.Frag):∀l ss H Q E,aM K H l (ss.map V.str)->xD ss->(∀t,H t=none->Q (.ref t) (aE H t (.tup [.int (gw ss),.ref l])))->dE K [.ref l] H Q E:=λl ss H Q E h1 h2 h3=>⟨l,ss,rfl,h1,h2,h3⟩
theorem jH{f:Addr}{fd:K1}(F:dw K "cells_then_rows" "cells_then_rows" dN f fd)(nb:NB mg):bw P w K mg base bD 1 f fd ["picture"] (dE K):=by
 have sc:=jB;walk_at "f"
 ·obtain⟨a,c,rfl,b,e,q⟩:=h
  refine⟨_,(ai (aO (bZ (ac (au (bd.m1 eZ) (az aQ rfl nb.len aS (ac (ao 0) ad)) (az aW rfl nb.len aS (ac (a_ aU (ao 0) af (λ_ _=>rfl)) ad))) (ac (ao 0) ad))))),?_⟩;walk_at "wp";obtain⟨g,h1⟩:=e;obtain⟨z,c,rfl⟩:=List.exists_cons_of_ne_nil g;have h2:z.length<=64:=h1;have h3:((z.length:Nat):Int)<=64:=by omega
  refine⟨_,b,_,b,_,bC (j:=0) rfl,z,rfl,ay ⋯,.inr ⟨⋯,⋯⟩,ay ⋯,λp d=>?_⟩;have:=q p d;unfold gw at this;rw[JW];exact this
abbrev lL:Stmt:=fU 22
inductive jM(K:W.Frag)(vs:List V)(H:Hp)(Q:VK)(_E:XK):Prop
 |mk (a:Addr) (p:aL) (r c:Nat) (_:vs=[.ref a]) (_:aM K H a (aq p)) (_:rect p r c) (_:0<r) (_:0<c) (_:r<=6) (_:c<=6) (_:bG p) (_:∀(H':Hp) (l:Addr) (zs:List AP),aD H H'->H l=none->H' l=some (.lst (zs.map λz=>V.ref z.1))->(∀z∈zs,H z.1=none/\H' z.1=some (.lst (aq z.2)))->(zs.map (·.1)).Nodup->Fz p r c (zs.map (·.2))->zs.length<=8000->Q (.ref l) H')
theorem ce.dict{H:Hp}{d:Addr}{kvs:List (cP×V)}{o:HO}(hd:H d=some (.dK kvs)):∀{bs:KZ} {xs:List Wn},ce H bs xs->ce (aE H d o) bs xs
 | [],[],_=>trivial
 |_::_,_::_,h=>⟨by rw[av (nV h.1 hd (by intro e;cases e))];exact h.1,ce.dict hd h.2⟩
 | [],_::_,h=>h.elim
 |_::_,[],h=>h.elim
theorem xg:aH ["picture","found","window","part","t","seen"] ["picture"] (aw lL):=by walk_at "c"
theorem wq{f:Addr}{fd:K1}(F:dw K "seen_in" "seen_in" lL f fd)(nb:NB mg){tkT:Tok}(yak:mg "TURNINGS"=some (.int 8 tkT))(yaU:dF P w K mg base bD 1 "windows_of" ["rows","columns"] jo)(yaS:dF P w K mg base bD 1 "cut_out" ["picture","window"] (Ab K))(zka:dF P w K mg base bD 3 "turned" ["picture","t"] (i9 K))(yab:dF P w K mg base bD 1 "shown" ["picture"] (gL K))(yaL:dF P w K mg base bD 1 "cells_then_rows" ["picture"] (dE K)):bw P w K mg base bD 4 f fd ["picture"] (jM K):=by
 have sc:=xg;have dG:=dG K;walk_at "f"
 ·obtain⟨a,p,r,c,rfl,hS,hp,a9,d2,c4,d1,c5,q⟩:=h
  have hu:=hr.units;refine⟨_,(ae (q01 1 sc.nd oX)
   (ae (aY PassesOwn.never rfl (bN (q00 yaU hr (ac (az aQ rfl nb.len aS (ac (ao 0) ad)) (ac (az aW rfl nb.len aS (ac (a_ aU (ao 0) af (λ_ _=>rfl)) ad)) ad)))) (q02 2 sc.nd)
   (ae (q01 3 sc.nd (q00 yaS hr (ac (ao 0) (ac (ao 2) ad))))
   (ai (aY PassesOwn.never rfl (bH rfl nb.range (ac (dq (v:=.int 8) rfl yak ⟨_,rfl⟩) ad)) (q02 4 sc.nd)
   (ae (q01 5 sc.nd (q00 zka hr (ac (ao 3) (ac (ao 4) ad))))
   (ai (kf (KC (KH (by decide:1<=64) _) hu) (ao 1) (q00 yab hr (ac (ao 5) ad)) (ao 5) rfl)))))))
   (ai (aO (yC (hr.mono (by decide)) rfl rfl nb.sorted yaL rfl dG (ac (A4 (ao 1) rfl rfl) ad)))))),?_⟩
  walk_at "wp";intro d hd;have a0:aD H (aE H d (HO.dK [])):=ar hd;obtain⟨c6,L⟩:=cX hp a9;refine⟨_,a0.seq hS,_,a0.seq hS,_,bC (j:=0) (bc c6),_,rfl,by rw[ax,L];exact ay ⋯,?_⟩;rw[aj,hp.1,ax,L];refine⟨r,c,rfl,⋯,⋯,λwl bs H1 hwl J a8 a4=>?_⟩;have a1:=Cz a9 c4 d2 d1;have hlen:(jU r c).length<=1000:=by unfold check at a1;simp only[q0O,q0b]at a1;exact a1.2
  have d4:=a8.length;have a5:=a0.trans a4;refine⟨_,rfl,⟨_,aM.of J⟩,?_⟩
  -- the windows
  refine b5 (xs:=bs.map V.ref) (λi σ H2=>i<=bs.length/\(∃R,dD H H2 d (λx=>∃j,j<i/\∃u,u<8/\x=turned (C' p ((jU r c).getD j [])) u) R (8*i))/\H2 wl=some (.lst (bs.map V.ref))/\ce H2 bs (jU r c)/\∃x2 x3 U T,σ=[some (V.ref a),some (V.ref d),x2,x3,U,T]) ?_ ?_ ?_ ?_
  ·refine⟨Kh _,⟨[],?_⟩,J,a8,_,_,_,_,rfl⟩
   exact⟨by rw[a4 _ _ ag];rfl,a5,hd,(λz hz=>nomatch hz),List.nodup_nil,List.nodup_nil,λx=>by simp,Kh _⟩
  ·rintro i σ H2 _ ⟨_,_,h,_⟩
   exact aM.of h
  ·rintro i x σ H2 hx ⟨_,⟨R,S⟩,a2,C,x2,x3,U,T,rfl⟩
   rw[JY]at hx;cases G:bs[i]? with
   |none=>rw[G]at hx;cases hx
   |some bt=>
    rw[G]at hx;cases hx
    have hi:i<bs.length:=(JU.mp G).1;obtain⟨w0,a7,b4⟩:=C.get G;obtain⟨t,l,b,x,rfl,h1,h2,h3,h4⟩:=oQ.mp (JZ a7);walk_at "wp";refine⟨a,bt,p,r,c,t,l,b,x,rfl,S.sm.seq hS,dZ.of b4,hp,⋯,⋯,h1,h2,h3,h4,λpl H3 b1 b0 Z=>⟨⋯,?_⟩⟩;have b3:=cE hp h1 h2 h3 h4;have S3:=S.same Z;have b6:=Z _ _ a2;have c2:=C.same Z;have hpl0:=S.sm.free b1;clear S b1 a2 C b4;have eW:(jU r c).getD i []=wn t l b x:=by rw[q0A,a7];rfl
    have e8:Int.toNat 8=8:=rfl;rw[e8];refine bz (lo:=0) (n:=8) (λu σ H4=>(∃R,dD H H4 d (λy=>(∃j,j<i/\∃u,u<8/\y=turned (C' p ((jU r c).getD j [])) u)\/∃k,k<u/\y=turned (cut p t l b x) k) R (8*i+u))/\H4 pl=some (.lst (aq (cut p t l b x)))/\H4 wl=some (.lst (bs.map V.ref))/\ce H4 bs (jU r c)/\∃U T,σ=[some (V.ref a),some (V.ref d),some (V.ref bt),some (V.ref pl),U,T]) ?_ ?_ ?_
    ·exact⟨⟨R,S3.congr λy=>⟨.inl,λz=>z.elim id λ⟨k,c1,_⟩=>q0Q c1 (Nat.not_lt_zero _)⟩⟩,b0,b6,c2,_,_,rfl⟩
    ·rintro u σ H4 c0 ⟨⟨o,O⟩,D,B,a3,U,T,rfl⟩
     walk_at "wp";refine⟨pl,cut p t l b x,b-t,x-l,u,by simp,aM.of D,b3,⋯,⋯,⋯,⋯,c0,λbq H5 d3 M m=>?_⟩;obtain⟨o1,o2,r',c',o3,o4,o5,o6,o7⟩:=sV (u:=u) hp c5 h1 h2 h3 h4;have c3:eM (turned (cut p t l b x) u):=eM.of o3 ⋯ ⋯;have c9:((turned (cut p t l b x) u).headD []).length<=64:=by rw[bg o3 o4];omega
     obtain⟨e1,S5⟩:=O.step m d3 M o1 o2 c9;refine⟨bq,turned (cut p t l b x) u,rfl,M,c3,aE H5 d (.dK ((ke o (bq,turned (cut p t l b x) u)).map gy)),.inl ⟨o.map gy,_,m _ _ O.tbl,rfl,by rw[JW];exact aX (by have:=O.len;omega),by rw[e1]⟩,⟨_,S5.congr λy=>?_⟩,?_,?_,(a3.same m).dict (m _ _ O.tbl)⟩
     ·constructor
      ·rintro((z | ⟨k,I,g⟩) | z)
       ·exact .inl z
       ·exact .inr ⟨k,⋯,g⟩
       ·exact .inr ⟨u,⋯,z⟩
      ·rintro(z | ⟨k,I,g⟩)
       ·exact .inl (.inl z)
       ·by_cases hq:k=u
        ·exact .inr (by rw[g,hq])
        ·exact .inl (.inr ⟨k,⋯,g⟩)
     ·rw[av (nV D O.tbl (by intro e;cases e))];exact m _ _ D
     ·rw[av (nV B O.tbl (by intro e;cases e))];exact m _ _ B
    ·rintro σ H4 ⟨⟨o,O⟩,D,B,a3,U,T,rfl⟩
     refine⟨hi,⟨o,O.congr λy=>?_⟩,B,a3,_,_,_,_,rfl⟩
     constructor
     ·rintro(⟨j,I,g⟩ | ⟨k,I,g⟩)
      ·exact⟨j,⋯,g⟩
      ·exact⟨i,⋯,k,I,by rw[eW,mS];exact g⟩
     ·rintro⟨j,I,k,g,z3⟩
      by_cases hq:j=i
      ·rw[hq,eW,mS]at z3
       exact .inr ⟨k,g,z3⟩
      ·exact .inl ⟨j,⋯,k,g,z3⟩
  ·rintro σ H2 ⟨_,⟨R,S⟩,a2,C,x2,x3,U,T,rfl⟩
   walk_at "wp";refine⟨_,S.tbl,λv hv=>⟨d,ag,R.map Ej,?_,?_,?_⟩⟩
   ·rw[av (aJ S.tbl hv),S.tbl,J9];rfl
   ·intro e he
    obtain⟨z,hz,rfl⟩:=KF.mp he;obtain⟨I,g,z3,z4,z5⟩:=S.each z hz;refine⟨?_,?_,?_⟩
    ·refine aM.of ?_
     show aE H2 v (uK v d) z.1=some (.lst ((z.2.map tx).map V.str));rw[av (aJ g hv),g,fO]
    ·show z.2.map tx≠[]
     exact λe=>z3 (List.map_eq_nil_iff.mp e)
    ·show((z.2.map tx).headD ⟨#[]⟩).length<=64
     rw[xJ];exact z5
   ·intro es pe se H' l' a6 c7 b2
    obtain⟨ws,pw,rfl⟩:=uC pe _ rfl;have Y:aD H2 (aE H2 v (uK v d)):=ar hv;refine q H' l' ws (S.sm.trans (Y.trans a6)) (S.sm.free (Y.free c7)) ?_ ?_ ?_ ?_ (by have h1:=S.len;have h2:=pw.length_eq;rw[JW]at h1;omega)
    ·rw[b2,J9];rfl
    ·intro z hz
     obtain⟨I,g,_⟩:=S.each z (pw.mem_iff.mp hz);exact⟨I,a6 _ _ (Y _ _ g)⟩
    ·exact(pw.map _).nodup_iff.mpr S.nda
    ·refine⟨λy=>?_,zy se ((pw.map _).nodup_iff.mpr S.ndp)⟩
     rw[(pw.map _).mem_iff,S.mem,zx,JW,d4]
abbrev Ky:=List Nat×List Nat
def yD(k:Ky):List V:=[.str (tx k.1),.str (tx k.2)]
def iS(k:Ky):List cP:=[.inr (tx k.1),.inr (tx k.2)]
theorem tx_inj{a b:KU}(h:tx a=tx b):a=b:=by
 have e:(tx a).cps.toList=(tx b).cps.toList:=by rw[h]
 rwa [cV,cV]at e
theorem uT{a b:Ky}(h:iS a=iS b):a=b:=by
 obtain⟨a1,a2⟩:=a;obtain⟨b1,b2⟩:=b;unfold iS at h;simp only[List.cons.injEq,Sum.inr.injEq,and_true]at h;rw[tx_inj h.1,tx_inj h.2]
def bI(H:Hp)(a:Addr)(k:Ky):Prop:=H a=some (.tup (yD k))
theorem bI.up{H H':Hp}{a:Addr}{k:Ky}(h:bI H a k)(s:aD H H'):bI H' a k:=s _ _ h
theorem bI.put{H:Hp}{a l:Addr}{k:Ky}{xs:List V}{o:HO}(h:bI H a k)(hl:H l=some (.lst xs)):bI (aE H l o) a k:=by
 have b:H a=some (.tup (yD k)):=h;show aE H l o a=_;rw[av (λz=>by rw[z,hl]at b;cases b)];exact b
abbrev bM(p:aL):List Nat:=SpM.glue 47 p
theorem ye{β:Type}{A:Hp->Addr->β->Prop}(u:∀{H H':Hp} {b:Addr} {y:β},A H b y->aD H H'->A H' b y){H H':Hp}{l:Addr}{ys:List β}(h:kc A H l ys)(s:aD H H'):kc A H' l ys:=by
 obtain⟨bs,h1,h2⟩:=h;exact⟨bs,s _ _ h1,h2.mono λb y _ _ q=>u q s⟩
abbrev kt:Hp->Addr->List Ky->Prop:=kc bI
theorem sj{H H':Hp}{b:Addr}{y:List Ky}(h:kt H b y)(s:aD H H'):kt H' b y:=ye (A:=bI) bI.up h s
def b8(sb:Bool)(p:aL)(m:Nat):List Ky:=(List.range (m-1)).map λj=>(bM (qf sb p (j+1)),bM (kW sb p (j+1)))
def eV(CC:Addr)(H:Hp)(c:Addr)(p:aL):Prop:=∃dx lp lb la,H c=some (.ins CC dx [("picture",.ref lp),("text",.str (tx (bM p))),("beside_texts",.ref lb),("above_texts",.ref la)])/\H lp=some (.lst (aq p))/\kc bI H lb (b8 true p (p.headD []).length)/\kc bI H la (b8 false p p.length)
theorem eV.up{CC:Addr}{H H':Hp}{c:Addr}{p:aL}(h:eV CC H c p)(s:aD H H'):eV CC H' c p:=by
 obtain⟨i,a,b,d,h1,h2,g,e⟩:=h;exact⟨i,a,b,d,s _ _ h1,s _ _ h2,ye (A:=bI) bI.up g s,ye (A:=bI) bI.up e s⟩
def cj(r:Nat×RV)(p:aL):List (List Ky):=match r.1 with
 |0=>if bM p=r.2.sg then[[]] else[]
 |1=>(b8 true p (p.headD []).length).map λk=>[(k.1,r.2.o1),(k.2,r.2.o2)]
 |2=>(b8 false p p.length).map λk=>[(k.1,r.2.o1),(k.2,r.2.o2)]
 |_=>[[(bM (turned p (dP r.2.t.toNat)),r.2.o1)]]
def cv(T:Ky->Option Int):Int->List Ky->Option Int
 |c,[]=>some c
 |c,k::ks=>match T k with
  |none=>none
  |some v=>cv T (c+v) ks
def iK(H:Hp)(d:Addr)(T:Ky->Option Int):Prop:=∃kvs,H d=some (.dT kvs)/\∀k,dL kvs (iS k)=(T k).map V.int
theorem iK.up{H H':Hp}{d:Addr}{T:Ky->Option Int}(h:iK H d T)(s:aD H H'):iK H' d T:=let ⟨kvs,h1,h2⟩:=h;⟨kvs,s _ _ h1,h2⟩
theorem iK.get{H:Hp}{d b:Addr}{T:Ky->Option Int}{k:Ky}(h:iK H d T)(hb:bI H b k):my H d (.ref b) ((T k).map V.int):=by
 obtain⟨kvs,h1,h2⟩:=h;rw[<- h2 k];exact my.t h1 hb
structure iD(p:aL)(r c:Nat):Prop where
 rc:rect p r c
 r0:0<r
 r6:r<=6
 c0:0<c
 c6:c<=6
theorem iD.small{p:aL}{r c:Nat}(h:iD p r c):eM p:=eM.of h.rc (by have:=h.r6;omega) (by have:=h.c6;omega)
theorem sd{H:Hp}{a l C dx:Addr}{ks:List Ky}{fs:List (Str×V)}{o:HO}(h:kc bI H l ks)(ha:H a=some (.ins C dx fs)):kc bI (aE H a o) l ks:=by
 obtain⟨bs,h1,h2⟩:=h;exact⟨bs,by rw[av (λz=>by rw[z,ha]at h1;cases h1)];exact h1,h2.mono λb y _ _ q=>by
  have c:H b=some (.tup (yD y)):=q;show aE H a o b=_;rw[av (λz=>by rw[z,ha]at c;cases c)];exact c⟩
theorem b9{c:Prop}[Decidable c]{A B:Prop}(hA:c->A)(hB:¬ c->B):if c then A else B:=by
 by_cases h:c
 ·rw[q07 h];exact hA h
 ·rw[q06 h];exact hB h
abbrev fS:Stmt:=fU 26
inductive ip(K:W.Frag)(vs:List V)(H:Hp)(Q:VK)(_E:XK):Prop
 |mk (sb:Bool) (a:Addr) (p:aL) (r c m:Nat) (_:vs=[.ref a,.bl sb,.int (m:Int)]) (_:aM K H a (aq p)) (_:iD p r c) (_:m=(if sb=true then c else r)) (_:∀l H',H l=none->kc bI H' l (b8 sb p m)->aD H H'->Q (.ref l) H')
theorem mE:aH ["picture","side_by_side","many","texts","at","two"] ["picture","side_by_side","many"] (aw fS):=by walk_at "c"
theorem rN{sb:Bool}{p:aL}{r c n:Nat}(h:iD p r c):eM (qf sb p n)/\eM (kW sb p n):=by
 have:=h.small;cases sb with
 |true=>
  refine⟨⟨?_,λx a=>?_⟩,⟨?_,λx a=>?_⟩⟩
  ·show(p.map _).length<=_;rw[JW];exact this.1
  ·obtain⟨y,b,rfl⟩:=KF.mp a
   rw[Kw];exact Kn (Nat.min_le_right _ _) (this.2 y b)
  ·show(p.map _).length<=_;rw[JW];exact this.1
  ·obtain⟨y,b,rfl⟩:=KF.mp a
   rw[Kx];exact Kn (Nat.sub_le _ _) (this.2 y b)
 |false=>
  refine⟨⟨?_,λx a=>?_⟩,⟨?_,λx a=>?_⟩⟩
  ·show(p.take n).length<=_;rw[Kw];exact Kn (Nat.min_le_right _ _) this.1
  ·exact this.2 x (q0H a)
  ·show(p.drop n).length<=_;rw[Kx];exact Kn (Nat.sub_le _ _) this.1
  ·exact this.2 x (q0I a)
theorem mH{f:Addr}{fd:K1}(F:dw K "parted_texts" "parted_texts" fS f fd)(nb:NB mg)(yav:dF P w K mg base bD 1 "parted" ["picture","side_by_side","at"] (qy K))(yab:dF P w K mg base bD 1 "shown" ["picture"] (gL K)):bw P w K mg base bD 2 f fd ["picture","side_by_side","many"] (ip K):=by
 have sc:=mE;walk_at "f"
 ·obtain⟨sb,a,p,r,c,m,rfl,Y,e,R,q⟩:=h
  have:=e.r6;have:=e.c6;have:=e.r0;have:=e.c0;have m1:1<=m/\m<=6:=by rw[R];split<;>omega
  refine⟨_,(ae (q01 3 sc.nd (bF ad))
   (ae (aY PassesOwn.never rfl (gQ rfl nb.range (b_ (ac (ao 2) ad))) (q02 4 sc.nd)
   (ae (q01 5 sc.nd (q00 yav hr (ac (ao 0) (ac (ao 1) (ac (ao 4) ad)))))
   (ai (bi (q03 (ao 3) (ac (bZ (ac (q00 yab hr (ac (a_ bS (ao 5) af (λ_ _=>rfl)) ad)) (ac (q00 yab hr (ac (a_ bS (ao 5) af (λ_ _=>rfl)) ad)) ad))) ad))))))
   (ai (aO (ao 3))))),?_⟩
  walk_at "n";refine⟨Kh _,λl I=>h1 _ _ ?_⟩;clear h1;generalize u:aE H l _=H1;obtain⟨S,Z⟩:=dY I u;walk_at "n";rw[show((m:Int)-1).toNat=m-1 by omega];refine⟨by decide,⋯,⋯,?_⟩;refine bz (lo:=1) (n:=m-1) (λi σ g=>aD H g/\i<=m-1/\(∃bs:List Addr,g l=some (.lst (bs.map V.ref))/\bu bI g bs ((List.range i).map λj=>(bM (qf sb p (j+1)),bM (kW sb p (j+1)))))/\∃x y,σ=[some (V.ref a),some (V.bl sb),some (V.int (m:Int)),some (V.ref l),x,y]) ⟨S,Kh _,⟨[],Z,bu.nil⟩,_,_,rfl⟩ ?_ ?_
  ·rintro i σ g hi ⟨sm,_,⟨bs,L,o⟩,x,y,rfl⟩
   walk_at "n";refine⟨sb,a,p,r,c,i+1,by push_cast;rw[Int.add_comm],sm.seq Y,e.rc,⋯,⋯,by rw[<- R];omega,λt U T H2 ht hl1 hl2 hne et O M D=>h1 _ _ ?_⟩;clear h1;obtain⟨B,z⟩:=rN (sb:=sb) (n:=i+1) e;walk_at "wp";have k:=D _ _ L;refine⟨.inl ⟨rfl,_,aM.of k⟩,_,dZ.of et,_,rfl,U,qf sb p (i+1),rfl,O,B,_,dZ.of et,_,rfl,T,kW sb p (i+1),rfl,M,z,ay (by decide),λv G=>?_⟩;generalize u:aE H2 v _=H3;obtain⟨C,(e3:bI H3 v (bM (qf sb p (i+1)),bM (kW sb p (i+1))))⟩:=dY G u;have d:=C _ _ k;have J:=o.1;rw[JW,q0J]at J;refine⟨_,d,by rw[JW];exact aX ⋯,bE ((sm.trans D).trans C) I,⋯,bs++[v],by rw[ag,J7];rfl,?_⟩;rw[q0M,J7];exact(o.mono λb y _ _ h=>((h.up D).up C).put d).snoc (e3.put d)
  ·rintro σ g ⟨sm,_,⟨bs,L,o⟩,x,y,rfl⟩
   refine h1 _ _ ?_;walk_at "wp";exact q l g I ⟨bs,L,o⟩ sm
abbrev gn:Stmt:=je 25 0
def DN(K:W.Frag)(C:Addr):Prop:=aI K C "picture"/\aI K C "text"/\aI K C "beside_texts"/\aI K C "above_texts"
inductive hV(K:W.Frag)(vs:List V)(H:Hp)(Q:VK)(_E:XK):Prop
 |mk (a C dx b:Addr) (p:aL) (r c:Nat) (_:vs=[.ref a,.ref b]) (_:H a=some (.ins C dx [])) (_:jx K C) (_:DN K C) (_:H b=some (.lst (aq p))) (_:iD p r c) (_:∀H',eV C H' a p->bj a H H'->Q .non H')
theorem rJ:aH ["self","picture"] ["self","picture"] (aw gn):=by walk_at "c"
theorem rp{f:Addr}{fd:K1}(F:dw K "__init__" "Cuts.__init__" gn f fd)(nb:NB mg)(yab:dF P w K mg base bD 1 "shown" ["picture"] (gL K))(yao:dF P w K mg base bD 2 "parted_texts" ["picture","side_by_side","many"] (ip K)):bw P w K mg base bD 3 f fd ["self","picture"] (hV K):=by
 have sc:=rJ;walk_at "f"
 ·obtain⟨a,C,d,b,p,r,c,rfl,R,G,⟨n1,n2,n3,n4⟩,n,i,q⟩:=h
  refine⟨_,(ae (c_ (ao 0) (cG bY rfl nb.list du (ac (ao 1) ad)) rfl)
   (ae (c_ (ao 0) (q00 yab hr (ac (ao 1) ad)) rfl)
   (ae (c_ (ao 0) (q00 yao hr (ac (ao 1) (ac iG (ac (az aW rfl nb.len aS (ac (a_ aU (ao 1) af (λ_ _=>rfl)) ad)) ad)))) rfl)
   (ai (c_ (ao 0) (q00 yao hr (ac (ao 1) (ac iG (ac (az aQ rfl nb.len aS (ac (ao 1) ad)) ad)))) rfl))))),?_⟩
  walk_at "n";refine⟨_,.inl (aM.of n),λl z=>⟨C,d,_,ar z _ _ R,G,n1,by decide,h1 _ _ ?_⟩⟩;clear h1;have j:l≠a:=λe=>by rw[e,R]at z;cases z
  have k:b≠a:=λe=>by rw[e,R]at n;cases n
  have L:bj a H (aE (aE H l (.lst (aq p))) a (.ins C d [("picture",.ref l)])):=(bj.of (ar z)).put;have e1:aE (aE H l (.lst (aq p))) a (.ins C d [("picture",.ref l)]) a=some (.ins C d [("picture",.ref l)]):=ag;have l1:aE (aE H l (.lst (aq p))) a (.ins C d [("picture",.ref l)]) l=some (.lst (aq p)):=by rw[av j,ag]
  change zA _ _ _ _ (aE (aE H l (.lst (aq p))) a (.ins C d [("picture",.ref l)]));generalize aE (aE H l (.lst (aq p))) a (.ins C d [("picture",.ref l)])=H1 at L e1 l1 ⊢;have b1:=L _ _ k n;have d1:¬ (("picture":Str)="text"):=by decide +kernel
  have d2:¬ (("picture":Str)="beside_texts"):=by decide +kernel
  have d3:¬ (("picture":Str)="above_texts"):=by decide +kernel
  have d4:¬ (("text":Str)="beside_texts"):=by decide +kernel
  have d5:¬ (("text":Str)="above_texts"):=by decide +kernel
  have d6:¬ (("beside_texts":Str)="above_texts"):=by decide +kernel
  have U:cO "text" (V.str (tx (bM p))) [(("picture":Str),V.ref l)]=[(("picture":Str),V.ref l),(("text":Str),V.str (tx (bM p)))]:=by simp only[cO,q06 d1]
  walk_at "n";refine⟨b,p,rfl,b1,i.small,C,d,_,e1,G,n2,by simp,?_⟩;rw[U];refine h1 _ _ ?_;clear h1;have J:bj a H (aE H1 a (.ins C d [("picture",.ref l),("text",.str (tx (bM p)))])):=L.put;have D:aE H1 a (.ins C d [("picture",.ref l),("text",.str (tx (bM p)))]) a=some (.ins C d [("picture",.ref l),("text",.str (tx (bM p)))]):=ag;have Z:aE H1 a (.ins C d [("picture",.ref l),("text",.str (tx (bM p)))]) l=some (.lst (aq p)):=by rw[av j];exact l1
  generalize aE H1 a (.ins C d [("picture",.ref l),("text",.str (tx (bM p)))])=H2 at J D Z ⊢;have b2:=J _ _ k n;have:=i.r6;have:=i.c6;obtain⟨O,o⟩:=cX i.rc i.r0;walk_at "n";refine⟨_,aM.of b2,_,(show iz _ ((0:Nat):Int)=_ from bC (bc O)),_,rfl,by rw[ax];exact ay ⋯,?_⟩;rw[ax,o];refine⟨true,b,p,r,c,c,rfl,aM.of b2,i,rfl,λg x u eb y=>⟨C,d,_,y _ _ D,G,n3,by simp,?_⟩⟩;have hbl:g≠a:=λe=>by rw[e,D]at u;cases u
  have T:cO "beside_texts" (V.ref g) [(("picture":Str),V.ref l),(("text":Str),V.str (tx (bM p)))]=[(("picture":Str),V.ref l),(("text":Str),V.str (tx (bM p))),(("beside_texts":Str),V.ref g)]:=by simp only[cO,q06 d2,q06 d4]
  rw[T];refine h1 _ _ ?_;clear h1;have I:bj a H (aE x a (.ins C d [("picture",.ref l),("text",.str (tx (bM p))),("beside_texts",.ref g)])):=(J.then y).put;have B:aE x a (.ins C d [("picture",.ref l),("text",.str (tx (bM p))),("beside_texts",.ref g)]) a=some (.ins C d [("picture",.ref l),("text",.str (tx (bM p))),("beside_texts",.ref g)]):=ag;have Y:aE x a (.ins C d [("picture",.ref l),("text",.str (tx (bM p))),("beside_texts",.ref g)]) l=some (.lst (aq p)):=by rw[av j];exact y _ _ Z
  have v:kc bI (aE x a (.ins C d [("picture",.ref l),("text",.str (tx (bM p))),("beside_texts",.ref g)])) g (b8 true p c):=sd eb (y _ _ D);generalize aE x a (.ins C d [("picture",.ref l),("text",.str (tx (bM p))),("beside_texts",.ref g)])=H4 at I B Y v ⊢;have b3:=I _ _ k n;walk_at "wp";refine⟨_,aM.of b3,?_⟩;rw[aj,i.rc.1];refine⟨false,b,p,r,c,r,rfl,aM.of b3,i,rfl,λM H5 hla5 ea m=>⟨C,d,_,m _ _ B,G,n4,by simp,?_⟩⟩;have S:cO "above_texts" (V.ref M) [(("picture":Str),V.ref l),(("text":Str),V.str (tx (bM p))),(("beside_texts":Str),V.ref g)]=[(("picture":Str),V.ref l),(("text":Str),V.str (tx (bM p))),(("beside_texts":Str),V.ref g),(("above_texts":Str),V.ref M)]:=by simp only[cO,q06 d3,q06 d5,q06 d6]
  rw[S];refine q _ ⟨d,l,g,M,ag,by rw[av j];exact m _ _ Y,?_,?_⟩ ((I.then m).put)
  ·rw[bg i.rc i.r0]
   exact sd (ye (A:=bI) bI.up v m) (m _ _ B)
  ·rw[i.rc.1]
   exact sd ea (m _ _ B)
abbrev eG:Stmt:=je 25 1
inductive fF(CC:Addr)(vs:List V)(H:Hp)(Q:VK)(_E:XK):Prop
 |mk (a:Addr) (p:aL) (r c t:Nat) (_:vs=[.ref a,.int (t:Int)]) (_:eV CC H a p) (_:iD p r c) (_:t<8) (_:∀H',aD H H'->Q (.str (tx (bM (turned p t)))) H')
theorem pF:aH ["self","t"] ["self","t"] (aw eG):=by walk_at "c"
theorem iD.turned{p:aL}{r c:Nat}(h:iD p r c)(t:Nat):∃r' c',iD (turned p t) r' c':=by
 have:=cT h.rc h.r0 h.c0 t;have h1:=h.r0;have h2:=h.c0;have h3:=h.r6;have h4:=h.c6;exact⟨_,_,this,by split<;>omega,by split<;>omega,by split<;>omega,by split<;>omega⟩
theorem nM{f CC:Addr}{fd:K1}(F:dw K "turned_text" "Cuts.turned_text" eG f fd)(nb:NB mg)(cl:jx K CC)(na:DN K CC)(zka:dF P w K mg base bD 3 "turned" ["picture","t"] (i9 K))(yab:dF P w K mg base bD 1 "shown" ["picture"] (gL K)):bw P w K mg base bD 4 f fd ["self","t"] (fF CC):=by
 have sc:=pF;walk_at "f"
 ·obtain⟨a,p,r,c,t,rfl,⟨n,g,lb,la,k,j,_,_⟩,b,i,q⟩:=h
  refine⟨_,(ai (aO (q00 yab hr (ac (q00 zka hr (ac (cH (ao 0) rfl) (ac (ao 1) ad))) ad)))),?_⟩;have:=b.r6;have:=b.c6;obtain⟨r',c',d⟩:=b.turned t;walk_at "wp";refine⟨CC,n,_,k,cl,na.1,_,rfl,g,p,r,c,t,rfl,aM.of j,b.rc,b.r0,b.c0,⋯,⋯,i,λl H1 hl m e=>⟨l,turned p t,rfl,m,d.small,q H1 e⟩⟩
def ow(H0 H:Hp)(b:Addr)(y:List Ky):Prop:=H0 b=none/\kt H b y
theorem ow.up{H0 H H':Hp}{b:Addr}{y:List Ky}(h:ow H0 H b y)(s:aD H H'):ow H0 H' b y:=⟨h.1,sj h.2 s⟩
inductive dA(CC C:Addr)(t:Nat)(vs:List V)(H:Hp)(Q:VK)(_E:XK):Prop
 |mk (a dx lp cu:Addr) (v:RV) (p:aL) (r c:Nat) (_:vs=[.ref a,.ref cu]) (_:H a=some (.ins C dx (rE t lp v))) (_:eV CC H cu p) (_:iD p r c) (_:0<=v.t) (_:v.t<=7) (_:∀l H',H l=none->kc (ow H) H' l (cj (t,v) p)->aD H H'->Q (.ref l) H')
abbrev fY:Stmt:=je 36 4
theorem sL:aH ["self","cuts"] ["self","cuts"] (aw fY):=by walk_at "c"
theorem tE{f CC C:Addr}{fd:K1}(F:dw K "ways" "CellRule.ways" fY f fd)(cc:jx K CC)(nc:DN K CC)(cl:jx K C)(na:aI K C "sign"):bw P w K mg base bD 1 f fd ["self","cuts"] (dA CC C 0):=by
 have sc:=sL;walk_at "f"
 ·obtain⟨a,k,lp,cu,v,p,r,c,rfl,j,⟨l,b,l2,l3,i,_,_,_⟩,hp,t0,t7,q⟩:=h
  refine⟨_,(ai (aO (AU (aT dQ (cH (ao 1) rfl) (cH (ao 0) rfl) (bf _)) (bF (ac (bF ad) ad)) (bF ad)))),?_⟩;walk_at "wp";refine⟨CC,l,_,i,cc,nc.2.1,_,rfl,C,k,_,j,cl,na,_,rfl,rfl,?_⟩;refine b9 (λe=>?_) (λe=>?_)
  ·rw[show cj (0,v) p=[[]] from q07 (tx_inj (V.str.inj e))]at q
   exact⟨Kh _,λg d=>⟨ay (by decide),λb h1=>q b _ ((ar d).free h1) ⟨[g],ag,bu.one ⟨d,[],ar h1 _ _ ag,bu.nil⟩⟩ ((ar d).trans (ar h1))⟩⟩
  ·rw[show cj (0,v) p=[] from q06 λh=>e (by rw[h])]at q
   exact⟨Kh _,λb h1=>q b _ h1 ⟨[],ag,bu.nil⟩ (ar h1)⟩
abbrev eF:Stmt:=je 37 4
theorem nE:aH ["self","cuts"] ["self","cuts"] (aw eF):=by walk_at "c"
theorem nZ{f CC C:Addr}{fd:K1}(F:dw K "ways" "BesideRule.ways" eF f fd)(cc:jx K CC)(nc:DN K CC)(cl:jx K C)(na:aI K C "one"/\aI K C "other"):bw P w K mg base bD 1 f fd ["self","cuts"] (dA CC C 1):=by
 have sc:=nE;walk_at "f"
 ·obtain⟨a,U,lp,cu,v,p,r,c,rfl,ha,⟨dc,l1,l2,l3,hc,_,⟨bs,T,M⟩,_⟩,I,t0,t7,q⟩:=h
  have hu:=hr.units;refine⟨_,(ai (aO (cU ["first","second"] [0] rfl (bQ.of (by kernel_rfl)) (by kernel_rfl) (bN (cH (ao 1) rfl))
    (λ_ _ _ _=>(m7 (K:=K) (n:=2) rfl rfl (bp (aB (i:=0) (by show(["first","second","self"]:List Str).Nodup;decide +kernel) rfl (Or.inl rfl)) (bp (aB (i:=1) (by show(["first","second","self"]:List Str).Nodup;decide +kernel) rfl (Or.inl rfl)) dB)))) (λ_ _ _ _=>cw) (λ_ _ _ _=>(bF (ac (bZ (ac (ao 0) (ac (m9 (K:=K) rfl (ao 2) rfl) ad))) (ac (bZ (ac (ao 1) (ac (m9 (K:=K) rfl (ao 2) rfl) ad))) ad))))))),?_⟩
  walk_at "wp";refine⟨CC,dc,_,hc,cc,nc.2.2.1,_,rfl,_,rfl,⟨_,aM.of T⟩,?_⟩;have j:(bs.zip (b8 true p (p.headD []).length)).length=(cj (1,v) p).length:=by
   show _=((b8 true p (p.headD []).length).map _).length;rw[q0N,M.1,JW,Nat.min_self]
  have hpl:(b8 true p (p.headD []).length).length<=6:=by
   unfold b8;rw[JW,q0J,bg I.rc I.r0];have:=I.c6;omega
  refine nY (ow H) ow.up (as:=bs.zip (b8 true p (p.headD []).length)) (emb:=λx=>V.ref x.1) (ys:=cj (1,v) p) j (λσ=>∃x y,σ=[x,y,some (V.ref a)]) ⟨_,_,rfl⟩ (λO s=>by rw[<- M.zip];exact aM.of (s _ _ T)) (by rw[q0N];omega) ?_ ?_
  ·rintro i ⟨b,k⟩ y hx hy σ O N1 N0 ⟨x0,y0,rfl⟩ sm k1
   obtain⟨J,L⟩:=M.at hx;have J:(b8 true p (p.headD []).length)[i]?=some k:=J;have g:((b8 true p (p.headD []).length).map λk=>[(k.1,v.o1),(k.2,v.o2)])[i]?=some y:=hy;rw[JY,J]at g;cases g;walk_at "wp";have Y:=sm _ _ ha;refine⟨_,dZ.of (sm _ _ L),rfl,_,_,rfl,_,_,rfl,rfl,C,U,_,Y,cl,na.1,_,rfl,ay (by decide),λu G=>?_⟩;generalize B:aE O u _=H1;obtain⟨S,(e1:bI H1 u (k.1,v.o1))⟩:=dY G B;refine⟨C,U,_,S _ _ Y,cl,na.2,_,rfl,ay (by decide),λm D=>⟨ay (by decide),λl e=>?_⟩⟩;generalize B:aE H1 m _=H2 at e ⊢;obtain⟨R,(e2:bI H2 m (k.2,v.o2))⟩:=dY D B;have z:=ar (o:=.lst [V.ref u,V.ref m]) e;have d:=S.trans R;exact k1 l _ _ ⟨sm.free (d.free e),[u,m],ag,bu.two ((e1.up R).up z) (e2.up z)⟩ (sm.trans (d.trans z)) (d.trans z) ⟨_,_,rfl⟩
  ·intro Z O sm hW l e
   exact q l _ (sm.free e) ⟨Z,ag,hW.mono λb y _ _ h=>ow.up h (ar e)⟩ (sm.trans (ar e))
abbrev fj:Stmt:=je 38 4
theorem pK:aH ["self","cuts"] ["self","cuts"] (aw fj):=by walk_at "c"
theorem pY{f CC C:Addr}{fd:K1}(F:dw K "ways" "AboveRule.ways" fj f fd)(cc:jx K CC)(nc:DN K CC)(cl:jx K C)(na:aI K C "one"/\aI K C "other"):bw P w K mg base bD 1 f fd ["self","cuts"] (dA CC C 2):=by
 have sc:=pK;walk_at "f"
 ·obtain⟨a,U,lp,cu,v,p,r,c,rfl,ha,⟨dc,l1,l2,l3,hc,_,_,⟨bs,T,L⟩⟩,S,t0,t7,q⟩:=h
  have hu:=hr.units;refine⟨_,(ai (aO (cU ["first","second"] [0] rfl (bQ.of (by kernel_rfl)) (by kernel_rfl) (bN (cH (ao 1) rfl))
    (λ_ _ _ _=>(m7 (K:=K) (n:=2) rfl rfl (bp (aB (i:=0) (by show(["first","second","self"]:List Str).Nodup;decide +kernel) rfl (Or.inl rfl)) (bp (aB (i:=1) (by show(["first","second","self"]:List Str).Nodup;decide +kernel) rfl (Or.inl rfl)) dB)))) (λ_ _ _ _=>cw) (λ_ _ _ _=>(bF (ac (bZ (ac (ao 0) (ac (m9 (K:=K) rfl (ao 2) rfl) ad))) (ac (bZ (ac (ao 1) (ac (m9 (K:=K) rfl (ao 2) rfl) ad))) ad))))))),?_⟩
  walk_at "wp";refine⟨CC,dc,_,hc,cc,nc.2.2.2,_,rfl,_,rfl,⟨_,aM.of T⟩,?_⟩;have j:(bs.zip (b8 false p p.length)).length=(cj (2,v) p).length:=by
   show _=((b8 false p p.length).map _).length;rw[q0N,L.1,JW,Nat.min_self]
  have hpl:(b8 false p p.length).length<=6:=by
   unfold b8;rw[JW,q0J,S.rc.1];have:=S.r6;omega
  refine nY (ow H) ow.up (as:=bs.zip (b8 false p p.length)) (emb:=λx=>V.ref x.1) (ys:=cj (2,v) p) j (λσ=>∃x y,σ=[x,y,some (V.ref a)]) ⟨_,_,rfl⟩ (λM s=>by rw[<- L.zip];exact aM.of (s _ _ T)) (by rw[q0N];omega) ?_ ?_
  ·rintro i ⟨b,k⟩ y hx hy σ M N1 N0 ⟨x0,y0,rfl⟩ sm k1
   obtain⟨I,J⟩:=L.at hx;have I:(b8 false p p.length)[i]?=some k:=I;have g:((b8 false p p.length).map λk=>[(k.1,v.o1),(k.2,v.o2)])[i]?=some y:=hy;rw[JY,I]at g;cases g;walk_at "wp";have Y:=sm _ _ ha;refine⟨_,dZ.of (sm _ _ J),rfl,_,_,rfl,_,_,rfl,rfl,C,U,_,Y,cl,na.1,_,rfl,ay (by decide),λu G=>?_⟩;generalize B:aE M u _=H1;obtain⟨R,(e1:bI H1 u (k.1,v.o1))⟩:=dY G B;refine⟨C,U,_,R _ _ Y,cl,na.2,_,rfl,ay (by decide),λm D=>⟨ay (by decide),λl e=>?_⟩⟩;generalize B:aE H1 m _=H2 at e ⊢;obtain⟨O,(e2:bI H2 m (k.2,v.o2))⟩:=dY D B;have z:=ar (o:=.lst [V.ref u,V.ref m]) e;have d:=R.trans O;exact k1 l _ _ ⟨sm.free (d.free e),[u,m],ag,bu.two ((e1.up O).up z) (e2.up z)⟩ (sm.trans (d.trans z)) (d.trans z) ⟨_,_,rfl⟩
  ·intro Z M sm hW l e
   exact q l _ (sm.free e) ⟨Z,ag,hW.mono λb y _ _ h=>ow.up h (ar e)⟩ (sm.trans (ar e))
abbrev fW:Stmt:=je 39 4
theorem tH:aH ["self","cuts"] ["self","cuts"] (aw fW):=by walk_at "c"
theorem tf{f CC C:Addr}{fd:K1}(F:dw K "ways" "TurnRule.ways" fW f fd)(cc:jl K CC)(cl:jx K C)(na:aI K C "part"/\aI K C "turning")(zIa:ji P w K mg base bD 4 CC "turned_text" ["self","t"] (fF CC))(yax:dF P w K mg base bD 1 "back" ["t"] xP):bw P w K mg base bD 5 f fd ["self","cuts"] (dA CC C 3):=by
 have sc:=tH;walk_at "f"
 ·obtain⟨a,B,lp,M,v,p,r,c,rfl,y,z,G,D,t7,q⟩:=h
  refine⟨_,(ai (aO (bF (ac (bF (ac (bZ (ac (sH zIa (hr.mono (by decide)) aK (ao 1) (ac (q00 yax hr (ac (cH (ao 0) rfl) ad)) ad)) (ac (cH (ao 0) rfl) ad))) ad)) ad)))),?_⟩;walk_at "wp";obtain⟨L,g,x,l3,I,hr1⟩:=id z;refine⟨L,_,I,rfl,C,B,_,y,cl,na.2,_,rfl,v.t.toNat,?_,⋯,?_⟩
  ·rw[KN D]
  have u:dP v.t.toNat<8:=(by decide:∀t,t<8->dP t<8) _ ⋯;refine⟨M,p,r,c,dP v.t.toNat,rfl,z,G,u,λH1 e=>⟨C,B,_,e _ _ y,cl,na.1,_,rfl,ay (by decide),λj n=>⟨ay (by decide),λg d=>⟨ay (by decide),λx b=>?_⟩⟩⟩⟩;generalize i:aE H1 j _=H2 at d b ⊢;obtain⟨m,(e2:bI H2 j (bM (turned p (dP v.t.toNat)),v.o1))⟩:=dY n i;generalize i:aE H2 g _=H3 at b ⊢;obtain⟨l,J⟩:=dY d i;have k:=ar (o:=.lst [V.ref g]) b;exact q x _ (e.free (m.free (l.free b))) ⟨[g],ag,bu.one ⟨e.free (m.free d),[j],k _ _ J,bu.one ((e2.up l).up k)⟩⟩ (e.trans (m.trans (l.trans k)))
def oW(R:RC)(CC:Addr):List (Addr×Sp):=[(R.cc,dA CC R.cc 0),(R.cb,dA CC R.cb 1),(R.ca,dA CC R.ca 2),(R.ct,dA CC R.ct 3)]
theorem BT{R:RC}{CC:Addr}{H:Hp}{k a cu:Addr}{v:RV}{p:aL}{r c:Nat}{Q:VK}{E:XK}(hk:k<4)(ra:gx R H k a v)(hC:eV CC H cu p)(hp:iD p r c)(t0:0<=v.t)(t7:v.t<=7)(q:∀l H',H l=none->kc (ow H) H' l (cj (k,v) p)->aD H H'->Q (.ref l) H') :
  ∃o∈oW R CC,∃dx fs,H a=some (.ins o.1 dx fs)/\fs.lookup ("ways":Str)=none/\o.2 [.ref a,.ref cu] H Q E:=by
 obtain⟨dx,l,h1,h2⟩:=ra;rcases gY hk with rfl | rfl | rfl | rfl
 ·exact⟨(R.cc,dA CC R.cc 0),by simp[oW],dx,_,h1,rfl,a,dx,l,cu,v,p,r,c,rfl,h1,hC,hp,t0,t7,q⟩
 ·exact⟨(R.cb,dA CC R.cb 1),by simp[oW],dx,_,h1,rfl,a,dx,l,cu,v,p,r,c,rfl,h1,hC,hp,t0,t7,q⟩
 ·exact⟨(R.ca,dA CC R.ca 2),by simp[oW],dx,_,h1,rfl,a,dx,l,cu,v,p,r,c,rfl,h1,hC,hp,t0,t7,q⟩
 ·exact⟨(R.ct,dA CC R.ct 3),by simp[oW],dx,_,h1,rfl,a,dx,l,cu,v,p,r,c,rfl,h1,hC,hp,t0,t7,q⟩
abbrev kY:Stmt:=fU 27
def Fx:Option Int->V
 |some c=>.int c
 |none=>.non
inductive oh(R:RC)(vs:List V)(H:Hp)(Q:VK)(_E:XK):Prop
 |mk (a lw d:Addr) (k:Nat) (v:RV) (way:List Ky) (T:Ky->Option Int) (_:vs=[.ref a,.ref lw,.ref d]) (_:gx R H k a v) (_:kt H lw way) (_:iK H d T) (_:Q (Fx (cv T v.c way)) H)
theorem vF:aH ["rule","way","told","cost","key"] ["rule","way","told"] (aw kY):=by walk_at "c"
theorem wP{R:RC}{f:Addr}{fd:K1}(F:dw K "cost_by" "cost_by" kY f fd)(nb:NB mg)(rk:lC K R):bw P w K mg base bD 1 f fd ["rule","way","told"] (oh R):=by
 have sc:=vF;walk_at "f"
 ·obtain⟨a,J,d,k,v,e,T,rfl,⟨rdx,I,n,_⟩,⟨bs,C,D⟩,O,q⟩:=h
  have B:=hr.units;refine⟨_,(ae (q01 3 sc.nd (cH (ao 0) rfl))
   (ae (aY PassesOwn.never rfl (bN (ao 1)) (q02 4 sc.nd)
   (ae (bT (oy (qY (KC (KH (by decide:1<=64) _) B) (ao 4) (ao 2)) (by with_unfolding_all rfl))
   (ai (aO ly))
   bh)
   (ai (q01 3 sc.nd (au (bd.m0 br) (ao 3) (kh (KC (KH (by decide:1<=64) _) B) (ao 2) (ao 4) (λ_ _=>rfl)))))))
   (ai (aO (ao 3))))),?_⟩
  walk_at "n";refine⟨_,_,_,n,(rk.icls k).cl,(rk.name k).2.1,_,(iX I v k).2.1,h1 _ _ ?_⟩;walk_at "nc";refine⟨⟨_,aM.of C⟩,?_⟩;refine b5 (xs:=bs.map V.ref) (λi σ m=>m=H/\i<=e.length/\∃(c:Int) (x:Option V),cv T v.c e=cv T c (e.drop i)/\σ=[some (V.ref a),some (V.ref J),some (V.ref d),some (V.int c),x]) ⟨rfl,Kh _,v.c,_,rfl,rfl⟩ (λi σ m _ h=>by rw[h.1];exact aM.of C) ?_ ?_
  ·rintro i x σ m z ⟨rfl,L,c,G,j,rfl⟩
   rw[JY]at z;obtain⟨b,y,rfl⟩:=Kk.mp z;obtain⟨g,p,o⟩:=D.get y;have j3:=(JU.mp p).1;have M:e.drop i=g::e.drop (i+1):=by
    rw[q0T j3];rw[JT j3]at p;cases p;rfl
   rw[M,show cv T c (g::e.drop (i+1))=(match T g with | none=>none | some v=>cv T (c+v) (e.drop (i+1))) from rfl]at j;have r:=O.get o;walk_at "n";refine⟨_,r,?_⟩;cases l:T g with
   |none=>
    rw[l]at j;rw[q07 (by rfl)];rw[show cv T v.c e=none from j]at q;exact q
   |some u=>
    rw[l]at j r;rw[q06 (by simp)];refine h1 _ _ ?_;clear h1;walk_at "wp";exact⟨_,r,_,rfl,j3,_,j,rfl⟩
  ·rintro σ m ⟨rfl,L,c,G,j,rfl⟩
   refine h1 _ _ ?_;walk_at "wp";rw[JW,D.1,List.drop_length]at j;rw[j]at q;exact q
def wI(T:Ky->Option Int)(p:aL)(n:Nat)(r:Nat×RV):List (Int×Nat×List Ky):=(cj r p).filterMap λw=>(cv T r.2.c w).map λc=>(c,n,w)
def cW(T:Ky->Option Int)(rs:Yaa)(p:aL)(n:Nat):List (Int×Nat×List Ky):=match rs[n]? with
 |none=>[]
 |some r=>wI T p n r
def tO(H:Hp)(b:Addr)(y:Int×Nat×List Ky):Prop:=∃lw,H b=some (.tup [.int y.1,.int (y.2.1:Int),.ref lw])/\kt H lw y.2.2
def iC(l:Addr)(H:Hp)(b:Addr)(y:Int×Nat×List Ky):Prop:=∃lw,lw≠l/\H b=some (.tup [.int y.1,.int (y.2.1:Int),.ref lw])/\kt H lw y.2.2
theorem iC.up{l:Addr}{H H':Hp}{b:Addr}{y:Int×Nat×List Ky}(h:iC l H b y)(s:aD H H'):iC l H' b y:=let ⟨lw,h0,h1,h2⟩:=h;⟨lw,h0,s _ _ h1,sj h2 s⟩
theorem xz{H:Hp}{a l:Addr}{y:List Ky}{xs:List V}{o:HO}(h:kt H a y)(hl:H l=some (.lst xs))(ne:a≠l):kt (aE H l o) a y:=by
 obtain⟨bs,h1,h2⟩:=h;exact⟨bs,by rw[av ne];exact h1,h2.mono λb k _ _ q=>q.put hl⟩
theorem iC.put{l:Addr}{H:Hp}{b:Addr}{y:Int×Nat×List Ky}{xs:List V}{o:HO}(h:iC l H b y)(hl:H l=some (.lst xs)):iC l (aE H l o) b y:=by
 obtain⟨c,a,h1,h2⟩:=h;exact⟨c,a,by rw[av (λz=>by rw[z,hl]at h1;cases h1)];exact h1,xz h2 hl a⟩
abbrev pd:Stmt:=fU 28
inductive qZ(R:RC)(CG CC:Addr)(vs:List V)(H:Hp)(Q:VK)(_E:XK):Prop
 |mk (g dx ln cu d:Addr) (sg st:KU) (as:KZ) (rs:Yaa) (ns:KU) (p:aL) (r c:Nat) (T:Ky->Option Int) (_:vs=[.ref g,.ref ln,.ref cu,.ref d]) (_:dJ R H CG dx g sg st as rs) (_:(∀r∈rs,qV r)) (_:H ln=some (.lst (xi ns))) (_:(∀n∈ns,n<rs.length)) (_:ns.length<=100) (_:eV CC H cu p) (_:iD p r c) (_:iK H d T) (_:∀l H',H l=none->kc tO H' l (ns.flatMap (cW T rs p))->aD H H'->Q (.ref l) H')
theorem yA:aH ["grammar","numbers","cuts","told","found","number","rule","way","cost"] ["grammar","numbers","cuts","told"] (aw pd):=by walk_at "c"
theorem qG{r:Nat×RV}{p:aL}{a c:Nat}(h4:r.1<4)(hp:iD p a c):(cj r p).length<=6:=by
 obtain⟨k,v⟩:=r;have:=hp.r6;have:=hp.c6;rcases gY h4 with h | h | h | h<;>(simp only at h;subst h)
 ·show(if bM p=v.sg then[[]] else[]).length<=6
  split<;>simp
 ·show((b8 true p (p.headD []).length).map _).length<=6
  unfold b8;rw[JW,JW,q0J,bg hp.rc hp.r0];omega
 ·show((b8 false p p.length).map _).length<=6
  unfold b8;rw[JW,JW,q0J,hp.rc.1];omega
 ·show([[_]]:List (List Ky)).length<=6
  simp
theorem zL{α β:Type}(f:α->List β){xs:List α}{i:Nat}{x:α}(h:xs[i]?=some x):(xs.take (i+1)).flatMap f=(xs.take i).flatMap f++f x:=by
 rw[q0E,h,List.flatMap_append];simp
theorem y4{R:RC}{f CG CC:Addr}{fd:K1}(F:dw K "coming" "coming" pd f fd)(nb:NB mg)(yai:ji P w K mg base bD 1 CG "rule" ["self","k"] (fz R CG))(yaC:vC P w K mg base bD 5 "ways" (oW R CC))(yaF:dF P w K mg base bD 1 "cost_by" ["rule","way","told"] (oh R)):bw P w K mg base bD 6 f fd ["grammar","numbers","cuts","told"] (qZ R CG CC):=by
 have sc:=yA;walk_at "f"
 ·obtain⟨g,dx,ln,cu,d,sg,st,as,L,ns,p,r,c,T,rfl,hG,hg,b1,c2,hn100,hC,hp,hT,q⟩:=h
  have hu:=hr.units;refine⟨_,(ae (q01 4 sc.nd (bF ad))
   (ae (aY PassesOwn.never rfl (bN (ao 1)) (q02 5 sc.nd)
   (ae (q01 6 sc.nd (sH yai (hr.mono (by decide)) aK (ao 0) (ac (ao 5) ad)))
   (ai (aY PassesOwn.never rfl (bN (C7 yaC (hr.mono (by decide)) aK (ao 6) (ac (ao 2) ad))) (q02 7 sc.nd)
   (ae (q01 8 sc.nd (q00 yaF hr (ac (ao 6) (ac (ao 7) (ac (ao 3) ad)))))
   (ai (bT (aT yb (ao 8) ly (bf _))
   (ai (bi (q03 (ao 4) (ac (bZ (ac (ao 8) (ac (ao 5) (ac (ao 7) ad)))) ad))))
   bh)))))))
   (ai (aO (ao 4))))),?_⟩
  walk_at "n";refine⟨Kh _,λl hl=>h1 _ _ ?_⟩;clear h1;generalize z0:aE H l _=H1;obtain⟨s1,e1⟩:=dY hl z0;walk_at "n";refine⟨⟨_,aM.of (s1 _ _ b1)⟩,?_⟩;refine b5 (xs:=xi ns) (λi σ Y=>aD H Y/\i<=ns.length/\(∃bs:List Addr,Y l=some (.lst (bs.map V.ref))/\bu (iC l) Y bs ((ns.take i).flatMap (cW T L p))/\bs.length<=6*i)/\∃x1 x2 x3 x4,σ=[some (V.ref g),some (V.ref ln),some (V.ref cu),some (V.ref d),some (V.ref l),x1,x2,x3,x4]) ⟨s1,Kh _,⟨[],e1,bu.nil,Kh _⟩,_,_,_,_,rfl⟩ (λi σ Y _ h=>aM.of (h.1 _ _ b1)) ?_ ?_
  ·rintro i x σ Y hx ⟨sm,_,⟨bs,U,hA,c3⟩,x1,x2,x3,x4,rfl⟩
   rw[xi,JY]at hx;obtain⟨n,hn,rfl⟩:=Kk.mp hx;have hi:=(JU.mp hn).1;have a8:=c2 n (JZ hn);obtain⟨k,D⟩:∃k,L[n]?=some k:=⟨_,JT a8⟩;have C:=hg k (JZ D);have b6:=hG.up sm;obtain⟨lk,pn,t0,ha,hkk,a5,hN,hmm⟩:=id b6;obtain⟨b,S⟩:∃b,as[n]?=some b:=⟨_,JT (by rw[a5.1];exact a8)⟩;have c1:=a5.2 n b k S D;rw[zL _ hn,show cW T L p n=wI T p n k by unfold cW;rw[D]];walk_at "n";refine⟨dx,_,ha,rfl,g,dx,sg,st,as,L,n,b,rfl,b6,S,h1 _ _ ?_⟩;clear h1;walk_at "wp";refine BT C.k4 c1 (hC.up sm) hp C.good.t0 C.good.t7 λlw H2 b0 hW s2=>?_;obtain⟨ws,a2,b4⟩:=hW;have hwl:=qG C.k4 hp;refine⟨lw,rfl,⟨_,aM.of a2⟩,?_⟩;have a0:=sm.trans s2;have hT2:=hT.up a0;have a7:gx R H k.1 b k.2:=let ⟨_,_,_,_,_,hrs0,_,_⟩:=hG;hrs0.2 n b k S D
   have c4:=s2 _ _ U;have a9:lw≠l:=λe=>by rw[e,U]at b0;cases b0
   have h0:bu (iC l) H2 bs ((ns.take i).flatMap (cW T L p)++((cj k p).take 0).filterMap λw=>(cv T k.2.c w).map λc=>(c,n,w)):=by
    show bu (iC l) H2 bs ((ns.take i).flatMap (cW T L p)++[]);rw[Ks];exact hA.mono λb y _ _ h=>h.up s2
   refine b5 (xs:=ws.map V.ref) (λj σ J=>aD H J/\J lw=some (.lst (ws.map V.ref))/\bu kt J ws (cj k p)/\(∀a∈ws,a≠l)/\j<=ws.length/\(∃bs:List Addr,J l=some (.lst (bs.map V.ref))/\bu (iC l) J bs ((ns.take i).flatMap (cW T L p)++((cj k p).take j).filterMap λw=>(cv T k.2.c w).map λc=>(c,n,w))/\bs.length<=6*i+j)/\∃x1 x2,σ=[some (V.ref g),some (V.ref ln),some (V.ref cu),some (V.ref d),some (V.ref l),some (V.int (n:Int)),some (V.ref b),x1,x2])
    ⟨a0,a2,b4.mono λ_ _ _ _ h=>h.2,λa ha=>?_,Kh _,⟨bs,c4,h0,⋯⟩,_,_,rfl⟩ (λj σ J _ h=>aM.of h.2.1) ?_ ?_
   ·obtain⟨j,hj⟩:=List.mem_iff_getElem?.mp ha
    obtain⟨y,_,hy⟩:=b4.get hj;exact λe=>by have:=hy.1;rw[e,U]at this;cases this
   ·rintro j x σ J hx ⟨o,O,m,v,_,⟨I,z,B,b2⟩,y1,y2,rfl⟩
    rw[JY]at hx;obtain⟨wa,M,rfl⟩:=Kk.mp hx;obtain⟨u,a4,a1⟩:=m.get M;have hj:=(JU.mp M).1;have hwlen:=m.1;have a6:=a7.up o;walk_at "n";refine⟨b,wa,d,k.1,k.2,u,T,rfl,a6,a1,hT.up o,h1 _ _ ?_⟩;clear h1;rw[q0E,a4,List.filterMap_append,<- Kt];walk_at "wp";cases b3:cv T k.2.c u with
    |none=>
     rw[q06 (λh=>h rfl)];refine⟨o,O,m,v,hj,I,z,?_,⋯⟩;rw[show(some u).toList.filterMap (λw=>(cv T k.2.c w).map λc=>(c,n,w))=[] by simp[b3],Ks];exact B
    |some cst=>
     rw[q07 (λh=>nomatch h)];refine⟨.inl ⟨rfl,_,aM.of z⟩,ay (by decide),λtp c0=>?_⟩;generalize z0:aE J tp _=H4;obtain⟨Z,(e4:H4 tp=some (.tup [.int cst,.int (n:Int),.ref wa]))⟩:=dY c0 z0;have G:=Z _ _ z;have a3:=v wa (JZ M);refine⟨_,G,by rw[JW];exact aX ⋯,bE (o.trans Z) hl,by rw[av a9];exact Z _ _ O,m.mono λb y U _ h=>xz (sj h Z) G (v b U),v,hj,I++[tp],by rw[ag,J7];rfl,?_,by rw[Kf];simp;omega⟩;rw[show(some u).toList.filterMap (λw=>(cv T k.2.c w).map λc=>(c,n,w))=[(cst,n,u)] by simp[b3]];exact(B.mono λb y _ _ h=>(h.up Z).put G).snoc (iC.put ⟨wa,a3,e4,sj a1 Z⟩ G)
   ·rintro σ J ⟨o,O,m,v,_,⟨I,z,B,b2⟩,y1,y2,rfl⟩
    rw[JW,m.1,Kv]at B;rw[JW]at b2;exact⟨o,hi,⟨I,z,B,by have:=m.1;omega⟩,_,_,_,_,rfl⟩
  ·rintro σ Y ⟨sm,_,⟨bs,U,hA,c3⟩,x1,x2,x3,x4,rfl⟩
   refine h1 _ _ ?_;walk_at "wp";rw[xi,JW,Kv]at hA;exact q l Y hl ⟨bs,U,hA.mono λb y _ _ h=>let ⟨lw,_,h1,h2⟩:=h;⟨lw,h1,h2⟩⟩ sm
def Fo:HO->Prop
 | .dT _=>True
 |_=>False
def Kp(H H':Hp):Prop:=∀x o,¬ Fo o->H x=some o->H' x=some o
theorem Kp.lst{H H':Hp}(s:Kp H H'){a:Addr}{xs:List V}(h:H a=some (.lst xs)):H' a=some (.lst xs):=s _ _ id h
theorem Kp.tup{H H':Hp}(s:Kp H H'){a:Addr}{xs:List V}(h:H a=some (.tup xs)):H' a=some (.tup xs):=s _ _ id h
theorem Kp.ins{H H':Hp}(s:Kp H H'){a C dx:Addr}{fs:List (Str×V)}(h:H a=some (.ins C dx fs)):H' a=some (.ins C dx fs):=s _ _ id h
theorem Kp.dK{H H':Hp}(s:Kp H H'){a:Addr}{fs:List (cP×V)}(h:H a=some (.dK fs)):H' a=some (.dK fs):=s _ _ id h
theorem bL.kp{R:RC}{H H':Hp}{as:KZ}{rs:Yaa}(h:bL R H as rs)(s:Kp H H'):bL R H' as rs:=by
 refine⟨h.1,λi a r c b=>?_⟩;obtain⟨d,l,h1,h2⟩:=h.2 i a r c b;exact⟨d,l,s.ins h1,s.lst h2⟩
theorem dJ.kp{R:RC}{H H':Hp}{C dx a:Addr}{sg st:KU}{as:KZ}{rs:Yaa}(g:dJ R H C dx a sg st as rs)(s:Kp H H'):dJ R H' C dx a sg st as rs:=by
 obtain⟨d,c,t,h1,h2,j,b,i⟩:=g;exact⟨d,c,t,s.ins h1,s.lst h2,j.kp s,⟨s.dK b.dict,λx e=>s.lst (b.list x e),b.apart⟩,i⟩
theorem bj.kp{d:Addr}{H H':Hp}{m:List (List cP×V)}(s:bj d H H')(hd:H d=some (.dT m)):Kp H H':=λx o h e=>s x o (λz=>by rw[z,hd]at e;cases e;exact h trivial) e
theorem Bu{β:Type}{A:Hp->Addr->β->Prop}{H H':Hp}(u:∀{b:Addr} {y:β},A H b y->A H' b y)(s:Kp H H'){l:Addr}{ys:List β}(h:kc A H l ys):kc A H' l ys:=by
 obtain⟨bs,h1,h2⟩:=h;exact⟨bs,s.lst h1,h2.mono λb y _ _ q=>u q⟩
theorem bI.kp{H H':Hp}{a:Addr}{k:Ky}(h:bI H a k)(s:Kp H H'):bI H' a k:=s.tup h
theorem eV.kp{CC:Addr}{H H':Hp}{c:Addr}{p:aL}(h:eV CC H c p)(s:Kp H H'):eV CC H' c p:=by
 obtain⟨i,a,b,d,h1,h2,g,e⟩:=h;exact⟨i,a,b,d,s.ins h1,s.lst h2,Bu (A:=bI) (λq=>q.kp s) s g,Bu (A:=bI) (λq=>q.kp s) s e⟩
theorem tO.kp{H H':Hp}{b:Addr}{y:Int×Nat×List Ky}(h:tO H b y)(s:Kp H H'):tO H' b y:=let ⟨lw,h1,h2⟩:=h;⟨lw,s.tup h1,Bu (A:=bI) (λq=>q.kp s) s h2⟩
abbrev Tb:=List (Ky×Int)
def ft(e:Ky×Int):List cP×V:=(iS e.1,.int e.2)
def aN(tb:Tb)(k:Ky):Option Int:=(tb.find? λe=>decide (e.1=k)).map (·.2)
def mP(tb:Tb)(k:Ky)(v:Int):Tb:=if(aN tb k).isSome=true then tb.map (λe=>if e.1=k then(e.1,v) else e) else tb++[(k,v)]
theorem cY(e:Ky×Int)(tb:Tb)(k:Ky):aN (e::tb) k=if e.1=k then some e.2 else aN tb k:=by
 unfold aN;rw[List.find?_cons]
 by_cases h:e.1=k
 ·simp[h]
 ·simp[h]
theorem pB(tb:Tb)(k:Ky):dL (tb.map ft) (iS k)=(aN tb k).map V.int:=by
 induction tb with
 |nil=>rfl
 |cons e tb ih=>
  rw[Km,cY]
  by_cases h:e.1=k
  ·rw[fG (show(ft e).1=iS k from q0R iS h),q07 h];rfl
  ·rw[fT (λq=>h (uT q)),q06 h];exact ih
theorem uH(tb:Tb)(k:Ky)(v:Int):dH (tb.map ft) (iS k) (.int v)=(mP tb k v).map ft:=by
 unfold dH mP;rw[gU,pB,Option.isSome_map]
 split
 ·rw[J9,J9]
  refine q0K λe _=>?_;show(if iS e.1=iS k then(iS e.1,V.int v) else ft e)=ft (if e.1=k then(e.1,v) else e)
  by_cases h:e.1=k
  ·rw[q07 (q0R iS h),q07 h];rfl
  ·rw[q06 λq=>h (uT q),q06 h]
 ·rw[J7];rfl
theorem vj(k:Ky)(v:Int)(k':Ky):∀tb:Tb,aN (tb.map λe=>if e.1=k then(e.1,v) else e) k'=if k'=k then(aN tb k).map λ_=>v else aN tb k'
 | []=>by simp[aN]
 |e::tb=>by
  rw[Km,cY,cY,cY,vj k v k' tb]
  by_cases h:e.1=k
  ·by_cases h':k'=k
   ·simp[h,h']
   ·have:¬ k=k':=λq=>h' q.symm
    simp[h,h',this]
  ·by_cases h':k'=k
   ·subst h';simp[h]
   ·simp[h,h']
theorem q8(k:Ky)(v:Int)(k':Ky):∀tb:Tb,aN (tb++[(k,v)]) k'=match aN tb k' with
  |some u=>some u
  |none=>if k=k' then some v else none
 | []=>by simp[aN]
 |e::tb=>by
  rw[List.cons_append,cY,cY,q8 k v k' tb]
  by_cases h:e.1=k'
  ·simp[h]
  ·simp[h]
theorem yY(tb:Tb)(k:Ky)(v:Int)(k':Ky):aN (mP tb k v) k'=if k'=k then some v else aN tb k':=by
 unfold mP
 split
 ·rename_i h
  rw[vj];obtain⟨u,hu⟩:=Option.isSome_iff_exists.mp h;rw[hu];rfl
 ·rename_i h
  rw[q8]
  by_cases e:k'=k
  ·subst e
   have:aN tb k'=none:=by simpa using h
   rw[this,q07 rfl]
  ·rw[q06 e,q06 λq=>e q.symm]
   cases aN tb k'<;>rfl
theorem ud{tb:Tb}{k:Ky}{v:Int}(h:aN tb k=some v):(k,v)∈tb:=by
 unfold aN at h;obtain⟨e,a,rfl⟩:=Kk.mp h;have h1:=List.find?_some a;have h2:=List.mem_of_find?_eq_some a;have b:e.1=k:=by simpa using h1
 rw[<- b];exact h2
theorem Cb{tb:Tb}{k:Ky}(h:aN tb k=none):k∉tb.map (·.1):=by
 intro a;obtain⟨e,b,rfl⟩:=KF.mp a;unfold aN at h;rw[Option.map_eq_none_iff,List.find?_eq_none]at h;exact h e b (by simp)
theorem uU{tb:Tb}(nd:(tb.map (·.1)).Nodup){k:Ky}{v:Int}(h:(k,v)∈tb):aN tb k=some v:=by
 induction tb with
 |nil=>exact nomatch h
 |cons e tb ih=>
  rw[Km,q0c]at nd;rw[cY];rcases J_.mp h with rfl | h
  ·rw[q07 rfl]
  ·rw[q06 λq=>nd.1 (by rw[q];exact KF.mpr ⟨_,h,rfl⟩)]
   exact ih nd.2 h
theorem qX(tb:Tb)(k:Ky)(v:Int):(mP tb k v).map (·.1)=if(aN tb k).isSome=true then tb.map (·.1) else tb.map (·.1)++[k]:=by
 unfold mP
 split
 ·rw[J9]
  refine q0K λe _=>?_;show(if e.1=k then(e.1,v) else e).1=e.1
  split<;>rfl
 ·rw[J7];rfl
theorem CZ{tb:Tb}{k:Ky}{v:Int}(nd:(tb.map (·.1)).Nodup):((mP tb k v).map (·.1)).Nodup:=by
 rw[qX]
 split
 ·exact nd
 ·rename_i h
  rw[List.nodup_append];refine⟨nd,by simp,λa ha b hb e=>?_⟩;rw[JX.mp hb]at e;exact Cb (by simpa using h) (e▸ha)
theorem BI(tb:Tb)(k:Ky)(v:Int):(mP tb k v).length=if(aN tb k).isSome=true then tb.length else tb.length+1:=by
 have:=q0R List.length (qX tb k v);rw[JW]at this;rw[this]
 split
 ·rw[JW]
 ·rw[Kf,JW];rfl
def cy(H:Hp)(d:Addr)(tb:Tb):Prop:=H d=some (.dT (tb.map ft))
theorem cy.told{H:Hp}{d:Addr}{tb:Tb}(h:cy H d tb):iK H d (aN tb):=⟨_,h,λk=>pB tb k⟩
theorem cy.up{H H':Hp}{d:Addr}{tb:Tb}(h:cy H d tb)(s:aD H H'):cy H' d tb:=s _ _ h
def ik(tb:Tb)(k:Ky)(v:Int):Bool:=match aN tb k with
 |some u=>decide (v<u)
 |none=>true
def dR(tb:Tb)(k:Ky)(v:Int):Tb:=if ik tb k v=true then mP tb k v else tb
def ux(tb tb':Tb):Prop:=∀k u,aN tb k=some u->∃u',u'<=u/\aN tb' k=some u'
theorem ux.refl(tb:Tb):ux tb tb:=λk u h=>⟨u,Int.le_refl _,h⟩
theorem ux.trans{a b c:Tb}(h1:ux a b)(h2:ux b c):ux a c:=λk u h=>by
 obtain⟨u1,l1,e1⟩:=h1 k u h;obtain⟨u2,l2,e2⟩:=h2 k u1 e1;exact⟨u2,Int.le_trans l2 l1,e2⟩
theorem iW(tb:Tb)(k:Ky)(v:Int)(k':Ky):aN (dR tb k v) k'=if k'=k/\ik tb k v=true then some v else aN tb k':=by
 unfold dR
 by_cases h:ik tb k v=true
 ·rw[q07 h,yY]
  by_cases e:k'=k
  ·rw[q07 e,q07 ⟨e,h⟩]
  ·rw[q06 e,q06 λq=>e q.1]
 ·rw[q06 h,q06 λq=>h q.2]
theorem sf{tb:Tb}{k:Ky}{v:Int}{k':Ky}(h:k'≠k):aN (dR tb k v) k'=aN tb k':=by rw[iW,q06 λq=>h q.1]
theorem xE(tb:Tb)(k:Ky)(v:Int):∃v',v'<=v/\aN (dR tb k v) k=some v':=by
 rw[iW];cases h:ik tb k v with
 |true=>exact⟨v,Int.le_refl _,by simp⟩
 |false=>
  unfold ik at h;cases a:aN tb k with
  |none=>rw[a]at h;cases h
  |some u=>
   rw[a]at h;have:¬ v<u:=by simpa using h
   exact⟨u,⋯,by simp⟩
theorem wV(tb:Tb)(k:Ky)(v:Int):ux tb (dR tb k v):=by
 intro b u a;rw[iW]
 by_cases e:b=k/\ik tb k v=true
 ·rw[q07 e]
  obtain⟨rfl,h⟩:=e;unfold ik at h;rw[a]at h;have:v<u:=by simpa using h
  exact⟨v,⋯,rfl⟩
 ·rw[q06 e];exact⟨u,Int.le_refl _,a⟩
theorem rT{tb:Tb}{k:Ky}{v:Int}{k':Ky}{u:Int}(h:aN (dR tb k v) k'=some u):aN tb k'=some u\/k'=k/\u=v:=by
 rw[iW]at h
 split at h
 ·rename_i e
  exact .inr ⟨e.1,by injection h with h;exact h.symm⟩
 ·exact .inl h
theorem AM{tb:Tb}{k:Ky}{v:Int}(nd:(tb.map (·.1)).Nodup):((dR tb k v).map (·.1)).Nodup:=by
 unfold dR
 split
 ·exact CZ nd
 ·exact nd
theorem xv(tb:Tb)(k:Ky)(v:Int):(dR tb k v).length<=if(aN tb k).isSome=true then tb.length else tb.length+1:=by
 unfold dR
 split
 ·rw[BI];exact Kg _
 ·split<;>omega
def Bw(p:aL):Prop:=p≠[]/\bG p
theorem Bw.inj{p q:aL}(h:Bw p)(h':Bw q)(e:bM p=bM q):p=q:=SpM.glue_inj 47 h.1 h'.1 h.2 h'.2 e
inductive Dv(rs:Yaa):Ky->Int->Prop
 |leaf {r:Nat×RV} {p:aL}:r∈rs->Bw p->[]∈cj r p->Dv rs (bM p,r.2.n) r.2.c
 |one {r:Nat×RV} {p:aL} {k:Ky} {a:Int}:r∈rs->Bw p->[k]∈cj r p->Dv rs k a->Dv rs (bM p,r.2.n) (r.2.c+a)
 |two {r:Nat×RV} {p:aL} {k1 k2:Ky} {a b:Int}:r∈rs->Bw p->[k1,k2]∈cj r p->Dv rs k1 a->Dv rs k2 b->Dv rs (bM p,r.2.n) (r.2.c+a+b)
theorem qw{r:Nat×RV}{p:aL}{w:List Ky}(h:w∈cj r p):w=[]\/(∃k,w=[k])\/∃k1 k2,w=[k1,k2]:=by
 unfold cj at h
 split at h
 ·split at h
  ·exact .inl (JX.mp h)
  ·exact nomatch h
 ·obtain⟨k,_,rfl⟩:=KF.mp h
  exact .inr (.inr ⟨_,_,rfl⟩)
 ·obtain⟨k,_,rfl⟩:=KF.mp h
  exact .inr (.inr ⟨_,_,rfl⟩)
 ·exact .inr (.inl ⟨_,JX.mp h⟩)
theorem o9{T:Ky->Option Int}{c v:Int}{k:Ky}(h:cv T c [k]=some v):∃a,T k=some a/\v=c+a:=by
 unfold cv at h;cases b:T k with
 |none=>rw[b]at h;cases h
 |some a=>rw[b]at h;injection h with h;exact⟨a,rfl,h.symm⟩
theorem vc{T:Ky->Option Int}{c v:Int}{k1 k2:Ky}(h:cv T c [k1,k2]=some v):∃a b,T k1=some a/\T k2=some b/\v=c+a+b:=by
 unfold cv at h;cases d:T k1 with
 |none=>rw[d]at h;cases h
 |some a=>
  rw[d]at h;obtain⟨b,g,e⟩:=o9 h;exact⟨a,b,rfl,g,e⟩
theorem Cp{rs:Yaa}{T:Ky->Option Int}{r:Nat×RV}{p:aL}{w:List Ky}{v:Int}(hr:r∈rs)(hp:Bw p)(hw:w∈cj r p)(hc:cv T r.2.c w=some v)(hT:∀k∈w,∀u,T k=some u->Dv rs k u):Dv rs (bM p,r.2.n) v:=by
 rcases qw hw with rfl | ⟨k,rfl⟩ | ⟨g,e,rfl⟩
 ·injection hc with hc;rw[<- hc];exact .leaf hr hp hw
 ·obtain⟨a,d,rfl⟩:=o9 hc
  exact .one hr hp hw (hT k (by simp) a d)
 ·obtain⟨a,b,d,i,rfl⟩:=vc hc
  exact .two hr hp hw (hT g (by simp) a d) (hT e (by simp) b i)
theorem jb{T T':Ky->Option Int}:∀{w:List Ky} {c:Int},(∀k∈w,T k=T' k)->cv T c w=cv T' c w
 | [],c,_=>rfl
 |k::w,c,h=>by
  show(match T k with | none=>none | some v=>cv T (c+v) w)=(match T' k with | none=>none | some v=>cv T' (c+v) w);rw[h k (q0B ..)];cases T' k with
  |none=>rfl
  |some v=>exact jb λk hk=>h k (J' _ hk)
def GX(rs:Yaa)(T:Ky->Option Int)(q:aL):Prop:=∀r∈rs,∀w∈cj r q,∀v,cv T r.2.c w=some v->∃v',v'<=v/\T (bM q,r.2.n)=some v'
theorem qI{r:Nat×RV}{q:aL}{a c:Nat}(hq:rect q a c)(a0:0<a)(c0:0<c){w:List Ky}(hw:w∈cj r q){k:Ky}(hk:k∈w) :
  (∃t l b x,t<b/\b<=a/\l<x/\x<=c/\k.1=bM (cut q t l b x)/\bJ (cut q t l b x)<bJ q/\r.1<3)\/(3<=r.1/\w=[(bM (turned q (dP r.2.t.toNat)),r.2.o1)]):=by
 have cell:∀{t l b x:Nat},t<b->b<=a->l<x->x<=c->(b-t<a/\x-l=c\/b-t=a/\x-l<c)->bJ (cut q t l b x)<bJ q:=by
  intro t l b x h1 h2 h3 h4 h5;have hc:=cE hq h1 h2 h3 h4;unfold bJ;rw[hc.1,bg hc ⋯,hq.1,bg hq a0];rcases h5 with⟨h,e⟩ | ⟨e,h⟩
  ·rw[e];exact Nat.mul_lt_mul_of_pos_right h c0
  ·rw[e];exact Nat.mul_lt_mul_of_pos_left h a0
 unfold cj at hw
 split at hw
 ·split at hw
  ·rw[JX.mp hw]at hk;exact nomatch hk
  ·exact nomatch hw
 ·rename_i hr
  obtain⟨k0,h0,rfl⟩:=KF.mp hw;unfold b8 at h0;obtain⟨j,hj,rfl⟩:=KF.mp h0;have hj:=List.mem_range.mp hj;rw[bg hq a0]at hj
  left
  rcases J_.mp hk with rfl | hk
  ·exact⟨0,0,a,j+1,a0,Kg _,⋯,⋯,q0R bM (qO hq),cell a0 (Kg _) ⋯ ⋯ (.inr ⟨⋯,⋯⟩),⋯⟩
  ·rw[JX.mp hk]
   exact⟨0,j+1,a,c,a0,Kg _,⋯,Kg _,q0R bM (qC hq),cell a0 (Kg _) ⋯ (Kg _) (.inr ⟨⋯,⋯⟩),⋯⟩
 ·rename_i hr
  obtain⟨k0,h0,rfl⟩:=KF.mp hw;unfold b8 at h0;obtain⟨j,hj,rfl⟩:=KF.mp h0;have hj:=List.mem_range.mp hj;rw[hq.1]at hj
  left
  rcases J_.mp hk with rfl | hk
  ·exact⟨0,0,j+1,c,⋯,⋯,c0,Kg _,q0R bM (ql hq),cell ⋯ ⋯ c0 (Kg _) (.inl ⟨⋯,⋯⟩),⋯⟩
  ·rw[JX.mp hk]
   exact⟨j+1,0,a,c,⋯,Kg _,c0,Kg _,q0R bM (qr hq),cell ⋯ (Kg _) c0 (Kg _) (.inl ⟨⋯,⋯⟩),⋯⟩
 ·rename_i x h0 h1 h2
  right
  refine⟨?_,JX.mp hw⟩;rcases hh:r.1 with _ | _ | _ | n
  ·exact q0Q hh h0
  ·exact q0Q hh h1
  ·exact q0Q hh h2
  ·omega
theorem eN{p q:aL}{r c:Nat}(hp:rect p r c)(hn:bG p)(h:ba p r c q):Bw q:=by
 obtain⟨r',c',h1,h2,_⟩:=h.rect hp;exact⟨λe=>by rw[e]at h1;have:=h1.1;simp at this;omega,h.ns hp hn⟩
theorem kj{p q:aL}{r c:Nat}(hp:rect p r c)(h:ba p r c q){x:Nat×RV}(t0:0<=x.2.t)(t7:x.2.t<=7){w:List Ky}(hw:w∈cj x q){k:Ky}(hk:k∈w):∃q',ba p r c q'/\k.1=bM q'/\(bJ q'<bJ q\/3<=x.1/\q'=turned q (dP x.2.t.toNat)):=by
 obtain⟨a,b,h1,h2,n,_⟩:=h.rect hp;rcases qI h1 h2 n hw hk with⟨t,l,b,y,d,m,j,i,g,e,_⟩ | ⟨d,rfl⟩
 ·exact⟨_,h.cut hp h1 d m j i,g,.inl e⟩
 ·rw[JX.mp hk]
  exact⟨_,h.turned hp (i5 ⋯),rfl,.inr ⟨d,rfl⟩⟩
theorem An{rs:Yaa}{T:Ky->Option Int}{p:aL}{r c:Nat}(hp:rect p r c)(hn:bG p)(hg:∀x∈rs,0<=x.2.t/\x.2.t<=7)(hC:∀q,ba p r c q->GX rs T q){k:Ky}{v:Int}(h:Dv rs k v):∀q,ba p r c q->k.1=bM q->∃v',v'<=v/\T k=some v':=by
 induction h with
 | @leaf x q0 hr ho hw=>
  intro q d e;have e:=ho.inj (eN hp hn d) e;subst e;exact hC _ d x hr _ hw _ rfl
 | @one x q0 k a hr ho hw _ ih=>
  intro q d e;have e:=ho.inj (eN hp hn d) e;subst e;obtain⟨g,h1,j,_⟩:=kj hp d (hg x hr).1 (hg x hr).2 hw (k:=k) (by simp);obtain⟨m,o,i⟩:=ih g h1 j;obtain⟨v',u,l⟩:=hC _ d x hr _ hw (x.2.c+m) (by unfold cv;rw[i];rfl);exact⟨v',⋯,l⟩
 | @two x q0 k1 k2 a b hr ho hw _ _ ih1 ih2=>
  intro q d e;have e:=ho.inj (eN hp hn d) e;subst e;obtain⟨g,h1,j,_⟩:=kj hp d (hg x hr).1 (hg x hr).2 hw (k:=k1) (by simp);obtain⟨n,h2,y,_⟩:=kj hp d (hg x hr).1 (hg x hr).2 hw (k:=k2) (by simp);obtain⟨m,o,i⟩:=ih1 g h1 j;obtain⟨z,lb,w⟩:=ih2 n h2 y;obtain⟨v',u,l⟩:=hC _ d x hr _ hw (x.2.c+m+z) (by unfold cv;rw[i];show cv T _ [k2]=_;unfold cv;rw[w];rfl);exact⟨v',⋯,l⟩
def CK(q:aL)(ns:List (List Nat)):List Ky:=(List.range 8).flatMap λt=>ns.map λn=>(bM (turned q t),n)
theorem jS{q:aL}{ns:List (List Nat)}{k:Ky}:k∈CK q ns↔∃t,t<8/\∃n,n∈ns/\k=(bM (turned q t),n):=by
 unfold CK;simp only[List.mem_flatMap,List.mem_range,KF]
 constructor
 ·rintro⟨t,a,n,b,rfl⟩;exact⟨t,a,n,b,rfl⟩
 ·rintro⟨t,a,n,b,rfl⟩;exact⟨t,a,n,b,rfl⟩
theorem tJ(q:aL)(ns:List (List Nat)):(CK q ns).length=8*ns.length:=by
 unfold CK;rw[List.length_flatMap];simp only[JW];show ns.length+(ns.length+(ns.length+(ns.length+(ns.length+(ns.length+(ns.length+(ns.length+0)))))))=_;omega
def gR(q:aL)(r:Nat×RV)(t:Nat):Ky:=(bM (turned q (after t r.2.t.toNat)),r.2.n)
def Ak(trs:Yaa)(q:aL)(tb:Tb)(k:Ky)(v:Int):Prop:=∀r∈trs,r.2.o1=k.2->∀t,t<8->k.1=bM (turned q t)->∃v',v'<=v+r.2.c/\aN tb (gR q r t)=some v'
theorem Ak.le{trs:Yaa}{q:aL}{tb tb':Tb}{k:Ky}{v:Int}(h:Ak trs q tb k v)(l:ux tb tb'):Ak trs q tb' k v:=λr hr e t ht e'=>by
 obtain⟨v1,l1,e1⟩:=h r hr e t ht e';obtain⟨v2,l2,e2⟩:=l _ _ e1;exact⟨v2,Int.le_trans l2 l1,e2⟩
theorem tK{α:Type}{f g:α->Nat}:∀{ks:List α},(∀x∈ks,f x<=g x)->(ks.map f).sum<=(ks.map g).sum
 | [],_=>Kg _
 |k::ks,h=>by
  have h1:=h k (q0B ..);have h2:=tK (ks:=ks) λx hx=>h x (J' _ hx);rw[Km,Km,List.sum_cons,List.sum_cons];omega
theorem rH{α:Type}{f g:α->Nat}:∀{ks:List α} {x:α},(∀x∈ks,f x<=g x)->x∈ks->f x<g x->(ks.map f).sum+1<=(ks.map g).sum
 | [],_,_,h,_=>nomatch h
 |k::ks,x,h,hx,hl=>by
  have h1:=h k (q0B ..);have hr:∀x∈ks,f x<=g x:=λx hx=>h x (J' _ hx);rw[Km,Km,List.sum_cons,List.sum_cons];rcases J_.mp hx with rfl | hx
  ·have h2:=tK hr;omega
  ·have h2:=rH hr hx hl;omega
theorem oK{α:Type}{f:α->Nat}{b:Nat}:∀{ks:List α},(∀x∈ks,f x<=b)->(ks.map f).sum<=b*ks.length
 | [],_=>Kh _
 |k::ks,h=>by
  have h1:=h k (q0B ..);have h2:=oK (ks:=ks) λx hx=>h x (J' _ hx);rw[Km,List.sum_cons,J6,Nat.mul_succ];omega
def wF(tb:Tb)(k:Ky):Nat:=match aN tb k with
 |some _=>1
 |none=>0
def Cl(B:Nat)(tb:Tb)(k:Ky):Nat:=match aN tb k with
 |some v=>v.toNat
 |none=>B+1
def oI(ks:List Ky)(tb:Tb):Nat:=(ks.map (wF tb)).sum
def Ep(ks:List Ky)(B:Nat)(tb:Tb):Nat:=(ks.map (Cl B tb)).sum
theorem hU(ks:List Ky)(tb:Tb):oI ks tb<=ks.length:=by
 have:=oK (f:=wF tb) (b:=1) (ks:=ks) λx _=>by unfold wF;split<;>omega
 unfold oI;omega
theorem xw{tb tb':Tb}(l:ux tb tb')(k:Ky):wF tb k<=wF tb' k:=by
 unfold wF;cases h:aN tb k with
 |none=>exact Kh _
 |some v=>
  obtain⟨v',_,e⟩:=l k v h;rw[e];exact Kg _
theorem D4{tb tb':Tb}(l:ux tb tb')(ks:List Ky):oI ks tb<=oI ks tb':=tK λx _=>xw l x
theorem Cn{tb tb':Tb}(l:ux tb tb'){ks:List Ky}{k:Ky}{v:Int}(hk:k∈ks)(h:aN tb k=none)(h':aN tb' k=some v):oI ks tb+1<=oI ks tb':=rH (λx _=>xw l x) hk (by unfold wF;rw[h,h'];exact Nat.zero_lt_one)
structure TI(trs rs:Yaa)(q:aL)(ns:List (List Nat))(M L0:Nat)(tb0 tb:Tb)(op:Ky->Prop):Prop where
 nd:(tb.map (·.1)).Nodup
 le:ux tb0 tb
 out:∀k,k∉CK q ns->aN tb k=aN tb0 k
 snd:∀k∈CK q ns,∀v,aN tb k=some v->Dv rs k v
 sett:∀k∈CK q ns,∀v,aN tb k=some v->¬ op k->Ak trs q tb k v
 opk:∀k,op k->k∈CK q ns/\∃v,aN tb k=some v
 pos:∀k∈CK q ns,∀v,aN tb k=some v->1<=v/\v<=((M+9*oI (CK q ns) tb:Nat):Int)
 len:tb.length<=L0+oI (CK q ns) tb
theorem TI.op{trs rs:Yaa}{q:aL}{ns:List (List Nat)}{M L0:Nat}{tb0 tb:Tb}{op op':Ky->Prop}(h:TI trs rs q ns M L0 tb0 tb op)(h1:∀k,op' k->op k)(h2:∀k v,op k->¬ op' k->aN tb k=some v->Ak trs q tb k v):TI trs rs q ns M L0 tb0 tb op':=
 ⟨h.nd,h.le,h.out,h.snd,λk hk v e no=>by
  by_cases ho:op k
  ·exact h2 k v ho no e
  ·exact h.sett k hk v e ho,λk ho=>h.opk k (h1 k ho),h.pos,h.len⟩
theorem kJ{r:Nat×RV}(h:3<=r.1)(p:aL):cj r p=[[(bM (turned p (dP r.2.t.toNat)),r.2.o1)]]:=by
 unfold cj
 split
 ·omega
 ·omega
 ·omega
 ·rfl
structure G1(rs:Yaa)(ns:List (List Nat))(r:Nat×RV):Prop where
 mem:r∈rs
 k3:3<=r.1
 c1:1<=r.2.c
 c9:r.2.c<=9
 t0:0<=r.2.t
 t7:r.2.t<=7
 nm:r.2.n∈ns
theorem TI.low{trs rs:Yaa}{q:aL}{ns:List (List Nat)}{M L0 a c:Nat}{tb0 tb:Tb}{op:Ky->Prop}(h:TI trs rs q ns M L0 tb0 tb op)(hq:rect q a c)(a0:0<a)(c0:0<c)(hO:∀t,t<8->Bw (turned q t))(h8:ns.length<=8){r:Nat×RV}(hr:G1 rs ns r){t:Nat}(ht:t<8){v:Int}(hk:(bM (turned q t),r.2.o1)∈CK q ns)(hv:aN tb (bM (turned q t),r.2.o1)=some v) :
  TI trs rs q ns M L0 tb0 (dR tb (gR q r t) (v+r.2.c)) (λx=>op x\/(ik tb (gR q r t) (v+r.2.c)=true/\x=gR q r t))/\Ep (CK q ns) (M+576) (dR tb (gR q r t) (v+r.2.c))+(if ik tb (gR q r t) (v+r.2.c)=true then 1 else 0)<=Ep (CK q ns) (M+576) tb:=by
 have B:r.2.t.toNat<8:=by have:=hr.t0;have:=hr.t7;omega
 have G:=gB ht B;have g:gR q r t∈CK q ns:=jS.mpr ⟨_,G,_,hr.nm,rfl⟩;have m:Dv rs (gR q r t) (v+r.2.c):=by
  rw[Int.add_comm];refine Dv.one hr.mem (hO _ G) (k:=(bM (turned q t),r.2.o1)) ?_ (h.snd _ hk v hv);rw[kJ hr.k3];have C:=cT hq a0 c0 t;rw[<- bW hq a0 c0 ht B,iE C (by split<;>assumption) (by split<;>assumption) B];exact JX.mpr rfl
 have hc1:=hr.c1;have hc9:=hr.c9;obtain⟨p1,p2⟩:=h.pos _ hk v hv;generalize gR q r t=k' at g m ⊢;generalize hv':v+r.2.c=v' at m ⊢;cases o:ik tb k' v' with
 |false=>
  have e:dR tb k' v'=tb:=by unfold dR;rw[o];rfl
  rw[e];exact⟨h.op (λk hk=>hk.elim id λx=>q0Q x.1 (by simp)) λk v l p _=>q0Q (.inl l) p,by simp⟩
 |true=>
  have d:=wV tb k' v';have hcl:=D4 d (CK q ns);have b:aN (dR tb k' v') k'=some v':=by rw[iW,q07 ⟨rfl,o⟩]
  have D:=hU (CK q ns) (dR tb k' v');rw[tJ]at D;have j:∀w,aN tb k'=some w->v'<w:=λw i=>by
   unfold ik at o;rw[i]at o
   simpa using o
  have n:aN tb k'=none->oI (CK q ns) tb+1<=oI (CK q ns) (dR tb k' v'):=λJ=>Cn d g J b;have z:v'<=((M+9*oI (CK q ns) (dR tb k' v'):Nat):Int):=by
   cases i:aN tb k' with
   |none=>have:=n i;omega
   |some w=>
    have h1:=j w i;have h2:=(h.pos _ g w i).2;omega
  refine⟨⟨AM h.nd,h.le.trans d,λk hk=>?_,λk hk w e=>?_,λk hk w e p=>?_,λk l=>?_,λk hk w e=>?_,?_⟩,?_⟩
  ·rw[sf λe=>hk (by rw[e];exact g)];exact h.out k hk
  ·rcases rT e with e | ⟨rfl,rfl⟩
   ·exact h.snd k hk w e
   ·exact m
  ·have I:k≠k':=λe=>p (.inr ⟨rfl,e⟩)
   rw[sf I]at e;exact(h.sett k hk w e λl=>p (.inl l)).le d
  ·rcases l with l | ⟨_,rfl⟩
   ·obtain⟨h1,w,h2⟩:=h.opk k l
    obtain⟨y,_,L⟩:=d k w h2;exact⟨h1,y,L⟩
   ·exact⟨g,v',b⟩
  ·rcases rT e with e | ⟨rfl,rfl⟩
   ·have:=h.pos k hk w e
    exact⟨this.1,⋯⟩
   ·exact⟨⋯,z⟩
  ·have h1:=xv tb k' v'
   have h2:=h.len;cases i:aN tb k' with
   |none=>rw[i]at h1;have:=n i;simp at h1;omega
   |some w=>rw[i]at h1;simp at h1;omega
  ·rw[q07 rfl]
   refine rH (x:=k') (λx _=>?_) g ?_
   ·unfold Cl
    cases u:aN tb x with
    |none=>
     by_cases e:x=k'
     ·subst e;rw[b]
      show v'.toNat<=_;simp only;omega
     ·rw[sf e,u];exact Kg _
    |some w=>
     obtain⟨y,l1,O⟩:=d x w u;rw[O];show y.toNat<=w.toNat;omega
   ·unfold Cl
    rw[b];cases u:aN tb k' with
    |none=>show v'.toNat<_;simp only;omega
    |some w=>
     have:=j w u;show v'.toNat<w.toNat;omega
theorem TI.mu{trs rs:Yaa}{q:aL}{ns:List (List Nat)}{M L0:Nat}{tb0 tb:Tb}{op:Ky->Prop}(h:TI trs rs q ns M L0 tb0 tb op)(h8:ns.length<=8):Ep (CK q ns) (M+576) tb<=(M+577)*64:=by
 have h64:=hU (CK q ns) tb;have hl:=tJ q ns;have h1:Ep (CK q ns) (M+576) tb<=(M+577)*(CK q ns).length:=oK λx a=>by
  unfold Cl;cases b:aN tb x with
  |none=>exact Kg _
  |some v=>
   have:=(h.pos x a v b).2;show v.toNat<=_;omega
 exact Kn h1 (Nat.mul_le_mul_left _ ⋯)
theorem TI.len64{trs rs:Yaa}{q:aL}{ns:List (List Nat)}{M L0:Nat}{tb0 tb:Tb}{op:Ky->Prop}(h:TI trs rs q ns M L0 tb0 tb op)(h8:ns.length<=8):tb.length<=L0+64:=by
 have h64:=hU (CK q ns) tb;have hl:=tJ q ns;have:=h.len;omega
def lA(rs:Yaa)(n:Nat):List Nat:=match rs[n]? with
 |some r=>r.2.n
 |none=>[]
def pM(rs:Yaa)(p:aL)(tb:Tb)(ys:List (Int×Nat×List Ky)):Tb:=ys.foldl (λtb y=>dR tb (bM p,lA rs y.2.1) y.1) tb
def FA(rs:Yaa)(ns:KU)(p:aL)(tb:Tb):Tb:=pM rs p tb (ns.flatMap (cW (aN tb) rs p))
structure Gh(rs:Yaa)(p:aL)(tb tb':Tb)(ys:List (Int×Nat×List Ky)):Prop where
 le:ux tb tb'
 out:∀k:Ky,k.1≠bM p->aN tb' k=aN tb k
 all:∀y∈ys,∃v',v'<=y.1/\aN tb' (bM p,lA rs y.2.1)=some v'
 val:∀k v,aN tb' k=some v->aN tb k=some v\/∃y∈ys,k=(bM p,lA rs y.2.1)/\v=y.1
 len:tb'.length<=tb.length+ys.length
 nd:(tb.map (·.1)).Nodup->(tb'.map (·.1)).Nodup
theorem kL(rs:Yaa)(p:aL):∀(ys:List (Int×Nat×List Ky)) (tb:Tb),Gh rs p tb (pM rs p tb ys) ys
 | [],tb=>⟨ux.refl _,λ_ _=>rfl,(λy hy=>nomatch hy),λk v h=>.inl h,Kg _,id⟩
 |y::ys,tb=>by
  have ih:=kL rs p ys (dR tb (bM p,lA rs y.2.1) y.1);have e:pM rs p tb (y::ys)=pM rs p (dR tb (bM p,lA rs y.2.1) y.1) ys:=rfl;rw[e];refine⟨(wV _ _ _).trans ih.le,λk hk=>?_,λz hz=>?_,λk v h=>?_,?_,λnd=>ih.nd (AM nd)⟩
  ·rw[ih.out k hk,sf λq=>hk (by rw[q])]
  ·rcases J_.mp hz with rfl | hz
   ·obtain⟨v,l1,e1⟩:=xE tb (bM p,lA rs z.2.1) z.1
    obtain⟨v',l2,e2⟩:=ih.le _ _ e1;exact⟨v',Int.le_trans l2 l1,e2⟩
   ·exact ih.all z hz
  ·rcases ih.val k v h with h | ⟨z,hz,e1,e2⟩
   ·rcases rT h with h | ⟨e1,e2⟩
    ·exact .inl h
    ·exact .inr ⟨y,q0B ..,e1,e2⟩
   ·exact .inr ⟨z,J' _ hz,e1,e2⟩
  ·have h1:=ih.len
   have h2:=xv tb (bM p,lA rs y.2.1) y.1;rw[J6]
   split at h2<;>omega
theorem qx{T:Ky->Option Int}{rs:Yaa}{p:aL}{ns:KU}{y:Int×Nat×List Ky}(h:y∈ns.flatMap (cW T rs p)):y.2.1∈ns/\∃r,rs[y.2.1]?=some r/\y.2.2∈cj r p/\cv T r.2.c y.2.2=some y.1:=by
 obtain⟨n,d,a⟩:=List.mem_flatMap.mp h;unfold cW at a;cases hr:rs[n]? with
 |none=>rw[hr]at a;exact nomatch a
 |some r=>
  rw[hr]at a;unfold wI at a;obtain⟨w,b,e⟩:=List.mem_filterMap.mp a;obtain⟨c,g,rfl⟩:=Kk.mp e;exact⟨d,r,hr,b,g⟩
theorem zE{T:Ky->Option Int}{rs:Yaa}{p:aL}{ns:KU}{n:Nat}{r:Nat×RV}{w:List Ky}{v:Int}(hn:n∈ns)(hr:rs[n]?=some r)(hw:w∈cj r p)(hc:cv T r.2.c w=some v):(v,n,w)∈ns.flatMap (cW T rs p):=by
 refine List.mem_flatMap.mpr ⟨n,hn,?_⟩;unfold cW;rw[hr];exact List.mem_filterMap.mpr ⟨w,hw,by rw[hc];rfl⟩
theorem jC{T:Ky->Option Int}{rs:Yaa}{p:aL}{a c:Nat}(hp:iD p a c)(hg:∀r∈rs,r.1<4):∀ns:List Nat,(ns.flatMap (cW T rs p)).length<=6*ns.length
 | []=>Kg _
 |n::ns=>by
  have ih:=jC (T:=T) hp hg ns;rw[List.flatMap_cons,Kf,J6];have:(cW T rs p n).length<=6:=by
   unfold cW;cases hr:rs[n]? with
   |none=>exact Kh _
   |some r=>exact Kn (List.length_filterMap_le _ _) (qG (hg r (JZ hr)) hp)
  omega
def pta(rs:Yaa)(ns:KU)(q:aL)(tb:Tb):Nat->Tb
 |0=>tb
 |n+1=>FA rs ns (turned q n) (pta rs ns q tb n)
def fb(rs:Yaa):List Nat:=rs.zipIdx.filterMap λx=>if x.1.1=3 then none else some x.2
theorem ky{rs:Yaa}{n:Nat}:n∈fb rs↔∃r,rs[n]?=some r/\r.1≠3:=by
 unfold fb;rw[List.mem_filterMap]
 constructor
 ·rintro⟨⟨r,i⟩,hm,e⟩
  have hi:=List.mem_zipIdx_iff_getElem?.mp hm
  split at e
  ·cases e
  ·rename_i h
   injection e with e
   subst e;exact⟨r,hi,h⟩
 ·rintro⟨r,hr,h⟩
  exact⟨(r,n),List.mem_zipIdx_iff_getElem?.mpr hr,by rw[q06 h]⟩
def nW(rs:Yaa):Yaa:=rs.filter λr=>decide (r.1=3)
structure Do(rs:Yaa)(ns:KU)(q:aL)(tb0 tb:Tb)(n:Nat):Prop where
 le:ux tb0 tb
 out:∀k:Ky,(∀t,t<8->k.1≠bM (turned q t))->aN tb k=aN tb0 k
 all:∀t,t<n->∀m∈ns,∀r,rs[m]?=some r->∀w∈cj r (turned q t),∀v,cv (aN tb0) r.2.c w=some v->∃v',v'<=v/\aN tb (bM (turned q t),r.2.n)=some v'
 val:∀k v,aN tb k=some v->aN tb0 k=some v\/∃t,t<8/\∃r∈rs,r.1≠3/\∃w∈cj r (turned q t),cv (aN tb0) r.2.c w=some v/\k=(bM (turned q t),r.2.n)
 len:tb.length<=tb0.length+6*ns.length*n
 nd:(tb0.map (·.1)).Nodup->(tb.map (·.1)).Nodup
theorem vi{rs:Yaa}{n:Nat}{r:Nat×RV}(h:rs[n]?=some r):lA rs n=r.2.n:=by unfold lA;rw[h]
theorem uy{rs:Yaa}{q:aL}{tb0:Tb}{a c:Nat}(hg:∀r∈rs,r.1<4)(h6:∀t,t<8->∃a c,iD (turned q t) a c)
  (hK:∀t,t<8->∀r∈rs,r.1≠3->∀w∈cj r (turned q t),∀k∈w,∀t',t'<8->k.1≠bM (turned q t')):∀n,n<=8->Do rs (fb rs) q tb0 (pta rs (fb rs) q tb0 n) n
 |0,_=>⟨ux.refl _,λ_ _=>rfl,λt ht=>q0Q ht (Nat.not_lt_zero _),λk v h=>.inl h,by simp[pta],id⟩
 |n+1,hn=>by
  have ih:=uy (tb0:=tb0) (a:=a) (c:=c) hg h6 hK n ⋯;have e:pta rs (fb rs) q tb0 (n+1)=FA rs (fb rs) (turned q n) (pta rs (fb rs) q tb0 n):=rfl;rw[e];generalize pta rs (fb rs) q tb0 n=tb at ih ⊢;unfold FA;have ps:=kL rs (turned q n) ((fb rs).flatMap (cW (aN tb) rs (turned q n))) tb;obtain⟨a',c',h6'⟩:=h6 n ⋯;have hl:=jC (T:=aN tb) h6' hg (fb rs);have same:∀{r:Nat×RV},r∈rs->r.1≠3->∀{w:List Ky},w∈cj r (turned q n)->cv (aN tb) r.2.c w=cv (aN tb0) r.2.c w:=fun{r} hr h3 {w} hw=>jb λk hk=>ih.out k λt' ht'=>hK n ⋯ r hr h3 w hw k hk t' ht';refine⟨ih.le.trans ps.le,λk hk=>?_,λt ht m hm r hr w hw v hv=>?_,λk v h=>?_,?_,λnd=>ps.nd (ih.nd nd)⟩
  ·rw[ps.out k (hk n ⋯)];exact ih.out k hk
  ·by_cases et:t=n
   ·subst et
    obtain⟨r',hr',h3⟩:=ky.mp hm;rw[hr]at hr';cases hr'
    obtain⟨v',l',e'⟩:=ps.all _ (zE (v:=v) hm hr hw (by rw[same (JZ hr) h3 hw];exact hv));rw[show lA rs m=r.2.n from vi hr]at e';exact⟨v',l',e'⟩
   ·obtain⟨v1,l1,e1⟩:=ih.all t ⋯ m hm r hr w hw v hv
    obtain⟨v2,l2,e2⟩:=ps.le _ _ e1;exact⟨v2,Int.le_trans l2 l1,e2⟩
  ·rcases ps.val k v h with h | ⟨y,hy,e1,e2⟩
   ·exact ih.val k v h
   ·obtain⟨h1,r,h2,h3,h4⟩:=qx hy
    obtain⟨r',hr',h5⟩:=ky.mp h1;rw[h2]at hr';cases hr'
    have hm:=JZ h2;rw[vi h2]at e1;exact .inr ⟨n,⋯,r,hm,h5,_,h3,by rw[<- same hm h5 h3,h4,e2],e1⟩
  ·have h1:=ps.len
   have h2:=ih.len;rw[Nat.mul_add];omega
theorem hJ{q:aL}{a c:Nat}(hq:rect q a c)(a0:0<a)(c0:0<c)(t:Nat):bJ (turned q t)=bJ q:=by
 have b:=cT hq a0 c0 t;unfold bJ;rw[b.1,bg b (by split<;>assumption),hq.1,bg hq a0]
 split
 ·rfl
 ·rw[Nat.mul_comm]
theorem Dd{r:Nat×RV}{q:aL}{a c:Nat}(hq:rect q a c)(a0:0<a)(c0:0<c){k1 k2:Ky}(hw:[k1,k2]∈cj r q):∃q1 q2,(∃t l b x,t<b/\b<=a/\l<x/\x<=c/\q1=cut q t l b x)/\(∃t l b x,t<b/\b<=a/\l<x/\x<=c/\q2=cut q t l b x)/\k1.1=bM q1/\k2.1=bM q2/\bJ q1+bJ q2=bJ q:=by
 have d:∀{t l b x:Nat},t<b->b<=a->l<x->x<=c->bJ (cut q t l b x)=(b-t)*(x-l):=by
  intro t l b x h1 h2 o n;have k:=cE hq h1 h2 o n;unfold bJ;rw[k.1,bg k ⋯]
 have all:bJ q=a*c:=by unfold bJ;rw[hq.1,bg hq a0]
 unfold cj at hw
 split at hw
 ·split at hw
  ·exact nomatch JX.mp hw
  ·exact nomatch hw
 ·obtain⟨m,i,e⟩:=KF.mp hw
  unfold b8 at i;obtain⟨j,g,rfl⟩:=KF.mp i;have g:=List.mem_range.mp g;rw[bg hq a0]at g
  injection e with e1 e2
  injection e2 with e2 _
  subst e1;subst e2
  refine⟨_,_,⟨0,0,a,j+1,a0,Kg _,⋯,⋯,rfl⟩,⟨0,j+1,a,c,a0,Kg _,⋯,Kg _,rfl⟩,q0R bM (qO hq),q0R bM (qC hq),?_⟩;rw[d a0 (Kg _) ⋯ ⋯,d a0 (Kg _) ⋯ (Kg _),all,<- Nat.mul_add]
  congr 1;omega
 ·obtain⟨m,i,e⟩:=KF.mp hw
  unfold b8 at i;obtain⟨j,g,rfl⟩:=KF.mp i;have g:=List.mem_range.mp g;rw[hq.1]at g
  injection e with e1 e2
  injection e2 with e2 _
  subst e1;subst e2
  refine⟨_,_,⟨0,0,j+1,c,⋯,⋯,c0,Kg _,rfl⟩,⟨j+1,0,a,c,⋯,Kg _,c0,Kg _,rfl⟩,q0R bM (ql hq),q0R bM (qr hq),?_⟩;rw[d ⋯ ⋯ c0 (Kg _),d ⋯ (Kg _) c0 (Kg _),all,<- Nat.add_mul]
  congr 1;omega
 ·exact nomatch JX.mp hw
structure ES(rs:Yaa)(nms:List (List Nat))(p:aL)(r c:Nat)(dn:K3)(tb:Tb):Prop where
 nd:(tb.map (·.1)).Nodup
 key:∀k v,aN tb k=some v->tx k.1∈dn/\k.2∈nms/\Dv rs k v/\1<=v
 bnd:∀k v,aN tb k=some v->∀q,ba p r c q->k.1=bM q->v+585<=1170*(bJ q:Int)
 don:∀z∈dn,∃q,ba p r c q/\z=tx (bM q)
 tur:∀q,ba p r c q->tx (bM q)∈dn->∀t,t<8->tx (bM (turned q t))∈dn
 prt:∀q,ba p r c q->tx (bM q)∈dn->∀x∈rs,∀w∈cj x q,∀k∈w,tx k.1∈dn
 clo:∀q,ba p r c q->tx (bM q)∈dn->GX rs (aN tb) q
structure gK(rs:Yaa)(nms:List (List Nat))(p:aL)(r c:Nat):Prop where
 hp:rect p r c
 r0:0<r
 c0:0<c
 r6:r<=6
 c6:c<=6
 ns:bG p
 gd:∀x∈rs,qV x
 nm:∀x∈rs,x.2.n∈nms
 n8:nms.length<=8
 r24:rs.length<=24
theorem gK.turn3{rs:Yaa}{nms:List (List Nat)}{p:aL}{r c:Nat}(E:gK rs nms p r c){x:Nat×RV}(h:x∈nW rs):G1 rs nms x:=by
 obtain⟨h1,h2⟩:=List.mem_filter.mp h;have h3:x.1=3:=by simpa using h2
 have g:=(E.gd x h1).good;exact⟨h1,⋯,g.c1,g.c9,g.t0,g.t7,E.nm x h1⟩
structure tN(rs:Yaa)(p:aL)(r c:Nat)(dn:K3)(q:aL):Prop where
 sq:ba p r c q
 fr:∀t,t<8->tx (bM (turned q t))∉dn
 pt:∀q',ba p r c q'->bJ q'<bJ q->tx (bM q')∈dn
theorem tN.parts{rs:Yaa}{nms:List (List Nat)}{p:aL}{r c:Nat}{dn:K3}{q:aL}(E:gK rs nms p r c)(N:tN rs p r c dn q){t:Nat}(ht:t<8){x:Nat×RV}(hx:x∈rs)(h3:x.1≠3){w:List Ky}(hw:w∈cj x (turned q t)){k:Ky}(hk:k∈w):∃q',ba p r c q'/\k.1=bM q'/\tx k.1∈dn:=by
 have g:=E.gd x hx;obtain⟨a,b,h1,h2,i,_⟩:=N.sq.rect E.hp;obtain⟨q',d,e,h⟩:=kj E.hp (N.sq.turned E.hp ht) g.good.t0 g.good.t7 hw hk;rcases h with h | h
 ·rw[hJ h1 h2 i]at h
  exact⟨q',d,e,by rw[e];exact N.pt q' d h⟩
 ·have:=g.k4
  omega
theorem tN.notIn{rs:Yaa}{nms:List (List Nat)}{p:aL}{r c:Nat}{dn:K3}{q:aL}(N:tN rs p r c dn q){k:Ky}(h:tx k.1∈dn){t:Nat}(ht:t<8):k.1≠bM (turned q t):=λe=>N.fr t ht (by rw[<- e];exact h)
theorem sT{p q:aL}{r c:Nat}(hp:rect p r c)(r6:r<=6)(c6:c<=6)(h:ba p r c q):∃a b,iD q a b:=by
 obtain⟨a,b,h1,h2,d,h4,h5⟩:=h.rect hp;exact⟨a,b,h1,h2,⋯,d,⋯⟩
theorem ES.pta{rs:Yaa}{nms:List (List Nat)}{p:aL}{r c:Nat}{dn:K3}{q:aL}{tb:Tb}(E:gK rs nms p r c)(N:tN rs p r c dn q)(S:ES rs nms p r c dn tb):∀n,n<=8->Do rs (fb rs) q tb (pta rs (fb rs) q tb n) n:=
 uy (a:=0) (c:=0) (λx hx=>(E.gd x hx).k4) (λt ht=>sT E.hp E.r6 E.c6 (N.sq.turned E.hp ht)) λt ht x hx h3 w hw k hk t' ht'=>by
  obtain⟨_,_,_,h⟩:=N.parts E ht hx h3 hw hk;exact N.notIn (nms:=nms) h ht'
theorem qk{p q:aL}{r c:Nat}(hp:rect p r c)(h:ba p r c q):1<=bJ q:=by
 obtain⟨a,b,h1,h2,d,_⟩:=h.rect hp;unfold bJ;rw[h1.1,bg h1 h2];exact Nat.mul_pos h2 d
theorem ES.start{rs:Yaa}{nms:List (List Nat)}{p:aL}{r c:Nat}{dn:K3}{q:aL}{tb tb8:Tb}(E:gK rs nms p r c)(N:tN rs p r c dn q)(S:ES rs nms p r c dn tb)(PS:Do rs (fb rs) q tb tb8 8) :
  TI (nW rs) rs q nms (1170*bJ q-1161) tb8.length tb8 tb8 (λk=>k∈CK q nms/\∃v,aN tb8 k=some v):=by
 have hcp:=qk E.hp N.sq;have new:∀k∈CK q nms,∀v,aN tb8 k=some v->Dv rs k v/\1<=v/\v<=((1170*bJ q-1161:Nat):Int):=by
  intro k hk v hv;rcases PS.val k v hv with h | ⟨t,ht,x,hx,h3,w,hw,hc,rfl⟩
  ·obtain⟨t,ht,n,_,rfl⟩:=jS.mp hk
   exact q0Q (S.key _ v h).1 (N.fr t ht)
  ·have g:=(E.gd x hx).good
   have hst:=N.sq.turned E.hp ht;have g1:=g.c1;have g9:=g.c9;refine⟨Cp hx (eN E.hp E.ns hst) hw hc λk hk u hu=>(S.key k u hu).2.2.1,?_⟩;rcases qw hw with rfl | ⟨k,rfl⟩ | ⟨k1,k2,rfl⟩
   ·injection hc with hc
    omega
   ·obtain⟨a,b,h1,h2,h4,_⟩:=hst.rect E.hp
    rcases qI h1 h2 h4 hw (JX.mpr rfl) with⟨t,l,b,y,k1,k2,k3,k4,k5,k6,k7⟩ | ⟨k1,_⟩
    ·exfalso
     unfold cj at hw
     split at hw
     ·split at hw
      ·exact nomatch JX.mp hw
      ·exact nomatch hw
     ·obtain⟨_,_,e⟩:=KF.mp hw;exact nomatch e
     ·obtain⟨_,_,e⟩:=KF.mp hw;exact nomatch e
     ·rename_i y z0 z1 z2
      rcases hh:x.1 with _ | _ | _ | n
      ·exact q0Q hh z0
      ·exact q0Q hh z1
      ·exact q0Q hh z2
      ·omega
    ·have:=(E.gd x hx).k4
     omega
   ·obtain⟨u1,u2,e1,e2,rfl⟩:=vc hc
    obtain⟨a,b,h1,h2,h4,_⟩:=hst.rect E.hp;obtain⟨q1,q2,⟨t1,l1,b1,x1,m1,m2,m3,m4,rfl⟩,⟨t2,l2,b2,x2,n1,n2,n3,n4,rfl⟩,f1,f2,f3⟩:=Dd h1 h2 h4 hw;rw[hJ (N.sq.rect E.hp).choose_spec.choose_spec.1 (N.sq.rect E.hp).choose_spec.choose_spec.2.1 (N.sq.rect E.hp).choose_spec.choose_spec.2.2.1]at f3;have o1:=S.bnd k1 u1 e1 _ (hst.cut E.hp h1 m1 m2 m3 m4) f1;have o2:=S.bnd k2 u2 e2 _ (hst.cut E.hp h1 n1 n2 n3 n4) f2;have p1:=(S.key k1 u1 e1).2.2.2;have p2:=(S.key k2 u2 e2).2.2.2;omega
 refine⟨PS.nd S.nd,ux.refl _,λ_ _=>rfl,λk hk v hv=>(new k hk v hv).1,λk hk v hv no=>q0Q ⟨hk,v,hv⟩ no,λk ho=>ho,λk hk v hv=>?_,Nat.le_add_right _ _⟩;have:=new k hk v hv;exact⟨this.2.1,⋯⟩
theorem ES.enter{rs:Yaa}{nms:List (List Nat)}{p:aL}{r c:Nat}{dn dn':K3}{q:aL}{tb tb8 tb':Tb}(E:gK rs nms p r c)(N:tN rs p r c dn q)(S:ES rs nms p r c dn tb)(PS:Do rs (fb rs) q tb tb8 8)
  (h:TI (nW rs) rs q nms (1170*bJ q-1161) tb8.length tb8 tb' (λ_=>False)) (hd:∀z,z∈dn'↔z∈dn\/∃t,t<8/\z=tx (bM (turned q t))):ES rs nms p r c dn' tb':=by
 have hcp:=qk E.hp N.sq;obtain⟨a0,b0,B,y,o,_⟩:=N.sq.rect E.hp;have T:∀t,t<8->Bw (turned q t):=λt d=>eN E.hp E.ns (N.sq.turned E.hp d);have ck:∀k,k∉CK q nms->∀v,aN tb' k=some v->aN tb k=some v:=λk b v j=>by
  rw[h.out k b]at j;rcases PS.val k v j with e | ⟨t,d,x,C,_,w,_,_,rfl⟩
  ·exact e
  ·exact q0Q (jS.mpr ⟨t,d,_,E.nm x C,rfl⟩) b
 have M:∀k:Ky,tx k.1∈dn->aN tb' k=aN tb k:=λk b=>by
  have nc:∀t,t<8->k.1≠bM (turned q t):=λt d=>N.notIn (nms:=nms) b d;rw[h.out k λe=>by obtain⟨t,d,n,_,rfl⟩:=jS.mp e;exact nc t d rfl,PS.out k nc]
 have h64:=hU (CK q nms) tb';have hl:=tJ q nms;have n8:=E.n8;have L:∀{i:aL},ba p r c i->tx (bM i)∈dn'->tx (bM i)∈dn\/∃t,t<8/\i=turned q t:=fun{i} l I=>by
  rcases(hd _).mp I with h | ⟨t,d,e⟩
  ·exact .inl h
  ·exact .inr ⟨t,d,(eN E.hp E.ns l).inj (T t d) (tx_inj e)⟩
 refine⟨h.nd,λk v j=>?_,λk v j i l e=>?_,λz I=>?_,λi l I t d=>?_,λi l I x C w D k b=>?_,λi l I x C w D v j=>?_⟩
 ·by_cases b:k∈CK q nms
  ·obtain⟨t,d,n,hn,rfl⟩:=jS.mp b
   exact⟨(hd _).mpr (.inr ⟨t,d,rfl⟩),hn,h.snd _ b v j,(h.pos _ b v j).1⟩
  ·obtain⟨k1,k2⟩:=S.key k v (ck k b v j)
   exact⟨(hd _).mpr (.inl k1),k2⟩
 ·by_cases b:k∈CK q nms
  ·have:=(h.pos _ b v j).2
   obtain⟨t,d,n,hn,rfl⟩:=jS.mp b;have Y:=(T t d).inj (eN E.hp E.ns l) e;rw[<- Y,hJ B y o];omega
  ·exact S.bnd k v (ck k b v j) i l e
 ·rcases(hd z).mp I with h1 | ⟨t,d,rfl⟩
  ·exact S.don z h1
  ·exact⟨_,N.sq.turned E.hp d,rfl⟩
 ·rcases L l I with h1 | ⟨u,G,rfl⟩
  ·exact(hd _).mpr (.inl (S.tur i l h1 t d))
  ·exact(hd _).mpr (.inr ⟨after u t,gB G d,by rw[bW B y o G d]⟩)
 ·rcases L l I with h1 | ⟨u,G,rfl⟩
  ·exact(hd _).mpr (.inl (S.prt i l h1 x C w D k b))
  ·have g:=(E.gd x C).good
   by_cases U:x.1=3
   ·rw[kJ ⋯]at D
    rw[JX.mp D]at b;rw[JX.mp b];have R:dP x.2.t.toNat<8:=i5 (by have:=g.t0;have:=g.t7;omega);exact(hd _).mpr (.inr ⟨after u (dP x.2.t.toNat),gB G R,by rw[bW B y o G R]⟩)
   ·obtain⟨_,_,_,h5⟩:=N.parts E G C U D b
    exact(hd _).mpr (.inl h5)
 ·rcases L l I with h1 | ⟨u,G,rfl⟩
  ·rw[jb (T':=aN tb) λk b=>M k (S.prt i l h1 x C w D k b)]at j
   rw[M (bM i,x.2.n) h1];exact S.clo i l h1 x C w D v j
  ·have g:=(E.gd x C).good
   by_cases U:x.1=3
   ·have J:x.2.t.toNat<8:=by have:=g.t0;have:=g.t7;omega
    have R:dP x.2.t.toNat<8:=i5 J;rw[kJ ⋯]at D;rw[JX.mp D]at j;obtain⟨a,ha,rfl⟩:=o9 j;have O:=gB G R;have Z:=cT B y o u;have et:turned (turned q u) (dP x.2.t.toNat)=turned q (after u (dP x.2.t.toNat)):=bW B y o G R;rw[et]at ha
    by_cases b:(bM (turned q (after u (dP x.2.t.toNat))),x.2.o1)∈CK q nms
    ·obtain⟨v',l',Y⟩:=h.sett _ b a ha id x (List.mem_filter.mpr ⟨C,by simpa using U⟩) rfl _ O rfl
     refine⟨v',⋯,?_⟩;have e2:turned q (after (after u (dP x.2.t.toNat)) x.2.t.toNat)=turned q u:=by
      rw[<- bW B y o O J,<- et,bW Z (by split<;>assumption) (by split<;>assumption) R J,vz J,lW]
     unfold gR at Y;rw[e2]at Y;exact Y
    ·exact q0Q (S.key _ a (ck _ b a ha)).1 (N.fr _ O)
   ·have hc:cv (aN tb) x.2.c w=some v:=by
     rw[<- j];exact jb λk b=>by
      obtain⟨_,_,_,h5⟩:=N.parts E G C U D b;exact(M k h5).symm
    obtain⟨m,hm⟩:=List.mem_iff_getElem?.mp C;obtain⟨v1,l1,e1⟩:=PS.all u G m (ky.mpr ⟨x,hm,U⟩) x hm w D v hc;obtain⟨v2,l2,e2⟩:=h.le _ _ e1;exact⟨v2,Int.le_trans l2 l1,e2⟩
abbrev rL:Stmt:=fU 53
inductive n6(vs:List V)(H:Hp)(Q:VK)(_E:XK):Prop
 |mk (d b:Addr) (tb:Tb) (k:Ky) (v:Int) (_:vs=[.ref d,.ref b,.int v]) (_:cy H d tb) (_:bI H b k) (_:tb.length<sizeLine) (_:∀H',cy H' d (dR tb k v)->bj d H H'->Q (.bl (ik tb k v)) H')
theorem B5:aH ["told","key","cost"] ["told","key","cost"] (aw rL):=by walk_at "c"
theorem zV{f:Addr}{fd:K1}(F:dw K "lower" "lower" rL f fd)(nb:NB mg):bw P w K mg base bD 1 f fd ["told","key","cost"] n6:=by
 have sc:=B5;walk_at "f"
 ·obtain⟨d,b,tb,k,v,rfl,m,n,o,q⟩:=h
  have l:=m.told.get n;have j:=hr.units;have fin:ik tb k v=true->∀H2,H2=aE H d (.dT (dH (tb.map ft) (iS k) (.int v)))->Q (.bl true) H2:=λa H2 e=>by
   have p:dR tb k v=mP tb k v:=by unfold dR;rw[q07 a]
   have:=q H2 (by rw[p,e,uH];exact ag) (by rw[e];exact(bj.of λ_ _ h=>h).put)
   rwa [a]at this
  have c:vE H d (.ref b) (.int v) (aE H d (.dT (dH (tb.map ft) (iS k) (.int v)))):=vE.t m n (by rw[JW];exact o);refine⟨_,(ae (bT (PW.pt (fM (oy (vO (KC (KH (by decide:1<=64) _) j) (ao 1) (ao 0)) (by with_unfolding_all rfl)) (eC (aT (bd.m0 qp) (kh (KC (KH (by decide:1<=64) _) j) (ao 0) (ao 1) (λ_ _=>rfl)) (ao 2) (bf _)))))
   (ai (aO iG))
   bh)
   (ae (kf (KC (KH (by decide:1<=64) _) j) (ao 0) (ao 1) (ao 2) rfl)
   (ai (aO iG)))),?_⟩
  walk_at "n";refine⟨_,l,?_⟩;cases i:aN tb k with
  |none=>
   rw[q06 (by simp)];refine h1 _ _ ?_;walk_at "wp";exact⟨_,c,fin (by unfold ik;rw[i]) _ rfl⟩
  |some u=>
   rw[i]at l;rw[q07 (by rfl)];refine⟨_,l,u,rfl,?_⟩
   by_cases g:u<=v
   ·rw[q07 g]
    have a:ik tb k v=false:=by unfold ik;rw[i];simp;omega
    have:=q H (by unfold dR;rw[a];exact m) (bj.of λ_ _ h=>h)
    rwa [a]at this
   ·rw[q06 g]
    refine h1 _ _ ?_;walk_at "wp";exact⟨_,c,fin (by unfold ik;rw[i];simp;omega) _ rfl⟩
abbrev fJ:Stmt:=fU 52
inductive iw(R:RC)(CG CC:Addr)(vs:List V)(H:Hp)(Q:VK)(_E:XK):Prop
 |mk (g dx ln cu d:Addr) (sg st:KU) (as:KZ) (rs:Yaa) (ns:KU) (p:aL) (r c:Nat) (tb:Tb) (_:vs=[.ref g,.ref ln,.ref cu,.ref d]) (_:dJ R H CG dx g sg st as rs) (_:(∀r∈rs,qV r)) (_:H ln=some (.lst (xi ns))) (_:(∀n∈ns,n<rs.length)) (_:ns.length<=100) (_:eV CC H cu p) (_:iD p r c) (_:cy H d tb) (_:tb.length<=10000000) (_:∀H',cy H' d (FA rs ns p tb)->bj d H H'->Q .non H')
theorem mM:aH ["grammar","numbers","cuts","told","cost","number","way"] ["grammar","numbers","cuts","told"] (aw fJ):=by walk_at "c"
theorem mK{R:RC}{f CG CC:Addr}{fd:K1}(F:dw K "put_together" "put_together" fJ f fd)(nb:NB mg)(rk:lC K R)(clC:jx K CC)(naC:DN K CC)(yai:ji P w K mg base bD 1 CG "rule" ["self","k"] (fz R CG))(yaJ:dF P w K mg base bD 6 "coming" ["grammar","numbers","cuts","told"] (qZ R CG CC))(yaf:dF P w K mg base bD 1 "lower" ["told","key","cost"] n6):bw P w K mg base bD 7 f fd ["grammar","numbers","cuts","told"] (iw R CG CC):=by
 have sc:=mM;walk_at "f"
 ·obtain⟨g,dx,ln,cu,d,sg,st,as,a,ns,p,r,c,tb,rfl,hG,hg,a5,G,o,hC,hp,hT,htl,q⟩:=h
  have hu:=hr.units;refine⟨_,(ai (aY PassesOwn.never rfl (bN (q00 yaJ hr (ac (ao 0) (ac (ao 1) (ac (ao 2) (ac (ao 3) ad)))))) (ic (n:=3) rfl (bp (q02 4 sc.nd) (bp (q02 5 sc.nd) (bp (q02 6 sc.nd) dB))))
   (ai (bi (q00 yaf hr (ac (ao 3) (ac (bZ (ac (cH (ao 2) rfl) (ac (cH (sH yai (hr.mono (by decide)) aK (ao 0) (ac (ao 5) ad)) rfl) ad))) (ac (ao 4) ad)))))))),?_⟩
  walk_at "wp";refine⟨g,dx,ln,cu,d,sg,st,as,a,ns,p,r,c,aN tb,rfl,hG,hg,a5,G,o,hC,hp,hT.told,λl H1 hl hL M=>?_⟩;obtain⟨bs,hb,hA⟩:=hL;have u:cy H1 d tb:=hT.up M;have a9:=hG.up M;have b0:=hC.up M;have a0:=jC (T:=aN tb) hp (λr hr=>(hg r hr).k4) ns;have z:∀y∈ns.flatMap (cW (aN tb) a p),y.2.1∈ns:=λy O=>(qx O).1;have a4:FA a ns p tb=pM a p tb (ns.flatMap (cW (aN tb) a p)):=rfl;rw[a4]at q;generalize ns.flatMap (cW (aN tb) a p)=ys at hA a0 z q;have a7:=hA.1;refine⟨l,rfl,⟨_,aM.of hb⟩,?_⟩;refine b5 (xs:=bs.map V.ref) (λi σ v=>bj d H1 v/\cy v d (pM a p tb (ys.take i))/\i<=bs.length/\∃Y U S,σ=[some (V.ref g),some (V.ref ln),some (V.ref cu),some (V.ref d),Y,U,S]) ⟨bj.of λ_ _ h=>h,u,Kh _,_,_,_,rfl⟩ (λi σ v _ h=>aM.of ((h.1.kp u).lst hb)) ?_ ?_
  ·rintro i x σ v hx ⟨L,k,_,Y,U,S,rfl⟩
   rw[JY]at hx;obtain⟨b,I,rfl⟩:=Kk.mp hx;have hi:=(JU.mp I).1;obtain⟨y,O,a1⟩:=hA.get I;have kp:=L.kp u;obtain⟨lw,a8,_⟩:=a1.kp kp;obtain⟨j,m⟩:∃j,a[y.2.1]?=some j:=⟨_,JT (G _ (z y (JZ O)))⟩;have J:=a9.kp kp;obtain⟨dxc,lp,lb,la,a6,_⟩:=b0.kp kp;obtain⟨lk,pn,t0,ha,hkk,C,hN,hmm⟩:=id J;obtain⟨ra,D⟩:∃b,as[y.2.1]?=some b:=⟨_,JT (by rw[C.1];exact(JU.mp m).1)⟩;obtain⟨rdx,rl,a3,_⟩:=C.2 _ ra j D m;walk_at "wp";refine⟨_,dZ.of a8,rfl,_,_,rfl,_,_,rfl,_,_,rfl,rfl,?_⟩;refine⟨_,_,_,a6,clC,naC.2.1,_,rfl,dx,_,ha,rfl,g,dx,sg,st,as,a,y.2.1,ra,rfl,J,D,?_⟩;refine⟨ra,rfl,_,_,_,a3,(rk.icls j.1).cl,(rk.name j.1).1,_,(iX rl j.2 j.1).1,ay (by decide),λtp B=>?_⟩;have hps:=(kL a p (ys.take i) tb).len;have htk:(ys.take i).length<=ys.length:=by rw[Kw];omega
   refine⟨d,tp,pM a p tb (ys.take i),(bM p,j.2.n),y.1,rfl,k.up (ar B),ag,?_,λH2 a2 Z=>⟨L.trans ((bj.of (ar B)).trans Z),?_,hi⟩⟩
   ·have:=q0W;omega
   ·have e:pM a p tb (ys.take (i+1))=dR (pM a p tb (ys.take i)) (bM p,j.2.n) y.1:=by
     unfold pM;rw[q0E,O,List.foldl_append];show dR _ (bM p,lA a y.2.1) y.1=_;rw[show lA a y.2.1=j.2.n by unfold lA;rw[m]]
    rw[e];exact a2
  ·rintro σ v ⟨L,k,_,Y,U,S,rfl⟩
   rw[JW,a7,Kv]at k;exact q v k ((bj.of M).trans L)
abbrev rR:Stmt:=fU 20
inductive t5(vs:List V)(H:Hp)(Q:VK)(_E:XK):Prop
 |mk (t u:Nat) (_:vs=[.int (t:Int),.int (u:Int)]) (_:t<8) (_:u<8) (_:Q (.int (after t u:Nat)) H)
theorem BZ:aH ["t","u"] ["t","u"] (aw rR):=by walk_at "c"
theorem AW{f:Addr}{fd:K1}(F:dw K "after" "after" rR f fd):bw P w K mg base bD 1 f fd ["t","u"] t5:=by
 have sc:=BZ;walk_at "f"
 ·obtain⟨t,u,rfl,ht,hu,q⟩:=h
  refine⟨_,(ae (bT (aT nr (pv 1) af (bf _))
   (ai (aO (au br (au eZ (au aP (pv 0) af) af) (au aR (au br (pv 0) (pv 1)) af))))
   bh)
   (ai (aO (au br (au eZ (au ii af (au aP (pv 0) af)) af) (au aR (au ii (pv 1) (pv 0)) af))))),?_⟩
  walk_at "wp"
  split
  ·have e:((after t u:Nat):Int)=(t:Int)/4*4+((t:Int)+u)%4:=by unfold after;rw[q07 ⋯];omega
   rw[<- e];exact q
  ·have e:((after t u:Nat):Int)=(1-(t:Int)/4)*4+((u:Int)-t)%4:=by unfold after;rw[q06 ⋯];omega
   rw[<- e];exact q
theorem bu.app{β:Type}{A:Hp->Addr->β->Prop}{H:Hp}:∀{bs2:KZ} {ys2:List β} {bs:KZ} {ys:List β},bu A H bs ys->bu A H bs2 ys2->bu A H (bs++bs2) (ys++ys2)
 | [],[],bs,ys,h,_=>by rw[Ks,Ks];exact h
 | [],_::_,_,_,_,h2=>nomatch h2.1
 |_::_,[],_,_,_,h2=>nomatch h2.1
 |b::bs2,y::ys2,bs,ys,h,h2=>by
  have h3:bu A H bs2 ys2:=⟨Nat.succ.inj h2.1,λi c z e1 e2=>h2.2 (i+1) c z e1 e2⟩;have:=bu.app (h.snoc (h2.2 0 b y rfl rfl)) h3
  rwa [Kt,Kt]at this
theorem Bi{H:Hp}{a b:Addr}{xs:List V}{Q:VK}{neg:Bool}(ha:H a=some (.lst xs))(hb:H b=some (.lst []))(q:Q (.bl (xs.isEmpty != neg)) H):DA K neg (.ref a) (.ref b) H Q:=by
 cases xs with
 |nil=>
  refine .inl ⟨[],by unfold Dt.deps;omega,.inl ⟨?_,?_⟩,by simpa using q⟩
  ·unfold kC;exact⟨a,_,rfl,aM.of ha,by unfold eY;rfl⟩
  ·unfold kC;exact⟨b,_,rfl,aM.of hb,by unfold eY;rfl⟩
 |cons x xs=>exact .inr ⟨a,b,_,_,rfl,rfl,aM.of ha,aM.of hb,by simp,by simpa using q⟩
def fA(q:aL):List Str:=(List.range 8).map λt=>tx (bM (turned q t))
def jr(q:aL)(ns:List (List Nat))(tb:Tb)(n:Nat):List Ky:=((List.range n).flatMap λt=>ns.map λn=>(bM (turned q t),n)).filter λk=>(aN tb k).isSome
theorem pf(q:aL)(ns:List (List Nat))(tb:Tb)(n:Nat):jr q ns tb (n+1)=jr q ns tb n++ns.filterMap λm=>if(aN tb (bM (turned q n),m)).isSome=true then some (bM (turned q n),m) else none:=by
 unfold jr;rw[q0M,List.flatMap_append,List.filter_append]
 congr 1
 rw[show([n].flatMap λt=>ns.map λn=>(bM (turned q t),n))=ns.map λm=>(bM (turned q n),m) by simp]
 induction ns with
 |nil=>rfl
 |cons m ns ih=>
  rw[Km,List.filter_cons,q0U];cases h:(aN tb (bM (turned q n),m)).isSome with
  |true=>simp only[q07];rw[ih]
  |false=>simp only[q0a,if_false];exact ih
theorem lJ(q:aL)(ns:List (List Nat))(tb:Tb):∀n,(jr q ns tb n).length<=n*ns.length
 |0=>by simp[jr]
 |n+1=>by
  rw[pf,Kf,Nat.add_mul,Nat.one_mul];exact Nat.add_le_add (lJ q ns tb n) (List.length_filterMap_le _ _)
theorem qP{q:aL}{ns:List (List Nat)}{tb:Tb}{k:Ky}:k∈jr q ns tb 8↔k∈CK q ns/\∃v,aN tb k=some v:=by
 unfold jr;rw[List.mem_filter,Option.isSome_iff_exists];rfl
theorem tX{z:Str}:∀{ts:K3},z∈ts->∃j:Nat,ts[j]?=some z/\∀(m:Nat) (y:Str),m<j->ts[m]?=some y->y≠z
 | [],h=>nomatch h
 |x::ts,h=>by
  by_cases e:x=z
  ·exact⟨0,by rw[e];rfl,λm y hm=>q0Q hm (Nat.not_lt_zero _)⟩
  ·rcases J_.mp h with h | h
   ·exact q0Q h.symm e
   ·obtain⟨j,h1,h2⟩:=tX h
    refine⟨j+1,h1,λm y hm hy=>?_⟩;cases m with
    |zero=>rw[List.getElem?_cons_zero]at hy;cases hy;exact e
    |succ m=>exact h2 m y ⋯ hy
theorem D3{q:aL}{t:Nat}{z:Str}(h:(fA q)[t]?=some z):t<8/\z=tx (bM (turned q t)):=by
 unfold fA at h;rw[JY]at h;obtain⟨x,a,rfl⟩:=Kk.mp h;have b:=(JU.mp a).1;rw[q0J]at b;rw[List.getElem?_range b]at a;cases a;exact⟨b,rfl⟩
theorem Ba{q:aL}{t:Nat}(h:t<8):(fA q)[t]?=some (tx (bM (turned q t))):=by
 unfold fA;rw[JY,List.getElem?_range h];rfl
inductive G'(H:Hp)(q:aL)(ns:List (List Nat))(tb0:Tb)(lr lt ln d l:Addr)(i:Nat)(H':Hp):St->Prop
 |mk (bs:KZ) (x5 x6 x7 x8 x9:Option V) (_:aD H H') (_:H' l=some (.lst (bs.map V.ref))) (_:bu bI H' bs (jr q ns tb0 i)):G' H q ns tb0 lr lt ln d l i H' [some (V.ref lr),some (V.ref lt),some (V.ref ln),some (V.ref d),some (V.ref l),x5,x6,x7,x8,x9]
inductive G6(H:Hp)(trs rs:Yaa)(q:aL)(ns:List (List Nat))(M L0:Nat)(tb0:Tb)(lr lt ln d:Addr)(m:Nat)(H':Hp):St->Prop
 |mk (tb:Tb) (chs:List Ky) (l2:Addr) (cs:KZ) (x5 x6 x7 x8 x9:Option V) (_:bj d H H') (_:cy H' d tb) (_:H' l2=some (.lst (cs.map V.ref))) (_:bu bI H' cs chs) (_:TI trs rs q ns M L0 tb0 tb (λk=>k∈chs)) (_:chs.length<=8000000) (_:m=Ep (CK q ns) (M+576) tb+(if chs=[] then 0 else 1)):G6 H trs rs q ns M L0 tb0 lr lt ln d m H' [some (V.ref lr),some (V.ref lt),some (V.ref ln),some (V.ref d),some (V.ref l2),x5,x6,x7,x8,x9]
structure Hd(trs rs:Yaa)(q:aL)(ns:List (List Nat))(M L0:Nat)(tb0 tb:Tb)(all:List Ky)(d l2 lw:Addr)(cs:KZ)(H H':Hp)(i:Nat)(tb5:Tb)(ws:KZ)(lws:List Ky):Prop where
 sx:bj d H H'
 l:H' l2=some (.lst (cs.map V.ref))
 cA:bu bI H' cs all
 T:cy H' d tb5
 w:H' lw=some (.lst (ws.map V.ref))
 wA:bu bI H' ws lws
 I:TI trs rs q ns M L0 tb0 tb5 (λk=>k∈all.drop i\/k∈lws)
 m:Ep (CK q ns) (M+576) tb5+lws.length<=Ep (CK q ns) (M+576) tb
inductive G5(trs rs:Yaa)(q:aL)(ns:List (List Nat))(M L0:Nat)(tb0 tb:Tb)(all:List Ky)(lr lt ln d l2 lw:Addr)(cs:KZ)(H H':Hp)(i:Nat):St->Prop
 |mk (tb5:Tb) (ws:KZ) (lws:List Ky) (x5 x7 x8 x9:Option V) (_:Hd trs rs q ns M L0 tb0 tb all d l2 lw cs H H' i tb5 ws lws):G5 trs rs q ns M L0 tb0 tb all lr lt ln d l2 lw cs H H' i [some (V.ref lr),some (V.ref lt),some (V.ref ln),some (V.ref d),some (V.ref l2),x5,some (V.ref lw),x7,x8,x9]
inductive Ha(trs rs:Yaa)(q:aL)(ns:List (List Nat))(M L0:Nat)(tb0 tb:Tb)(all:List Ky)(lr lt ln d l2 lw:Addr)(cs:KZ)(H:Hp)(i t:Nat)(k:Ky)(v:Int)(H':Hp)(j:Nat):St->Prop
 |mk (tb5:Tb) (ws:KZ) (lws:List Ky) (x8 x9:Option V) (_:Hd trs rs q ns M L0 tb0 tb all d l2 lw cs H H' i tb5 ws lws) (_:aN tb5 k=some v) (_:∀r∈trs.take j,r.2.o1=k.2->∃v',v'<=v+r.2.c/\aN tb5 (gR q r t)=some v'):Ha trs rs q ns M L0 tb0 tb all lr lt ln d l2 lw cs H i t k v H' j [some (V.ref lr),some (V.ref lt),some (V.ref ln),some (V.ref d),some (V.ref l2),some (V.str (tx k.1)),some (V.ref lw),some (V.str (tx k.2)),x8,x9]
abbrev gX:Stmt:=fU 54
theorem tS{c:TT}{tb:TS}{D:gu}{σ:St}{H:Hp}(h:∀tb',tb'=tb->vT c tb' D σ H):vT c tb D σ H:=h tb rfl
theorem yT{n:Nat}(h:n<=8000000):n<sizeLine:=by have:=q0W;omega
inductive jy(R:RC)(vs:List V)(H:Hp)(Q:VK)(_E:XK):Prop
 |mk (lr lt ln d:Addr) (as:KZ) (trs rs:Yaa) (q:aL) (a c:Nat) (ns:List (List Nat)) (M L0:Nat) (tb0:Tb) (_:vs=[.ref lr,.ref lt,.ref ln,.ref d]) (_:H lr=some (.lst (as.map V.ref))) (_:bL R H as trs) (_:H lt=some (.lst ((fA q).map V.str))) (_:H ln=some (.lst (ns.map λn=>V.str (tx n)))) (_:cy H d tb0) (_:rect q a c) (_:0<a) (_:0<c) (_:(∀t,t<8->Bw (turned q t))) (_:ns.length<=8) (_:(∀r∈trs,G1 rs ns r/\r.1=3)) (_:TI trs rs q ns M L0 tb0 tb0 (λk=>k∈CK q ns/\∃v,aN tb0 k=some v)) (_:M<=100000) (_:L0<=10000000) (_:∀H' tb',cy H' d tb'->TI trs rs q ns M L0 tb0 tb' (λ_=>False)->bj d H H'->Q .non H')
theorem pP:aH ["rules","texts","names","told","changed","text","lowered","name","rule","key"] ["rules","texts","names","told"] (aw gX):=by walk_at "c"
theorem pU{R:RC}{f:Addr}{fd:K1}(F:dw K "turn_about" "turn_about" gX f fd)(nb:NB mg)(rk:lC K R)(yaw:dF P w K mg base bD 1 "after" ["t","u"] t5)(yaf:dF P w K mg base bD 1 "lower" ["told","key","cost"] n6):bw P w K mg base bD 2 f fd ["rules","texts","names","told"] (jy R):=by
 have sc:=pP;walk_at "f"
 ·obtain⟨lr,lt,ln,d,as,trs,rs,q,a,c,ns,M,L0,tb0,rfl,hlr,hrs,hlt,hln,hT,hq,a0,c0,hO,h8,hR,hTI,hM,hL0,qq⟩:=h
  have hu:=hr.units;refine⟨_,(ae (q01 4 sc.nd (bF ad))
   (ae (aY PassesOwn.never rfl (bN (ao 1)) (aB (i:=5) sc.nd rfl (Or.inr rfl))
   (ai (bi (cJ PySem.F.plainAttrs_list PySem.F.slot_list_extend PySem.F.type_list_extend yh (ao 4) (ac (cU ["name"] [5,3] rfl (bQ.of (by kernel_rfl)) (by kernel_rfl) (bN (ao 2))
    (λ_ _ _ _=>(aB (i:=0) (by show(["name","text","told"]:List Str).Nodup;decide +kernel) rfl (Or.inl rfl))) (λ_ _ _ _=>(sS (oy (vO (KC (KH (by decide:1<=64) _) hu) (bZ (ac (ao 1) (ac (ao 0) ad))) (ao 2)) (by with_unfolding_all rfl)))) (λ_ _ _ _=>(bZ (ac (ao 1) (ac (ao 0) ad))))) ad)))))
   (ai (AC PassesOwn.never (aT (sF hu) (ao 4) (bF ad) (bf _)) (ae (q01 6 sc.nd (bF ad))
   (ae (aY PassesOwn.never rfl (bN (ao 4)) (ic (n:=2) rfl (bp (aB (i:=5) sc.nd rfl (Or.inr rfl)) (bp (q02 7 sc.nd) dB)))
   (ai (aY PassesOwn.never rfl (bN (ao 0)) (q02 8 sc.nd)
   (ae (q01 9 sc.nd (bZ (ac (a_ aU (ao 1) (q00 yaw hr (ac (cJ PySem.F.plainAttrs_list PySem.F.slot_list_index PySem.F.type_list_index yt (ao 1) (ac (ao 5) ad)) (ac (cH (ao 8) rfl) ad))) (λ_ _=>rfl)) (ac (cH (ao 8) rfl) ad))))
   (ai (bT (PW.pt (fM (aT dQ (cH (ao 8) rfl) (ao 7) (bf _)) (eC (fc (q00 yaf hr (ac (ao 3) (ac (ao 9) (ac (au (bd.m0 br) (kh (KC (KH (by decide:1<=64) _) hu) (ao 3) (bZ (ac (ao 5) (ac (ao 7) ad))) (λ_ _=>rfl)) (cH (ao 8) rfl)) ad)))) λ_=>rfl))))
   (ai (bi (q03 (ao 6) (ac (ao 9) ad))))
   bh))))))
   (ai (q01 4 sc.nd (ao 6))))))))),?_⟩
  walk_at "n";refine⟨Kh _,λl hl=>h1 _ _ ?_⟩;clear h1;generalize z0:aE H l _=H1;obtain⟨s1,e1⟩:=dY hl z0;walk_at "n";have hT1:cy H1 d tb0:=hT.up s1;have hcl:(fA q).length=8:=by unfold fA;rw[JW,q0J]
  refine⟨⟨_,aM.of (s1 _ _ hlt)⟩,?_⟩;refine b5 (xs:=(fA q).map V.str) (λi σ H'=>G' H q ns tb0 lr lt ln d l i H' σ) (.mk [] _ _ _ _ _ s1 e1 bu.nil) (λi σ H' _ h=>by cases h with | mk _ _ _ _ _ _ s=>exact aM.of (s _ _ hlt)) ?_ ?_
  ·rintro i x σ H' hx ⟨bs,x5,x6,x7,x8,x9,sm,hb,hA⟩
   rw[JY]at hx;obtain⟨z,hz,rfl⟩:=Kk.mp hx;have hi:i<8:=by have:=(JU.mp hz).1;omega
   have hz':z=tx (bM (turned q i)):=by
    unfold fA at hz;rw[JY,List.getElem?_range hi]at hz;cases hz;rfl
   subst hz';walk_at "wp";refine⟨.inl ⟨rfl,_,aM.of hb⟩,⟨_,aM.of (sm _ _ hln)⟩,?_⟩;refine vb bI bI.up (as:=ns) (emb:=λn=>V.str (tx n)) (f:=λn=>if(aN tb0 (bM (turned q i),n)).isSome=true then some (bM (turned q i),n) else none) (λσ=>∃x,σ=[x,some (V.str (tx (bM (turned q i)))),some (V.ref d)]) ⟨_,rfl⟩ (λH2 s2=>aM.of (s2 _ _ (sm _ _ hln))) ⋯ ?_ ?_
   ·rintro j n hn σ H2 M1 M0 ⟨x0,rfl⟩ s2 k1 k0
    have hT2:cy H2 d tb0:=(hT.up sm).up s2;walk_at "wp";refine⟨ay (by decide),λtp htp=>?_⟩;generalize z0:aE H2 tp _=H3;obtain⟨s3,(hk:bI H3 tp (bM (turned q i),n))⟩:=dY htp z0;have hg:=(hT2.up s3).told.get hk;refine⟨_,hg,?_⟩;cases hv:aN tb0 (bM (turned q i),n) with
    |none=>
     rw[q06 (by simp)];exact k0 _ _ (by simp[hv]) (s2.trans s3) s3 ⟨_,rfl⟩
    |some v=>
     rw[q07 (by rfl)];exact⟨ay (by decide),λt2 ht2=>k1 t2 (bM (turned q i),n) _ _ (by simp[hv]) ag (s2.trans (s3.trans (ar ht2))) (s3.trans (ar ht2)) ⟨_,rfl⟩⟩
   ·intro bs2 H2 s2 hA2 l2 hl2
    generalize z0:aE H2 l2 _=H3;obtain⟨s3,e3⟩:=dY hl2 z0;have hb3:=s3 _ _ (s2 _ _ hb);have n1:=hA.1;have n2:=hA2.1;have n3:=lJ q ns tb0 i;have n4:=List.length_filterMap_le (λn=>if(aN tb0 (bM (turned q i),n)).isSome=true then some (bM (turned q i),n) else none) ns;have n5:i*ns.length<=8*8:=Nat.mul_le_mul ⋯ h8;refine⟨_,hb3,_,e3,by rw[JW,JW];exact ay ⋯,?_⟩;refine .mk (bs++bs2) _ _ _ _ _ (bE ((sm.trans s2).trans s3) hl) (by rw[ag,J7]) ?_;rw[pf];exact bu.app (hA.mono λb y _ _ h=>((h.up s2).up s3).put hb3) (hA2.mono λb y _ _ h=>(h.up s3).put hb3)
  ·rintro σ H' ⟨bs,x5,x6,x7,x8,x9,sm,hb,hA⟩
   refine h1 _ _ ?_;rw[JW,hcl]at hA;walk_at "wp";have hTI0:=hTI.op (op':=λk=>k∈jr q ns tb0 8) (λk hk=>qP.mp hk) (λk v ho no _=>q0Q (qP.mpr ho) no);have hch:(jr q ns tb0 8).length<=8*8:=Kn (lJ q ns tb0 8) (Nat.mul_le_mul_left _ h8);have hT':cy H' d tb0:=hT.up sm;refine tS λtw etw=>?_;refine⟨λm σ H2=>G6 H trs rs q ns M L0 tb0 lr lt ln d m H2 σ,⟨_,.mk tb0 _ l bs _ _ _ _ _ (bj.of sm) hT' hb hA hTI0 ⋯ rfl⟩,?_⟩;rintro m σ H2 ⟨tb,chs,l2,cs,y5,y6,y7,y8,y9,sx,hT2,hc2,hcA,hI,hcl2,hm⟩;walk_at "wp";refine⟨Kh _,λlz hlz=>?_⟩;generalize z0:aE H2 lz _=H3;obtain⟨s3,e3⟩:=dY hlz z0;refine Bi (s3 _ _ hc2) e3 ⟨_,rfl,?_⟩;cases chs with
   |nil=>
    have:cs=[]:=KD.mp hcA.1;subst this;rw[q06 (by simp)];exact qq H3 tb (hT2.up s3) (hI.op (λk hk=>hk.elim) (λk v ho _ _=>nomatch ho)) (sx.then s3)
   |cons ch chs=>
    have hne:cs≠[]:=λe=>by rw[e]at hcA;exact nomatch hcA.1
    rw[q07 (by cases cs with | nil=>exact q0Q rfl hne | cons _ _=>rfl)];rw[etw];generalize hall:ch::chs=all at hcA hI hcl2 hm;have ya3:all≠[]:=λe=>nomatch hall.trans e;rw[q06 ya3]at hm;refine⟨_,λσ' H' h=>h,?_⟩;have hmu:=hI.mu h8;have hmu2:(M+577)*64<=8000000:=by omega
    have hT3:cy H3 d tb:=hT2.up s3;have sx3:=sx.then s3;have hc3:=s3 _ _ hc2;have hcA3:=hcA.mono λb y _ _ (h:bI H2 b y)=>h.up s3;walk_at "n";refine⟨Kh _,λlw hlw=>h1 _ _ ?_⟩;clear h1;have s4:=ar (o:=.lst []) hlw;have e4:aE H3 lw (.lst []) lw=some (.lst []):=ag;have hl2w:l2≠lw:=aJ hc3 hlw;have hlw0:∀o,H lw=some o->lw=d:=λo h=>by
     by_cases e:lw=d
     ·exact e
     ·have:=sx3 lw o e h
      rw[hlw]at this;cases this
    have hlwd:lw≠d:=λe=>by
     rw[e]at hlw;rw[show H3 d=_ from hT3]at hlw;cases hlw
    generalize aE H3 lw (.lst [])=H4 at s4 e4 ⊢;walk_at "n";refine⟨⟨_,aM.of (s4 _ _ hc3)⟩,?_⟩;refine b5 (xs:=cs.map V.ref) (λi σ H5=>G5 trs rs q ns M L0 tb0 tb all lr lt ln d l2 lw cs H H5 i σ) ?_ (λi σ H5 _ h=>by cases h with | mk _ _ _ _ _ _ _ h=>exact aM.of h.l) ?_ ?_
    ·exact .mk tb [] [] _ _ _ _ ⟨sx3.then s4,s4 _ _ hc3,hcA3.mono λb y _ _ h=>h.up s4,hT3.up s4,e4,bu.nil,hI.op (λk hk=>hk.elim id λz=>nomatch z) (λk v ho no _=>q0Q (.inl ho) no),Kg _⟩
    ·rintro i x σ H5 hx ⟨tb5,ws,lws,z5,z7,z8,z9,h5⟩
     rw[JY]at hx;obtain⟨cb,hcb,rfl⟩:=Kk.mp hx;have hi:=(JU.mp hcb).1;obtain⟨k,hk,hkb⟩:=h5.cA.get hcb;have j3:=(JU.mp hk).1;have hdr:all.drop i=k::all.drop (i+1):=by
      rw[q0T j3];rw[JT j3]at hk;cases hk;rfl
     obtain⟨hkC,v,hv⟩:=h5.I.opk k (.inl (by rw[hdr];exact q0B ..));obtain⟨t1,ht1,n1,hn1,ek⟩:=jS.mp hkC;obtain⟨t,hti,hfirst⟩:=tX (z:=tx k.1) (JZ (show(fA q)[t1]?=some (tx k.1) by rw[Ba ht1,ek]));obtain⟨ht,ezt⟩:=D3 hti;have ekt:k.1=bM (turned q t):=tx_inj ezt;have kp5:=h5.sx.kp hT;walk_at "wp";refine⟨_,dZ.of hkb,rfl,_,_,rfl,_,_,rfl,rfl,⟨_,aM.of (kp5.lst hlr)⟩,?_⟩;refine b5 (xs:=as.map V.ref) (λj σ H6=>Ha trs rs q ns M L0 tb0 tb all lr lt ln d l2 lw cs H i t k v H6 j σ) (.mk tb5 ws lws _ _ h5 hv (λr hr=>nomatch hr)) (λj σ H6 _ h=>by cases h with | mk _ _ _ _ _ h=>exact aM.of ((h.sx.kp hT).lst hlr)) ?_ ?_
     ·rintro j x σ H6 hx ⟨tb6,ws6,lws6,y8,y9,⟨sx6,hl6,hcA6,hT6,hw6,hwA6,hI6,hm6⟩,hv6,hs6⟩
      rw[JY]at hx;obtain⟨ra,hra,rfl⟩:=Kk.mp hx;have hj:=(JU.mp hra).1;obtain⟨r,hr⟩:∃r,trs[j]?=some r:=⟨_,JT (by rw[<- hrs.1];exact hj)⟩;obtain⟨r3,rk3⟩:=hR r (JZ hr);have kp6:=sx6.kp hT;obtain⟨rdx,rl,hrb,_⟩:=(hrs.kp kp6).2 j ra r hra hr;rw[rk3]at hrb;have hrb':H6 ra=some (.ins R.ct rdx (DE r.2.n r.2.c rl r.2.o1 r.2.t)):=hrb;have hu8:r.2.t.toNat<8:=by have:=r3.t0;have:=r3.t7;omega
      have hat:=gB ht hu8;refine am λN1 h1=>?_;have hlt6:H6 lt=some (.lst ((fA q).map V.str)):=kp6.lst hlt;walk_at "wp";refine⟨.inl ⟨rfl,_,aM.of hlt6⟩,fA q,hlt6,t,hti,hfirst,_,_,_,hrb',rk.i3.cl,rk.a3.2.2.2.2,_,rfl,t,r.2.t.toNat,by rw[KN r3.t0],ht,hu8,(fA q).map V.str,_,rfl,aM.of hlt6,_,bC (by rw[JY,Ba hat];rfl),_,_,_,hrb',rk.i3.cl,rk.a3.1,_,rfl,ay (by decide),λtp htp=>h1 _ _ ?_⟩;clear h1;have s7:=ar (o:=.tup [V.str (tx (bM (turned q (after t r.2.t.toNat)))),V.str (tx r.2.n)]) htp;have hk7:bI (aE H6 tp (.tup [V.str (tx (bM (turned q (after t r.2.t.toNat)))),V.str (tx r.2.n)])) tp (gR q r t):=ag;change pR _ _ _ _ _ (aE H6 tp (.tup [V.str (tx (bM (turned q (after t r.2.t.toNat)))),V.str (tx r.2.n)]));generalize aE H6 tp (.tup [V.str (tx (bM (turned q (after t r.2.t.toNat)))),V.str (tx r.2.n)])=H7 at s7 hk7 ⊢;have hT7:=hT6.up s7;have hrb7:=s7 _ _ hrb';walk_at "wp";have htk:trs.take (j+1)=trs.take j++[r]:=by rw[q0E,hr];rfl
      have hwA7:=hwA6.mono λb y _ _ (h:bI H6 b y)=>h.up s7;have hcA7:=hcA6.mono λb y _ _ (h:bI H6 b y)=>h.up s7;refine⟨_,_,_,hrb7,rk.i3.cl,rk.a3.2.2.2.1,_,rfl,by simp[AO],?_⟩
      by_cases e:r.2.o1=k.2
      ·rw[q07 (by rw[e])]
       refine⟨ay (by decide),λtq htq=>?_⟩;generalize z0:aE H7 tq _=H8;obtain⟨s8,(hk8:bI H8 tq k)⟩:=dY htq z0;have hT8:cy H8 d tb6:=hT7.up s8;have hg8:=hT8.told.get hk8;rw[hv6]at hg8;have h64:=hI6.len64 h8;have ek2:(bM (turned q t),r.2.o1)=k:=by rw[<- ekt,e]
       obtain⟨hI9,hm9⟩:=hI6.low hq a0 c0 hO h8 r3 ht (v:=v) (by rw[ek2];exact hkC) (by rw[ek2];exact hv6);refine⟨_,hg8,_,_,_,s8 _ _ hrb7,rk.i3.cl,rk.a3.2.1,_,rfl,v,rfl,r.2.c,rfl,d,tp,tb6,gR q r t,v+r.2.c,rfl,hT8,hk7.up s8,by have:=q0W;omega,λH9 hT9 sx9=>⟨_,rfl,?_⟩⟩;have kp9:=sx9.kp hT8;have hv9:aN (dR tb6 (gR q r t) (v+r.2.c)) k=some v:=by
        rw[iW]
        split
        ·rename_i hc
         obtain⟨hc1,hc2⟩:=hc;unfold ik at hc2;rw[<- hc1,hv6]at hc2;have h3:v+r.2.c<v:=by simpa using hc2
         have:=r3.c1;omega
        ·exact hv6
       have hs9:∀r'∈trs.take (j+1),r'.2.o1=k.2->∃v',v'<=v+r'.2.c/\aN (dR tb6 (gR q r t) (v+r.2.c)) (gR q r' t)=some v':=by
        intro r' hr' e';rw[htk]at hr';rcases J8.mp hr' with hr' | hr'
        ·obtain⟨v1,l1,e1⟩:=hs6 r' hr' e'
         obtain⟨v2,l2,e2⟩:=wV tb6 (gR q r t) (v+r.2.c) _ _ e1;exact⟨v2,Int.le_trans l2 l1,e2⟩
        ·rw[JX.mp hr']
         exact xE _ _ _
       have sx9':=(sx6.then (s7.trans s8)).trans sx9;have hl9:=kp9.lst (s8 _ _ (s7 _ _ hl6));have hw9:=kp9.lst (s8 _ _ (s7 _ _ hw6));have hcA9:=hcA7.mono λb y _ _ (h:bI H7 b y)=>(h.up s8).kp kp9;have hwA9:=hwA7.mono λb y _ _ (h:bI H7 b y)=>(h.up s8).kp kp9;have hk9:=(hk7.up s8).kp kp9;cases hlb:ik tb6 (gR q r t) (v+r.2.c) with
       |false=>
        rw[hlb]at hI9 hm9;rw[q06 (by simp)];refine .mk _ ws6 lws6 _ _ ⟨sx9',hl9,hcA9,hT9,hw9,hwA9,hI9.op (λx hx=>.inl hx) (λx w ho no _=>?_),by simp at hm9;omega⟩ hv9 hs9;exact q0Q (ho.elim id λz=>nomatch z.1) no
       |true=>
        rw[hlb]at hI9 hm9;rw[q07 rfl];have hwl:=hwA6.1;simp only[q07]at hm9;refine⟨.inl ⟨rfl,_,aM.of hw9⟩,_,hw9,by rw[JW];exact yT ⋯,.mk _ (ws6++[tp]) (lws6++[gR q r t]) _ _ ⟨λb o hb h=>?_,?_,?_,?_,?_,(hwA9.mono λb y _ _ h=>h.put hw9).snoc (hk9.put hw9),hI9.op (λx hx=>?_) (λx w ho no _=>?_),?_⟩ hv9 hs9⟩
        ·rw[av (show b≠lw from λz=>hb (z.trans (hlw0 o (z▸h))))];exact sx9' b o hb h
        ·rw[av hl2w];exact hl9
        ·exact hcA9.mono λb y _ _ h=>h.put hw9
        ·show aE H9 lw _ d=_
         rw[av (Ne.symm hlwd)];exact hT9
        ·rw[ag,J7];rfl
        ·rcases hx with hx | hx
         ·exact .inl (.inl hx)
         ·rcases J8.mp hx with hx | hx
          ·exact .inl (.inr hx)
          ·exact .inr ⟨rfl,JX.mp hx⟩
        ·refine q0Q ?_ no
         rcases ho with(ho | ho) | ho
         ·exact .inl ho
         ·exact .inr (q0D _ ho)
         ·exact .inr (q0C _ (JX.mpr ho.2))
        ·rw[Kf,q0Z];omega
      ·rw[q06 (λh=>e (tx_inj (by injection h)))]
       refine .mk tb6 ws6 lws6 _ _ ⟨sx6.then s7,s7 _ _ hl6,hcA7,hT7,s7 _ _ hw6,hwA7,hI6,hm6⟩ hv6 λr' hr' e'=>?_;rw[htk]at hr';rcases J8.mp hr' with hr' | hr'
       ·exact hs6 r' hr' e'
       ·rw[JX.mp hr']at e'
        exact q0Q e' e
     ·rintro σ H6 ⟨tb6,ws6,lws6,y8,y9,h6,hv6,hs6⟩
      rw[JW,hrs.1,Kv]at hs6;refine .mk tb6 ws6 lws6 _ _ _ _ ⟨h6.sx,h6.l,h6.cA,h6.T,h6.w,h6.wA,h6.I.op (λx hx=>hx.elim (λh=>.inl (by rw[hdr];exact J' _ h)) .inr) (λx w ho no e=>?_),h6.m⟩;have ex:x=k:=by
       rcases ho with ho | ho
       ·rw[hdr]at ho
        rcases J_.mp ho with ho | ho
        ·exact ho
        ·exact q0Q (.inl ho) no
       ·exact q0Q (.inr ho) no
      subst ex;rw[hv6]at e;cases e;intro r hr e1 t' ht' e2;obtain⟨v',l',e'⟩:=hs6 r hr e1;have u8:r.2.t.toNat<8:=by have:=(hR r hr).1.t0;have:=(hR r hr).1.t7;omega
      refine⟨v',l',?_⟩;have et:turned q t'=turned q t:=(hO t' ht').inj (hO t ht) (by rw[<- e2,<- ekt]);unfold gR at e' ⊢;rw[<- bW hq a0 c0 ht' u8,et,bW hq a0 c0 ht u8];exact e'
    ·rintro σ H5 ⟨tb5,ws,lws,z5,z7,z8,z9,⟨sx5,hl5,hcA5,hT5,hw5,hwA,hI5,hm5⟩⟩
     refine h1 _ _ ?_;walk_at "wp";rw[JW,hcA5.1,List.drop_length]at hI5;have hI9:=hI5.op (op':=λk=>k∈lws) (λk hk=>.inr hk) (λk v ho no _=>ho.elim (λz=>nomatch z) λz=>q0Q z no);refine⟨_,?_,.mk tb5 lws lw ws _ _ _ _ _ sx5 hT5 hw5 hwA hI9 ⋯ rfl⟩;cases lws with
     |nil=>rw[q07 rfl];simp at hm5;omega
     |cons _ _=>rw[q06 (by simp)];simp at hm5;omega
theorem nJ{R:RC}{H:Hp}:∀{as:KZ} {rs:Yaa},bL R H as rs->∃tas:List Addr,((as.zip rs).filterMap λx=>if x.2.1=3 then some (V.ref x.1) else none)=tas.map V.ref/\bL R H tas (nW rs)
 | [],[],h=>⟨[],rfl,h⟩
 | [],_::_,h=>nomatch h.1
 |_::_,[],h=>nomatch h.1
 |a::as,r::rs,h=>by
  have h2:bL R H as rs:=⟨Nat.succ.inj h.1,λi b y e1 e2=>h.2 (i+1) b y e1 e2⟩;obtain⟨tas,e,ht⟩:=nJ h2;rw[List.zip_cons_cons,q0U]
  by_cases h3:r.1=3
  ·refine⟨a::tas,by simp only[q07 h3];rw[e];rfl,?_⟩
   have et:nW (r::rs)=r::nW rs:=by unfold nW;rw[List.filter_cons,q07 (by simpa using h3)]
   rw[et];refine⟨by rw[J6,J6,ht.1],λi b y e1 e2=>?_⟩;cases i with
   |zero=>
    rw[List.getElem?_cons_zero]at e1 e2;cases e1;cases e2
    exact h.2 0 _ _ rfl rfl
   |succ i=>exact ht.2 i b y e1 e2
  ·refine⟨tas,by simp only[q06 h3];exact e,?_⟩
   have et:nW (r::rs)=nW rs:=by unfold nW;rw[List.filter_cons,q06 (by simpa using h3)]
   rw[et];exact ht
theorem qJ:∀{as:KZ} {rs:Yaa} (k:Nat),as.length=rs.length->(((as.zip rs).zipIdx k).filterMap λx=>if x.1.2.1=3 then none else some (V.int (x.2:Int)))=xi ((rs.zipIdx k).filterMap λx=>if x.1.1=3 then none else some x.2)
 | [],[],_,_=>rfl
 | [],_::_,_,h=>nomatch h
 |_::_,[],_,h=>nomatch h
 |a::as,r::rs,k,h=>by
  have ih:=qJ (as:=as) (rs:=rs) (k+1) (Nat.succ.inj h);rw[List.zip_cons_cons,List.zipIdx_cons,List.zipIdx_cons,q0U,q0U]
  by_cases h3:r.1=3
  ·simp only[q07 h3];exact ih
  ·simp only[q06 h3];rw[ih];rfl
abbrev d8:Stmt:=fU 51
inductive f_(R:RC)(CG:Addr)(vs:List V)(H:Hp)(Q:VK)(_E:XK):Prop
 |mk (g dx a d:Addr) (sg st:KU) (as:KZ) (rs:Yaa) (nms:List (List Nat)) (p q:aL) (r c:Nat) (dn:K3) (tb:Tb) (_:vs=[.ref g,.ref a,.ref d]) (_:dJ R H CG dx g sg st as rs) (_:(cq (tx st) rs).map (·.1)=nms.map tx) (_:gK rs nms p r c) (_:tN rs p r c dn q) (_:ES rs nms p r c dn tb) (_:H a=some (.lst (aq q))) (_:cy H d tb) (_:tb.length<=9900000) (_:∀l H' tb',H' l=some (.lst ((fA q).map V.str))->cy H' d tb'->(∀dn',(∀z,z∈dn'↔z∈dn\/∃t,t<8/\z=tx (bM (turned q t)))->ES rs nms p r c dn' tb')->tb'.length<=tb.length+1216->bj d H H'->Q (.ref l) H')
theorem kE:aH ["grammar","picture","told","turning","putting","texts","t","cuts"] ["grammar","picture","told"] (aw d8):=by walk_at "c"
theorem kG{R:RC}{f CG CC:Addr}{fd:K1}(F:dw K "enter_turnings" "enter_turnings" d8 f fd)(nb:NB mg)(rk:lC K R)(rk4:BG K R)(cc:jl K CC)(nc:DN K CC){tkT:Tok}(yak:mg "TURNINGS"=some (.int 8 tkT))(zwa:mg "TurnRule"=some (.ref R.ct))(yap:ji P w K mg base bD 1 CG "rules" ["self"] (gq R CG))(yaV:ji P w K mg base bD 1 CG "names" ["self"] (gv R CG))(yar:kX P w K mg base bD 3 "Cuts" CC ["self","picture"] (hV K))(zka:dF P w K mg base bD 3 "turned" ["picture","t"] (i9 K))(yat:dF P w K mg base bD 7 "put_together" ["grammar","numbers","cuts","told"] (iw R CG CC))(yaH:dF P w K mg base bD 2 "turn_about" ["rules","texts","names","told"] (jy R)):bw P w K mg base bD 8 f fd ["grammar","picture","told"] (f_ R CG):=by
 have sc:=kE;walk_at "f"
 ·obtain⟨g,dx,a,d,sg,st,as,l,f5,p,q,r,c,dn,tb,rfl,hG,g0,m,hN,hS,ha,hT,htl,qq⟩:=h
  have hu:=hr.units;refine⟨_,(ae (dm (i:=3) ["rule"] [] sc.nd rfl (Or.inl rfl) rfl  rfl (bQ.of (by kernel_rfl)) (by kernel_rfl) (bN (pC yap (hr.mono (by decide)) aK (ao 0)))
    (λ_ _ _ _=>(aB (i:=0) (by show(["rule"]:List Str).Nodup;decide +kernel) rfl (Or.inl rfl))) (λ_ _ _ _=>(sS (fc (az (gM (K:=K) rfl) rfl nb.isinstance cn (ac (ao 0) (ac (dq (v:=.ref _) rfl zwa rfl) ad))) λ_=>rfl))) (λ_ _ _ _=>(ao 0)))
   (ae (dm (i:=4) ["k","rule"] [] sc.nd rfl (Or.inl rfl) rfl  rfl (bQ.of (by kernel_rfl)) (by kernel_rfl) (mT rfl nb.enumerate (ac (pC yap (hr.mono (by decide)) aK (ao 0)) ad))
    (λ_ _ _ _=>(m7 (K:=K) (n:=2) rfl rfl (bp (aB (i:=0) (by show(["k","rule"]:List Str).Nodup;decide +kernel) rfl (Or.inl rfl)) (bp (aB (i:=1) (by show(["k","rule"]:List Str).Nodup;decide +kernel) rfl (Or.inl rfl)) dB)))) (λ_ _ _ _=>(sS (eX (fc (az (gM (K:=K) rfl) rfl nb.isinstance cn (ac (ao 1) (ac (dq (v:=.ref _) rfl zwa rfl) ad))) λ_=>rfl)))) (λ_ _ _ _=>(ao 0)))
   (ae (q01 5 sc.nd (bF ad))
   (ae (aY PassesOwn.never rfl (bH rfl nb.range (ac (dq (v:=.int 8) rfl yak ⟨_,rfl⟩) ad)) (q02 6 sc.nd)
   (ae (q01 7 sc.nd (iZ yar (hr.mono (by decide)) rfl aK (ac (q00 zka hr (ac (ao 1) (ac (ao 6) ad))) ad)))
   (ae (bi (q00 yat hr (ac (ao 0) (ac (ao 4) (ac (ao 7) (ac (ao 2) ad))))))
   (ai (bi (q03 (ao 5) (ac (cH (ao 7) rfl) ad)))))))
   (ae (bi (q00 yaH hr (ac (ao 3) (ac (ao 5) (ac (pC yaV (hr.mono (by decide)) aK (ao 0)) (ac (ao 2) ad))))))
   (ai (aO (ao 5)))))))),?_⟩
  obtain⟨lk,pn,nt,d4,hgk,z,hgN,hgm⟩:=id hG;have d2:∀x∈l,x.1<4:=λx G=>(m.gd x G).k4;have f9:=m.r24;have c4:=z.1;have c2:(as.zip l).length<=1000000:=by rw[q0N];omega
  walk_at "n";refine⟨_,_,d4,rfl,g,dx,sg,st,as,l,rfl,hG,λl1 H1 g3 e1 s1=>?_⟩;refine⟨l1,rfl,⟨_,aM.of e1⟩,?_⟩;refine fR (as:=as.zip l) (emb:=λx=>V.ref x.1) (f:=λx=>if x.2.1=3 then some (V.ref x.1) else none) (λσ=>∃x,σ=[x]) ⟨_,rfl⟩ (λH2 O=>by rw[z.zip.1];exact aM.of (O _ _ e1)) c2 ?_ ?_
  ·rintro j x G σ H2 M1 M0 ⟨x0,rfl⟩ O k1 k0
   have D:=JZ G;obtain⟨f4,rl,a4,_⟩:=(((z.zip.2.2 x D).up s1).up O);have a3:x.2.1<4:=d2 x.2 (by rw[<- z.zip.2.1];exact KF.mpr ⟨x,D,rfl⟩);walk_at "wp";refine⟨_,(rk.icls x.2.1).ty a4,_,rk4.kit x.2.1 3 a3 (by decide),?_⟩
   by_cases M:x.2.1=3
   ·rw[q07 (by simpa using M)]
    exact k1 _ _ _ (by rw[q07 M]) O ⟨_,rfl⟩
   ·rw[q06 (by simpa using M)]
    exact k0 _ _ (by rw[q06 M]) O ⟨_,rfl⟩
  ·intro H2 O l2 d1
   obtain⟨f3,e9,f7⟩:=nJ z;rw[e9];refine h1 _ _ ?_;clear h1;generalize T:aE H2 l2 _=H3;obtain⟨s3,e3⟩:=dY d1 T;have sA:=s1.trans (O.trans s3);walk_at "n";have e2:=hG.up sA;refine⟨_,_,sA _ _ d4,rfl,g,dx,sg,st,as,l,rfl,e2,λl4 H4 g2 e4 s4=>?_⟩;refine⟨l4,rfl,_,aM.of e4,?_⟩;have sB:=sA.trans s4;refine vG (as:=as.zip l) (emb:=λx=>V.ref x.1) (f:=λi x=>if x.2.1=3 then none else some (V.int (i:Int))) (λσ=>∃x y,σ=[x,y]) ⟨_,_,rfl⟩ (λH5 J=>by rw[z.zip.1];exact aM.of (J _ _ e4)) c2 ?_ ?_
   ·rintro j x G σ H5 tp M1 M0 ⟨x0,x1,rfl⟩ J f6 k1 k0
    have D:=JZ G;generalize T:aE H5 tp _=H6;obtain⟨Z,e6⟩:=dY f6 T;obtain⟨f4,rl,a4,_⟩:=((((z.zip.2.2 x D).up sB).up J).up Z);have a3:x.2.1<4:=d2 x.2 (by rw[<- z.zip.2.1];exact KF.mpr ⟨x,D,rfl⟩);walk_at "wp";refine⟨_,dZ.of e6,rfl,_,_,rfl,_,_,rfl,rfl,_,(rk.icls x.2.1).ty a4,_,rk4.kit x.2.1 3 a3 (by decide),?_⟩
    by_cases M:x.2.1=3
    ·rw[q06 (by simpa using M)]
     exact k0 _ _ (by rw[q07 M]) (J.trans Z) ⟨_,_,rfl⟩
    ·rw[q07 (by simpa using M)]
     exact k1 _ _ _ (by rw[q06 M]) (J.trans Z) ⟨_,_,rfl⟩
   ·intro H5 J l5 c9
    rw[show((as.zip l).zipIdx.filterMap λx=>if x.1.2.1=3 then none else some (V.int (x.2:Int)))=xi (fb l) from qJ 0 c4];refine h1 _ _ ?_;clear h1;generalize T:aE H5 l5 _=H6;obtain⟨Z,e6⟩:=dY c9 T;have sC:=sB.trans (J.trans Z);have h6:=(s4.trans (J.trans Z)) _ _ e3;have c3:=f7.up sC;have e0:=hG.up sC;have g6:=sC _ _ ha;have B:cy H6 d tb:=hT.up sC;clear Z c9 J s4 e4 g2 sB e2 sA s3 e3 d1 O s1 e1 g3;walk_at "n";refine⟨Kh _,λl7 I=>h1 _ _ ?_⟩;clear h1;generalize T:aE H6 l7 _=H7;obtain⟨s7,e7⟩:=dY I T;walk_at "n";rw[show Int.toNat 8=8 from rfl];obtain⟨a0,b0,k⟩:=sT m.hp m.r6 m.c6 hN.sq;have d6:=hS.pta m hN;have hpn:(fb l).length<=24:=by
     unfold fb;refine Kn (List.length_filterMap_le _ _) ?_;rw[List.length_zipIdx];exact f9
    have c7:l7≠d:=λe=>by
     rw[e]at I;rw[show H6 d=_ from B]at I;cases I
    refine⟨by decide,bz (lo:=0) (n:=8) (λt σ H8=>bj d H6 H8/\cy H8 d (pta l (fb l) q tb t)/\H8 l7=some (.lst (((List.range t).map λu=>tx (bM (turned q u))).map V.str))/\∃x6 x7,σ=[some (V.ref g),some (V.ref a),some (V.ref d),some (V.ref l2),some (V.ref l5),some (V.ref l7),x6,x7]) ⟨bj.of s7,B.up s7,e7,_,_,rfl⟩ ?_ ?_⟩
    ·rintro t σ H8 ht ⟨C,L,e8,x6,x7,rfl⟩
     have a2:=C.kp B;have f8:=hN.sq.turned m.hp ht;obtain⟨a1,b1,e5⟩:=sT m.hp m.r6 m.c6 f8;have:=k.r6;have:=k.c6;walk_at "n";refine⟨a,q,a0,b0,t,by simp,aM.of (a2.lst g6),k.rc,k.r0,k.c0,⋯,⋯,ht,λlq H9 hlq h4 Y=>?_⟩;intro x a5 G g4 g1;have b3:aD H9 (aE (aE H9 a5 (.own x)) x (.ins CC a5 [])):=(ar g4).trans (ar (by rw[av (Ne.symm g1)];exact G));refine⟨x,CC,a5,lq,turned q t,a1,b1,rfl,ag,cc.cl,nc,b3 _ _ h4,e5,λH3 hC sx=>⟨rfl,h1 _ _ ?_⟩⟩;clear h1;have s3:aD H9 H3:=λy u e=>sx y u (aJ e G) (b3 y u e);have U:=Y.trans s3;have d5:cy H3 d (pta l (fb l) q tb t):=L.up U;have a9:=C.then U;have c1:=a9.kp B;have c5:=(d6 t ⋯).len;walk_at "n";refine⟨g,dx,l5,x,d,sg,st,as,l,fb l,turned q t,a1,b1,pta l (fb l) q tb t,rfl,e0.kp c1,m.gd,c1.lst e6,λn hn=>(let ⟨r',e',_⟩:=ky.mp hn;(JU.mp e').1),⋯,hC,e5,d5,?_,λH4 h0 a8=>h1 _ _ ?_⟩
     ·have:6*(fb l).length*t<=6*24*8:=Nat.mul_le_mul ⋯ ⋯
      omega
     clear h1;have b6:=a8.kp d5;obtain⟨dxc,lp,lb,la,g5,_⟩:=hC.kp b6;have f0:=b6.lst (U _ _ e8);walk_at "wp";refine⟨.inl ⟨rfl,_,aM.of f0⟩,_,_,_,g5,cc.cl,nc.2.1,_,rfl,_,f0,by rw[JW,JW,q0J];exact aX ⋯,λb o hb h=>?_,?_,?_⟩
     ·rw[av (aJ h I)];exact(a9.trans a8) b o hb h
     ·show aE H4 l7 _ d=_
      rw[av (Ne.symm c7)];exact h0
     ·rw[ag,q0M,J7,J7];rfl
    ·rintro σ H8 ⟨C,L,e8,x6,x7,rfl⟩
     refine h1 _ _ ?_;clear h1;walk_at "wp";have a2:=C.kp B;have d7:=e0.kp a2;obtain⟨lk',pn',nt',d3,_⟩:=id d7;have a6:=d6 8 (Kg _);have c5:=a6.len;have hlen2:6*(fb l).length*8<=6*24*8:=Nat.mul_le_mul ⋯ ⋯;have g9:=ES.start m hN hS a6;have hcell:bJ q<=6*6:=by
      unfold bJ;rw[k.rc.1,bg k.rc k.r0];exact Nat.mul_le_mul k.r6 k.c6
     refine⟨_,_,d3,rfl,g,dx,sg,st,as,l,rfl,d7,λln H9 hln h5 Y=>?_⟩;have a7:=C.then Y;have b4:=a7.kp B;refine⟨l2,l7,ln,d,f3,nW l,l,q,a0,b0,f5,1170*bJ q-1161,(pta l (fb l) q tb 8).length,pta l (fb l) q tb 8,rfl,b4.lst h6,c3.kp b4,Y _ _ e8,?_,L.up Y,k.rc,k.r0,k.c0,λt ht=>eN m.hp m.ns (hN.sq.turned m.hp ht),m.n8,λx G=>⟨m.turn3 G,by simpa using(List.mem_filter.mp G).2⟩,g9,⋯,⋯,λH' f1 h2 S b2=>?_⟩
     ·rw[h5]
      congr 2
      have:=q0R (List.map V.str) g0;rw[J9,J9]at this;exact this
     ·have h64:=S.len64 m.n8
      refine qq l7 H' f1 ((b2.kp (L.up Y)).lst (Y _ _ e8)) h2 (λdn' hd=>ES.enter m hN hS a6 S hd) ⋯ ((bj.of sC).trans (a7.trans b2))
structure lN(rs:Yaa)(nms:List (List Nat))(p:aL)(r c:Nat)(tb:Tb):Prop where
 nd:(tb.map (·.1)).Nodup
 key:∀k v,aN tb k=some v->(∃q,ba p r c q/\k.1=bM q)/\k.2∈nms/\Dv rs k v/\1<=v
 clo:∀q,ba p r c q->GX rs (aN tb) q
 len:tb.length<=9900000
theorem lN.min{rs:Yaa}{nms:List (List Nat)}{p:aL}{r c:Nat}{tb:Tb}(E:gK rs nms p r c)(h:lN rs nms p r c tb){q:aL}(hq:ba p r c q){n:KU}{v:Int}(hv:Dv rs (bM q,n) v):∃v',v'<=v/\aN tb (bM q,n)=some v':=
 An E.hp E.ns (λx hx=>⟨(E.gd x hx).good.t0,(E.gd x hx).good.t7⟩) h.clo hv q hq rfl
def F2(d e:Addr)(H H':Hp):Prop:=∀b o,b≠d->b≠e->H b=some o->H' b=some o
theorem dJ.f2{R:RC}{H H':Hp}{C dx a d e:Addr}{sg st:KU}{as:KZ}{rs:Yaa}{m:List (List cP×V)}(g:dJ R H C dx a sg st as rs)(hd:H d=some (.dT m))(he:H e=some (.dK []))(s:F2 d e H H'):dJ R H' C dx a sg st as rs:=by
 obtain⟨u,n,t,h1,h2,q,c,k⟩:=g;have j:∀{b:Addr} {xs:List V},H b=some (.lst xs)->H' b=some (.lst xs):=fun{b xs} h=>s b _ (λz=>by rw[z,hd]at h;cases h) (λz=>by rw[z,he]at h;cases h) h;have o:∀{b C dx:Addr} {fs:List (Str×V)},H b=some (.ins C dx fs)->H' b=some (.ins C dx fs):=fun{b C dx fs} h=>s b _ (λz=>by rw[z,hd]at h;cases h) (λz=>by rw[z,he]at h;cases h) h;refine⟨u,n,t,o h1,j h2,⟨q.1,λi b r G D=>?_⟩,⟨s n _ (λz=>?_) (λz=>?_) c.dict,λx y=>j (c.list x y),c.apart⟩,k⟩
 ·obtain⟨dx,l,w,v⟩:=q.2 i b r G D
  exact⟨dx,l,o w,j v⟩
 ·have h:=c.dict
  rw[z,hd]at h;cases h
 ·have h:=c.dict
  rw[z,he]at h
  injection h with h
  injection h with h
  have B:t=[]:=by
   cases t with
   |nil=>rfl
   |cons x t=>exact nomatch h
  rw[B]at k;have p:=(j7 (tx st) rs (tx st)).mpr (.inl rfl);rw[<- k]at p;exact nomatch p
def vm(dn:K3)(zs:K3):List Str:=zs.foldl ThM.addNew dn
theorem j4{z:Str}:∀{zs dn:K3},z∈vm dn zs↔z∈dn\/z∈zs
 | [],dn=>by simp[vm]
 |y::zs,dn=>by
  show z∈vm (ThM.addNew dn y) zs↔_;rw[j4,ThM.mem_addNew,J_,or_assoc]
theorem nj:∀(zs dn:K3),(vm dn zs).length<=dn.length+zs.length
 | [],dn=>Kg _
 |y::zs,dn=>by
  have h1:=nj zs (ThM.addNew dn y);have h2:(ThM.addNew dn y).length<=dn.length+1:=by unfold ThM.addNew;split<;>simp
  show(vm (ThM.addNew dn y) zs).length<=_;rw[J6];omega
theorem ua{q:aL}{z:Str}:z∈fA q↔∃t,t<8/\z=tx (bM (turned q t)):=by
 unfold fA;rw[KF]
 constructor
 ·rintro⟨t,a,rfl⟩;exact⟨t,List.mem_range.mp a,rfl⟩
 ·rintro⟨t,a,rfl⟩;exact⟨t,List.mem_range.mpr a,rfl⟩
theorem ES.new{rs:Yaa}{nms:List (List Nat)}{p:aL}{r c:Nat}{dn:K3}{tb:Tb}{qs:List aL}{i:Nat}{q:aL}(E:gK rs nms p r c)(S:ES rs nms p r c dn tb)(hsn:Fz p r c qs)(hi:qs[i]?=some q)(hdn:∀j z,j<i->qs[j]?=some z->tx (bM z)∈dn)(hno:tx (bM q)∉dn):tN rs p r c dn q:=by
 have a:=(hsn.1 q).mp (JZ hi);obtain⟨a0,b0,g,e,d,_⟩:=a.rect E.hp;refine⟨a,λt b v=>hno ?_,λn k hc=>?_⟩
 ·have:=S.tur _ (a.turned E.hp b) v (dP t) (i5 b)
  rwa [iE g e d b]at this
 ·obtain⟨j,o⟩:=List.mem_iff_getElem?.mp ((hsn.1 n).mpr k)
  refine hdn j n ?_ o;obtain⟨FC,u⟩:=JU.mp hi;obtain⟨l,m⟩:=JU.mp o;rcases Nat.lt_trichotomy j i with h | h | h
  ·exact h
  ·subst h
   rw[u]at m;subst m;omega
  ·have:=List.pairwise_iff_getElem.mp hsn.2 i j FC l h
   rw[u,m]at this;rcases this with h | ⟨h,_⟩<;>omega
abbrev g_:Stmt:=fU 50
inductive jw(K:W.Frag)(R:RC)(CG:Addr)(vs:List V)(H:Hp)(Q:VK)(_E:XK):Prop
 |mk (g dx a d e:Addr) (sg st:KU) (as:KZ) (rs:Yaa) (nms:List (List Nat)) (p:aL) (r c:Nat) (_:vs=[.ref g,.ref a,.ref d,.ref e]) (_:dJ R H CG dx g sg st as rs) (_:(cq (tx st) rs).map (·.1)=nms.map tx) (_:gK rs nms p r c) (_:aM K H a (aq p)) (_:cy H d []) (_:H e=some (.dK [])) (_:∀H' tb,cy H' d tb->lN rs nms p r c tb->F2 d e H H'->Q .non H')
theorem pL:aH ["grammar","picture","told","done","seen","text"] ["grammar","picture","told","done"] (aw g_):=by walk_at "c"
theorem pZ{R:RC}{f CG:Addr}{fd:K1}(F:dw K "enter_seen" "enter_seen" g_ f fd)(nb:NB mg)(yag:dF P w K mg base bD 4 "seen_in" ["picture"] (jM K))(yab:dF P w K mg base bD 1 "shown" ["picture"] (gL K))(yaE:dF P w K mg base bD 8 "enter_turnings" ["grammar","picture","told"] (f_ R CG)):bw P w K mg base bD 9 f fd ["grammar","picture","told","done"] (jw K R CG):=by
 have sc:=pL;walk_at "f"
 ·obtain⟨g,dx,a,d,e,sg,st,as,rs,a2,p,r,c,rfl,hG,b3,u,c1,hT,he,qq⟩:=h
  have hu:=hr.units;refine⟨_,(ai (aY PassesOwn.never rfl (bN (q00 yag hr (ac (ao 1) ad))) (q02 4 sc.nd)
   (ai (bT (oy (qY (KC (KH (by decide:1<=64) _) hu) (q00 yab hr (ac (ao 4) ad)) (ao 3)) (by with_unfolding_all rfl))
   (ai (aY PassesOwn.never rfl (bN (q00 yaE hr (ac (ao 0) (ac (ao 4) (ac (ao 2) ad))))) (q02 5 sc.nd)
   (ai (kf (KC (KH (by decide:1<=64) _) hu) (ao 3) (ao 5) iG rfl))))
   bh)))),?_⟩
  walk_at "wp";refine⟨a,p,r,c,rfl,c1,u.hp,u.r0,u.c0,u.r6,u.c6,u.ns,λH1 l zs s1 hl el hz hnd T hzl=>⟨l,rfl,⟨_,aM.of el⟩,?_⟩⟩;have Y:cy H1 d []:=hT.up s1;have U:=s1 _ _ he;have c4:=hG.up s1;have a8:d≠e:=λz=>by rw[z]at hT;rw[show H e=_ from hT]at he;cases he
  have a9:∀{H':Hp} {b:Addr} {xs:List V},F2 d e H1 H'->H1 b=some (.lst xs)->H' b=some (.lst xs):=fun{H' b xs} s h=>s b _ (λz=>by rw[z,show H1 d=_ from Y]at h;cases h) (λz=>by rw[z,U]at h;cases h) h;refine b5 (xs:=zs.map λz=>V.ref z.1) (λi σ H2=>F2 d e H1 H2/\i<=zs.length/\(∃(tb:Tb) (m:K3),cy H2 d tb/\H2 e=some (.dK (ThM.trueD m))/\ES rs a2 p r c m tb/\(∀j z,j<i->(zs.map (·.2))[j]?=some z->tx (bM z)∈m)/\tb.length<=1216*i/\m.length<=8*i)/\∃x4 O,σ=[some (V.ref g),some (V.ref a),some (V.ref d),some (V.ref e),x4,O]) ?_ (λi σ H2 _ h=>aM.of (a9 h.1 el)) ?_ ?_
  ·refine⟨λb o _ _ h=>h,Kh _,⟨[],[],Y,U,⟨List.nodup_nil,(λk v h=>nomatch h),(λk v h=>nomatch h),(λz h=>nomatch h),(λq _ h=>nomatch h),(λq _ h=>nomatch h),(λq _ h=>nomatch h)⟩,(λj z h=>q0Q h (Nat.not_lt_zero _)),Kg _,Kg _⟩,_,_,rfl⟩
  ·rintro i x σ H2 hx ⟨f2,_,⟨tb,m,J,I,M,n,a5,b4⟩,x4,O,rfl⟩
   rw[JY]at hx;obtain⟨z,S,rfl⟩:=Kk.mp hx;have hi:=(JU.mp S).1;have b2:=JZ S;have a3:=a9 f2 (hz z b2).2;have D:(zs.map (·.2))[i]?=some z.2:=by rw[JY,S];rfl
   have sq:=(T.1 z.2).mp (JZ D);obtain⟨a0,b0,c5⟩:=sT u.hp u.r6 u.c6 sq;have a7:tx (bM z.2)∈m->∀j y,j<i+1->(zs.map (·.2))[j]?=some y->tx (bM y)∈m:=λZ j y hj B=>by
    by_cases ej:j=i
    ·subst ej
     rw[D]at B;cases B
     exact Z
    ·exact n j y ⋯ B
   walk_at "wp";refine⟨z.1,z.2,rfl,a3,c5.small,_,.inl ⟨_,.inr (tx (bM z.2)),.inl I,rfl,rfl⟩,?_⟩;rw[ThM.trueD_val]
   by_cases Z:tx (bM z.2)∈m
   ·rw[q06 (by simpa using Z)]
    exact⟨f2,hi,tb,J,m,I,M,a7 Z,⋯,⋯⟩
   ·rw[q07 (by simpa using Z)]
    have hN:=M.new u T D n Z;refine⟨g,dx,z.1,d,sg,st,as,rs,a2,p,z.2,r,c,m,tb,rfl,c4.f2 Y U f2,b3,u,hN,M,a3,J,⋯,λl3 H3 b1 L b6 c3 hl3 a1=>⟨l3,rfl,⟨_,aM.of L⟩,?_⟩⟩;have a6:=a1 _ _ (Ne.symm a8) I;have hcl:(fA z.2).length=8:=by unfold fA;rw[JW,q0J]
    refine b5 (xs:=(fA z.2).map V.str) (λj σ H4=>bj e H3 H4/\j<=8/\H4 e=some (.dK (ThM.trueD (vm m ((fA z.2).take j))))/\∃O,σ=[some (V.ref g),some (V.ref a),some (V.ref d),some (V.ref e),some (V.ref z.1),O]) ⟨bj.of λ_ _ h=>h,Kh _,a6,_,rfl⟩ (λj σ H4 _ h=>aM.of (h.1 _ _ (λzz=>by rw[zz,a6]at L;cases L) L)) ?_ ?_
    ·rintro j x σ H4 hx ⟨C,_,G,O,rfl⟩
     rw[JY]at hx;obtain⟨y,B,rfl⟩:=Kk.mp hx;have hj:j<8:=by have:=(JU.mp B).1;omega
     have a4:=nj ((fA z.2).take j) m;rw[Kw]at a4;walk_at "wp";refine⟨_,.inl ⟨_,.inr y,G,rfl,by rw[ThM.trueD_len];exact aX ⋯,rfl⟩,C.put,hj,?_⟩;rw[ag,ThM.trueD_put,q0E,B];show _=some (HO.dK (ThM.trueD (List.foldl ThM.addNew m (_++[y]))));rw[List.foldl_append];rfl
    ·rintro σ H4 ⟨C,_,G,O,rfl⟩
     rw[JW,Kv]at G;have a4:=nj (fA z.2) m;have c2:=c3 (vm m (fA z.2)) λy=>by rw[j4,ua]
     refine⟨λb o h1 h2 h=>C b o h2 (a1 b o h1 (f2 b o h1 h2 h)),hi,⟨b1,C _ _ a8 b6,vm m (fA z.2),G,c2,λj y hj B=>?_,⋯,⋯⟩,_,_,rfl⟩
     by_cases ej:j=i
     ·subst ej
      rw[D]at B;cases B
      exact j4.mpr (.inr (ua.mpr ⟨0,⋯,rfl⟩))
     ·exact j4.mpr (.inl (n j y ⋯ B))
  ·rintro σ H2 ⟨f2,_,⟨tb,m,J,I,M,n,a5,b4⟩,x4,O,rfl⟩
   have all:∀q,ba p r c q->tx (bM q)∈m:=λq hq=>by
    obtain⟨j,hj⟩:=List.mem_iff_getElem?.mp ((T.1 q).mpr hq);refine n j q ?_ hj;have:=(JU.mp hj).1
    rwa [JW]at this ⊢
   rw[JW]at a5;refine qq H2 tb J ⟨M.nd,λk v h=>?_,λq hq=>M.clo q hq (all q hq),⋯⟩ λb o h1 h2 h=>f2 b o h1 h2 (s1 b o h);obtain⟨h1,h2⟩:=M.key k v h;obtain⟨q,h3,h4⟩:=M.don _ h1;exact⟨⟨q,h3,tx_inj h4⟩,h2⟩
abbrev jZ:Stmt:=fU 49
inductive mq(K:W.Frag)(R:RC)(CG:Addr)(vs:List V)(H:Hp)(Q:VK)(_E:XK):Prop
 |mk (g dx a:Addr) (sg st:KU) (as:KZ) (rs:Yaa) (nms:List (List Nat)) (p:aL) (r c:Nat) (_:vs=[.ref g,.ref a]) (_:dJ R H CG dx g sg st as rs) (_:(cq (tx st) rs).map (·.1)=nms.map tx) (_:gK rs nms p r c) (_:aM K H a (aq p)) (_:∀d H' tb,H d=none->cy H' d tb->lN rs nms p r c tb->aD H H'->Q (.ref d) H')
theorem uN:aH ["grammar","picture","told"] ["grammar","picture"] (aw jZ):=by walk_at "c"
theorem uk{R:RC}{f CG:Addr}{fd:K1}(F:dw K "table_of" "table_of" jZ f fd)(nb:NB mg)(yaN:dF P w K mg base bD 9 "enter_seen" ["grammar","picture","told","done"] (jw K R CG)):bw P w K mg base bD 10 f fd ["grammar","picture"] (mq K R CG):=by
 have sc:=uN;walk_at "f"
 ·obtain⟨g,J,a,y,x,L,z,k,p,r,c,rfl,D,l,G,q,B⟩:=h
  refine⟨_,(ae (q01 2 sc.nd u6)
   (ae (bi (q00 yaN hr (ac (ao 0) (ac (ao 1) (ac (ao 2) (ac oX ad))))))
   (ai (aO (ao 2))))),?_⟩
  walk_at "wp";intro d n e m;have j:=ar (o:=.dT []) n;have v:cy (aE H d (.dT [])) d []:=ag;generalize aE H d (.dT [])=H1 at j v m ⊢;have i:=ar (o:=.dK []) m;have u:aE H1 e (.dK []) e=some (.dK []):=ag;generalize aE H1 e (.dK [])=H2 at i u ⊢;refine⟨g,J,a,d,e,y,x,L,z,k,p,r,c,rfl,D.up (j.trans i),l,G,(j.trans i).seq q,v.up i,u,λM tb C I f2=>?_⟩;exact B d M tb n C I λb o h=>f2 b o (aJ h n) (aJ (j b o h) m) (i b o (j b o h))
abbrev n_:Stmt:=fU 56
inductive fD(K:W.Frag)(vs:List V)(H:Hp)(Q:VK)(_E:XK):Prop
 |mk (a:Addr) (ns:List Int) (k:Nat) (_:vs=[.ref a,.int (k:Int)]) (_:aM K H a (ns.map V.int)) (_:k<=1000) (_:∀c:Int,Q (.int c) H)
theorem yf:aH ["_law_script","_law_k","_law_cell_here","_law_mixed"] ["_law_script","_law_k"] (aw n_):=by walk_at "c"
theorem yp{f:Addr}{fd:K1}(F:dw K "_law_cell" "_law_cell" n_ f fd)(nb:NB mg):bw P w K mg base bD 1 f fd ["_law_script","_law_k"] (fD K):=by
 have sc:=yf;walk_at "f"
 ·obtain⟨a,ns,k,rfl,hS,hk,q⟩:=h
  refine⟨_,(ae (q01 2 sc.nd af)
   (ae (bT (aT ol (az aQ rfl nb.len aS (ac (pv 0) ad)) af (bf _))
   (ai (q01 2 sc.nd (a_ rq (pv 0) (au aR (pv 1) (az aQ rfl nb.len aS (ac (pv 0) ad))) (λ_ _=>rfl))))
   bh)
   (ae (q01 3 sc.nd (au aR (au eZ (au br (au br (au aR (pv 2) af) (au eZ af (pv 1))) af) af) af))
   (ai (aO (au br (au eZ (au aP (pv 2) af) af) (au aR (au br (au eZ (pv 3) af) (pv 1)) af))))))),?_⟩
  walk_at "wp";refine⟨_,hS,?_⟩;rw[JW]
  split
  ·rename_i hlt
   have h0:0<=(k:Int)%(ns.length:Int):=KL _ ⋯;have h1:(k:Int)%(ns.length:Int)<ns.length:=KM _ ⋯;obtain⟨j,hj⟩:∃j:Nat,(k:Int)%(ns.length:Int)=(j:Int):=⟨_,(KN h0).symm⟩;have hj2:j<ns.length:=by omega
   refine⟨_,hS,by rw[JW];omega,_,hS,V.int ns[j],?_,_,rfl,_,rfl,q _⟩;rw[JW,hj];exact bC (by rw[JY,JT hj2];rfl)
  ·exact q _
theorem za:(Str.ofString "abcdefghijklmnopqrstuvwxyz").cps.toList=(List.range 26).map (97 + ·):=by decide +kernel
theorem A8{α:Type}[DecidableEq α]:∀(l σ:List α),(∀x∈l,x∉σ)->l.Nodup->l.foldl dM σ=σ++l
 | [],σ,_,_=>by simp
 |x::l,σ,h,nd=>by
  rw[q0c]at nd;rw[List.foldl_cons,show dM σ x=σ++[x] by unfold dM;rw[q06 (h x q0B)]];rw[A8 l (σ++[x]) (λy hy hm=>?_) nd.2,Kt];rfl
  rcases J8.mp hm with hm | hm
  ·exact h y (J' _ hy) hm
  ·rw[JX.mp hm]at hy;exact nd.1 hy
theorem AG:∀n,n<26->Fc kb (97+n)=true:=by decide +kernel
structure Cc(r:KU):Prop where
 sm:∀x∈r,97<=x/\x<123
 nd:r.Nodup
theorem Cc.signs{r:KU}(h:Cc r)(h1:1<=r.length)(h4:r.length<=4):il r=true:=by
 have b:jv r kb=true:=KG.mpr λx a=>by
  have:=h.sm x a;have e:=AG (x-97) ⋯
  rwa [show 97+(x-97)=x by omega]at e
 have c:(met (cR (tx r))).length=r.length:=by
  unfold met;rw[A8 _ _ (λ_ _=>List.not_mem_nil) ?_]
  ·unfold cR;rw[cV];simp
  ·unfold cR
   rw[cV,List.Nodup,List.pairwise_map];exact h.nd.imp λn e=>n (by have:=q0R (λs:Str=>s.cps[0]?) e;simpa using this)
 unfold il;rw[b,c];simp;omega
theorem qj{α β:Type}(f:α->β):∀(l:List α) (k:Nat),(l.map f).eraseIdx k=(l.eraseIdx k).map f
 | [],_=>rfl
 |_::_,0=>rfl
 |x::l,k+1=>q0R (f x :: ·) (qj f l k)
theorem jQ(r s:KU):tx r++tx s=tx (r++s):=by
 show(⟨r.toArray++s.toArray⟩:Str)=⟨(r++s).toArray⟩;simp
theorem oZ{α:Type}:∀(l:List α) (k:Nat) (x:α),l[k]?=some x->(x::l.eraseIdx k).Perm l
 | [],_,_,e=>nomatch e
 |y::l,0,x,e=>by cases e;exact List.Perm.refl _
 |y::l,k+1,x,e=>(List.Perm.swap y x _).trans ((oZ l k x e).cons y)
theorem Cc.pop{r pl:KU}{k ch:Nat}(h:Cc (r++pl))(e:pl[k]?=some ch):Cc ((r++[ch])++pl.eraseIdx k):=by
 have a:(r++[ch]++pl.eraseIdx k).Perm (r++pl):=by
  rw[Kt];exact(oZ pl k ch e).append_left r
 exact⟨λx b=>h.sm x (a.mem_iff.mp b),a.nodup_iff.mpr h.nd⟩
structure D0(r:KU):Prop where
 ok:il r=true
 one:∀c∈r,jq [c]=true
 nd:r.Nodup
 ns:47∉r
theorem BB:∀n,n<26->jq [97+n]=true:=by decide +kernel
theorem Cc.sig{r:KU}(h:Cc r)(h1:1<=r.length)(h4:r.length<=4):D0 r:=⟨h.signs h1 h4,λc hc=>by
 have:=h.sm c hc;have e:=BB (c-97) ⋯
 rwa [show 97+(c-97)=c by omega]at e,h.nd,λhc=>by have:=h.sm 47 hc;omega⟩
def bP(r:KU):aL:=r.map λc=>[c]
abbrev lP:Stmt:=fU 59
inductive ny(vs:List V)(H:Hp)(Q:VK)(_E:XK):Prop
 |mk (c:Int) (_:vs=[.int c]) (_:∀(l:Addr) (r:KU) (H':Hp),H l=none->H' l=some (.lst (aq (bP r)))->D0 r->1<=r.length->r.length<=4->aD H H'->Q (.ref l) H')
theorem xf:aH ["_law_cell_here","_law_pool","_law_found","_law_rest","_law_k"] ["_law_cell_here"] (aw lP):=by walk_at "c"
theorem wx{f:Addr}{fd:K1}(F:dw K "_law_signs" "_law_signs" lP f fd)(nb:NB mg):bw P w K mg base bD 1 f fd ["_law_cell_here"] ny:=by
 have sc:=xf;walk_at "f"
 ·obtain⟨c,rfl,q⟩:=h
  refine⟨_,(ae (q01 1 sc.nd (cG (wB rfl) rfl nb.list du (fK ad)))
   (ae (q01 2 sc.nd (bF ad))
   (ae (q01 3 sc.nd (au (bd.m1 aP) (ao 0) af))
   (ae (aY PassesOwn.never rfl (bH rfl nb.range (ac (au (bd.m0 br) af (au (bd.m1 aR) (ao 0) af)) ad)) (q02 4 sc.nd)
   (ae (bi (q03 (ao 2) (ac (cJ PySem.F.plainAttrs_list PySem.F.slot_list_pop PySem.F.type_list_pop Az (ao 1) (ac (au (bd.m1 aR) (ao 3) (az aQ rfl nb.len aS (ac (ao 1) ad))) ad)) ad)))
   (ai (q01 3 sc.nd (au (bd.m1 aP) (ao 3) (au (bd.m0 ii) af (ao 4)))))))
   (ai (aO (ao 2))))))),?_⟩
  walk_at "n";refine⟨by decide +kernel,λg v=>h1 _ _ ?_⟩;clear h1;rw[za];generalize z0:aE H g _=H1;obtain⟨O,J⟩:=dY v z0;have T:Cc ((List.range 26).map (97 + ·)):=⟨by decide,by decide⟩;have S:((List.range 26).map (97 + ·)).length=26:=rfl;generalize(List.range 26).map (97 + ·)=p0 at J T S;walk_at "n";refine⟨Kh _,λd o=>h1 _ _ ?_⟩;clear h1;generalize Z:aE H1 d _=H2;obtain⟨M,e2⟩:=dY o Z;have l:=O.free o;have u:g≠d:=aJ J o;walk_at "n";refine h1 _ _ ?_;clear h1;generalize c/4=re;walk_at "n";obtain⟨m,hm⟩:∃m:Nat,c%4=(m:Int):=⟨_,(KN (KL _ ⋯)).symm⟩;have m2:m<4:=by omega
  rw[hm,show(1+(m:Int)).toNat=1+m by omega];refine⟨⋯,⋯,?_⟩;refine bz (lo:=0) (n:=1+m) (λi σ e=>i<=1+m/\aD H e/\∃(a r:KU) (b:Int) (x:Option V),e g=some (.lst (a.map λc=>V.str ⟨#[c]⟩))/\e d=some (.lst (aq (bP r)))/\a.length+i=26/\r.length=i/\Cc (r++a)/\σ=[some (V.int c),some (V.ref g),some (V.ref d),some (V.int b),x]) ⟨⋯,O.trans M,p0,[],re,none,M _ _ J,e2,S,rfl,T,rfl⟩ ?_ ?_
  ·rintro i σ e hi ⟨j3,sm,a,r,b,x,B,C,p,R,D,rfl⟩
   walk_at "n";have h0:0<=b%(a.length:Int):=KL _ ⋯;have hl:b%(a.length:Int)<a.length:=KM _ ⋯;obtain⟨k,hk⟩:∃k:Nat,b%(a.length:Int)=(k:Int):=⟨_,(KN h0).symm⟩;have y:k<a.length:=by omega
   obtain⟨j,z⟩:∃j,a[k]?=some j:=⟨_,JT y⟩;have G:seqIndex? (k:Int) a.length=some k:=by unfold seqIndex?;simp;omega
   have e3:(a.map λc=>V.str ⟨#[c]⟩).eraseIdx k=(a.eraseIdx k).map λc=>V.str ⟨#[c]⟩:=qj ..;refine⟨.inl ⟨rfl,_,aM.of C⟩,.inl ⟨rfl,_,aM.of B⟩,_,aM.of B,by rw[JW];omega,_,B,by rw[JW];omega,by rw[JW];omega,k,by rw[JW,hk];exact G,_,by rw[JY,z];rfl,?_⟩;rw[e3];have I:aE e g (.lst ((a.eraseIdx k).map λc=>V.str ⟨#[c]⟩)) d=some (.lst (aq (bP r))):=by rw[av (Ne.symm u)];exact C
   refine⟨_,I,by rw[aj];unfold bP;rw[JW];exact aX ⋯,h1 _ _ ?_⟩;clear h1;have e4:aq (bP r)++[V.str ⟨#[j]⟩]=aq (bP (r++[j])):=by unfold aq bP;rw[J7,J7];rfl
   rw[e4];have L:aD H (aE (aE e g (.lst ((a.eraseIdx k).map λc=>V.str ⟨#[c]⟩))) d (.lst (aq (bP (r++[j]))))):=bE (bE sm v) l;have Y:aE (aE e g (.lst ((a.eraseIdx k).map λc=>V.str ⟨#[c]⟩))) d (.lst (aq (bP (r++[j])))) g=some (.lst ((a.eraseIdx k).map λc=>V.str ⟨#[c]⟩)):=by rw[av u];exact ag
   have U:aE (aE e g (.lst ((a.eraseIdx k).map λc=>V.str ⟨#[c]⟩))) d (.lst (aq (bP (r++[j])))) d=some (.lst (aq (bP (r++[j])))):=ag;generalize aE (aE e g _) d _=H3 at L Y U ⊢;have el:(a.eraseIdx k).length=a.length-1:=List.length_eraseIdx_of_lt y;walk_at "wp";exact⟨⋯,⋯,⋯,L,a.eraseIdx k,Y,r++[j],U,⋯,by simp[R],D.pop z⟩
  ·rintro σ e ⟨_,sm,a,r,b,x,B,C,p,R,D,rfl⟩
   refine h1 _ _ ?_;walk_at "wp";exact q d r e l C (Cc.sig ⟨λx hx=>D.sm x (q0D _ hx),(List.nodup_append.mp D.nd).1⟩ ⋯ ⋯) ⋯ ⋯ sm
theorem xo:∀n,n<26->(Str.ofString "ABCDEFGHIJKLMNOPQRSTUVWXYZ").cps.toList[n]?=some (65+n):=by decide +kernel
def Ai(c:Nat):Bool:=Fc ER c
theorem wN:∀n,n<26->Ai (65+n)=true:=by decide +kernel
theorem D7(x:Int):∃n:Nat,n<26/\x%26=(n:Int):=⟨(x%26).toNat,⋯,⋯⟩
theorem m8{r:KU}(h:∀x∈r,Ai x=true)(h1:1<=r.length)(h4:r.length<=4):dh r=true:=by
 have a:r.all (Fc ER)=true:=KG.mpr h;unfold dh jv;rw[a];simp;omega
theorem nn{c:TT}{t u:TS}{D:gu}{σ:St}{H:Hp}(h:∀t' u',t'=t->u'=u->pR c t' u' D σ H):pR c t u D σ H:=h t u rfl rfl
abbrev kP:Stmt:=fU 58
inductive nA(vs:List V)(H:Hp)(Q:VK)(_E:XK):Prop
 |mk (c:Int) (_:vs=[.int c]) (_:∀(l:Addr) (p:aL) (H':Hp),H l=none->H' l=some (.lst (aq p))->1<=p.length->p.length<=4->(∀r∈p,dh r=true)->aD H H'->Q (.ref l) H')
theorem wG:aH ["_law_cell_here","_law_letters","_law_many","_law_rest","_law_names_here","_law_k","_law_size","_law_name","_law_j","_law_extra","_law_letter"] ["_law_cell_here"] (aw kP):=by walk_at "c"
theorem vH{f:Addr}{fd:K1}(F:dw K "_law_names" "_law_names" kP f fd)(nb:NB mg):bw P w K mg base bD 1 f fd ["_law_cell_here"] nA:=by
 have sc:=wG;walk_at "f"
 ·obtain⟨c,rfl,q⟩:=h
  refine⟨_,(ae (aC (i:=1) sc.nd rfl (Or.inr rfl) lB)
   (ae (q01 2 sc.nd (au (bd.m0 br) af (au (bd.m1 aR) (au (bd.m1 aP) (ao 0) af) af)))
   (ae (aC (i:=3) sc.nd rfl (Or.inr rfl) (au (bd.m1 aP) (ao 0) af))
   (ae (q01 4 sc.nd (bF ad))
   (ae (bT (aT dQ (au (bd.m1 aR) (ao 0) af) af (bf _))
   (ae (aY PassesOwn.never rfl (bH rfl nb.range (ac (ao 2) ad)) (q02 5 sc.nd)
   (ae (q01 6 sc.nd (au (bd.m0 br) af (au (bd.m1 aR) (ao 3) af)))
   (ae (aC (i:=3) sc.nd rfl (Or.inr rfl) (au (bd.m1 aP) (ao 3) af))
   (ae (q01 7 sc.nd lB)
   (ae (aY PassesOwn.never rfl (bH rfl nb.range (ac (ao 6) ad)) (q02 8 sc.nd)
   (ae (q01 7 sc.nd (au dI (ao 7) (a_ nq (ao 1) (au (bd.m1 aR) (ao 3) af) (λ_ _=>rfl))))
   (ai (aC (i:=3) sc.nd rfl (Or.inr rfl) (au (bd.m1 aP) (ao 3) af)))))
   (ai (bi (q03 (ao 4) (ac (ao 7) ad)))))))))
   (ai (aO (ao 4))))
   bh)
   (ae (bT (aT dQ (au (bd.m1 aR) (au (bd.m1 aP) (ao 3) af) af) af (bf _))
   (ai (aO (cU ["_law_k"] [1,3] rfl (bQ.of (by kernel_rfl)) (by kernel_rfl) (bH rfl nb.range (ac (ao 2) ad))
    (λ_ _ _ _=>(aB (i:=0) (by show(["_law_k","_law_letters","_law_rest"]:List Str).Nodup;decide +kernel) rfl (Or.inl rfl))) (λ_ _ _ _=>cw) (λ_ _ _ _=>(au Cq (a_ nq (ao 1) (au (bd.m1 aR) (au (bd.m1 aP) (ao 2) af) af) (λ_ _=>rfl)) (au (bd.m0 br) af (ao 0)))))))
   bh)
   (ae (q01 9 sc.nd (a_ aU (bF (fK (fK (fK (fK ad))))) (au (bd.m1 aR) (ao 3) af) (λ_ _=>rfl)))
   (ae (aY PassesOwn.never rfl (bH rfl nb.range (ac (ao 2) ad)) (q02 5 sc.nd)
   (ae (q01 10 sc.nd (a_ nq (ao 1) (au (bd.m1 aR) (au (bd.m0 br) (au (bd.m1 aR) (au (bd.m1 aP) (ao 3) af) af) (au (bd.m1 eZ) (au (bd.m0 br) af (au (bd.m1 eZ) af (au (bd.m1 aR) (au (bd.m1 aP) (ao 3) af) af))) (ao 5))) af) (λ_ _=>rfl)))
   (ai (bi (q03 (ao 4) (ac (a_ aU (bF (ac (au dI (ao 10) (ao 9)) (ac (au dI (ao 9) (ao 10)) ad))) (au (bd.m1 aR) (au (bd.m1 aP) (ao 3) af) af) (λ_ _=>rfl)) ad))))))
   (ai (aO (ao 4))))))))))),?_⟩
  obtain⟨m,hm⟩:∃m:Nat,c/2%4=(m:Int):=⟨_,(KN (KL _ ⋯)).symm⟩;have m2:m<4:=by omega
  have em:(1+(m:Int)).toNat=1+m:=by omega
  walk_at "n";refine h1 _ _ ?_;walk_at "nc";rw[hm];refine h1 _ _ ?_;walk_at "nc";refine h1 _ _ ?_;clear h1;generalize c/8=a;walk_at "n";refine⟨Kh _,λG o=>h1 _ _ ?_⟩;clear h1;generalize M:aE H G _=H1;obtain⟨T,e1⟩:=dY o M;have snoc:∀{p:aL} {r:KU},(∀x∈p,dh x=true)->dh r=true->∀x∈p++[r],dh x=true:=λC rn x b=>by
   rcases J8.mp b with h | h
   ·exact C x h
   ·rw[JX.mp h];exact rn
  refine am λN1 h1=>?_;refine nn λtA uA eA eB=>?_;walk_at "wp";refine b9 (λ_=>?_) (λ_=>?_)
  ·rw[eA]
   walk_at "nc";rw[em];refine⟨⋯,⋯,?_⟩;refine bz (n:=1+m) (λi σ g=>aD H g/\(∃p:aL,g G=some (.lst (aq p))/\p.length=i/\∀r∈p,dh r=true)/\∃a x y u v,σ=[some (V.int c),some (V.str (Str.ofString "ABCDEFGHIJKLMNOPQRSTUVWXYZ")),some (V.int (1+(m:Int))),some (V.int a),some (V.ref G),x,y,u,v,none,none]) ⟨T,⟨[],e1,rfl,λr hr=>nomatch hr⟩,_,_,_,_,_,rfl⟩ ?_ ?_
   ·rintro i σ g S ⟨e,⟨p,D,J,C⟩,a,x,y,u,v,rfl⟩
    obtain⟨Y,a4⟩:∃m:Nat,a%4=(m:Int):=⟨_,(KN (KL _ ⋯)).symm⟩;walk_at "n";rw[a4];refine h1 _ _ ?_;walk_at "nc";refine h1 _ _ ?_;clear h1;generalize a/4=re1;walk_at "n";refine h1 _ _ ?_;walk_at "nc";rw[show(1+(Y:Int)).toNat=1+Y by omega];refine⟨⋯,⋯,?_⟩;refine bz (n:=1+Y) (λj σ H2=>H2=g/\∃(a:Int) (r:KU) (y:Option V),r.length=j/\(∀x∈r,Ai x=true)/\σ=[some (V.int c),some (V.str (Str.ofString "ABCDEFGHIJKLMNOPQRSTUVWXYZ")),some (V.int (1+(m:Int))),some (V.int a),some (V.ref G),some (V.int i),some (V.int (1+(Y:Int))),some (V.str (tx r)),y,none,none]) ⟨rfl,re1,[],_,rfl,λx b=>(nomatch b),rfl⟩ ?_ ?_
    ·rintro j σ H2 hj ⟨rfl,O,r,y2,rl,Z,rfl⟩
     walk_at "wp";obtain⟨n,k,L⟩:=D7 O;refine⟨by decide,65+n,by rw[L];exact bC (xo n k),?_,_,r++[65+n],by simp[rl],λz hz=>?_,rfl,jQ r [65+n]⟩
     ·rw[ax];exact ay (by show _+1<=_;omega)
     ·rcases J8.mp hz with h | h
      ·exact Z z h
      ·rw[JX.mp h];exact wN n k
    ·rintro σ H2 ⟨rfl,O,r,y2,rl,Z,rfl⟩
     refine h1 _ _ ?_;walk_at "wp";exact⟨.inl ⟨rfl,_,aM.of D⟩,_,D,by rw[aj,J];exact aX ⋯,bE e o,p++[r],by rw[ag,bX],by rw[Kf,J];rfl,snoc C (m8 Z ⋯ ⋯)⟩
   ·rintro σ g ⟨e,⟨p,D,J,C⟩,a,x,y,u,v,rfl⟩
    refine h1 _ _ ?_;walk_at "wp";exact q G p g o D ⋯ ⋯ C e
  ·rw[eB]
   refine h1 _ _ ?_;clear h1 eA eB;obtain⟨d,d2,hd⟩:=D7 (a/4);walk_at "n";refine b9 (λhc=>?_) (λhc=>h1 _ _ ?_)
   ·rw[em]
    refine⟨⋯,⋯,?_⟩;refine lY (n:=1+m) (f:=λi=>some (V.str (tx (List.replicate (1+i) [65+d]).flatten))) (λσ=>∃x,σ=[x,some (V.str (Str.ofString "ABCDEFGHIJKLMNOPQRSTUVWXYZ")),some (.int a)]) ⟨_,rfl⟩ ⋯ ?_ ?_
    ·rintro i S σ g N1 N0 ⟨y,rfl⟩ sm k1 k0
     walk_at "wp";rw[hd];exact⟨by decide,_,bC (xo d d2),[65+d],rfl,1+i,by push_cast;rfl,⋯,⋯,by simp,k1 _ _ _ rfl sm ⟨_,rfl⟩⟩
    ·intro g sm l hl
     rw[i'];have e0:(List.range (1+m)).map (λi=>V.str (tx (List.replicate (1+i) [65+d]).flatten))=aq ((List.range (1+m)).map λi=>(List.replicate (1+i) [65+d]).flatten):=by
      unfold aq;rw[J9];rfl
     rw[e0];refine q l _ _ (T.free (sm.free hl)) ag (by rw[JW,q0J];omega) (by rw[JW,q0J];omega) (λr hr=>?_) (T.trans (sm.trans (ar hl)));obtain⟨i,S,rfl⟩:=KF.mp hr;have S:=List.mem_range.mp S;refine m8 (λx b=>?_) (by rw[tP];simp) (by rw[tP];simp;omega);obtain⟨y,hy,b⟩:=List.mem_flatten.mp b;rw[List.eq_of_mem_replicate hy]at b;rw[JX.mp b];exact wN d d2
   ·walk_at "n"
    refine⟨ay (by decide),λp1 a2=>?_⟩;generalize M:aE H1 p1 _=H2;obtain⟨s2,e2⟩:=dY a2 M;obtain⟨B,a6,R,a1⟩:∃B:List Nat,iz [V.str (Str.ofString ""),V.str (Str.ofString "Q"),V.str (Str.ofString "ZA"),V.str (Str.ofString "MMX")] (a%4)=some (.str (tx B))/\(∀x∈B,Ai x=true)/\B.length<=3:=by
     rcases(by omega:a%4=0\/a%4=1\/a%4=2\/a%4=3) with h | h | h | h<;>rw[h]
     ·exact⟨[],rfl,(λx b=>nomatch b),by decide⟩
     ·exact⟨[81],rfl,by decide +kernel,by decide⟩
     ·exact⟨[90,65],rfl,by decide +kernel,by decide⟩
     ·exact⟨[77,77,88],rfl,by decide +kernel,by decide⟩
    refine⟨_,aM.of e2,_,a6,h1 _ _ ?_⟩;walk_at "nc";rw[em];refine⟨⋯,⋯,?_⟩;refine bz (lo:=0) (n:=1+m) (λi σ g=>aD H g/\(∃p:aL,g G=some (.lst (aq p))/\p.length=i/\∀r∈p,dh r=true)/\∃x y,σ=[some (V.int c),some (V.str (Str.ofString "ABCDEFGHIJKLMNOPQRSTUVWXYZ")),some (V.int (1+(m:Int))),some (V.int a),some (V.ref G),x,none,none,none,some (V.str (tx B)),y]) ⟨T.trans s2,⟨[],s2 _ _ e1,rfl,λr hr=>nomatch hr⟩,_,_,rfl⟩ ?_ ?_
    ·rintro i σ g S ⟨e,⟨p,D,J,C⟩,x,y,rfl⟩
     walk_at "n";obtain⟨n,k,L⟩:=D7 (a/4%26+(1+2*(a/104%6))*(i:Int));refine⟨.inr ⟨⋯,⋯⟩,by decide,65+n,by rw[L];exact bC (xo n k),h1 _ _ ?_⟩;clear h1;change xF _ _ _ _;generalize hz:(⟨#[65+n]⟩:Str)=z;walk_at "wp";have a0:z=tx [65+n]:=hz.symm;subst a0;have hl1:(tx [65+n]).length=1:=rfl;have hl2:(tx B).length<=3:=by rw[ax];exact a1
     refine⟨.inl ⟨rfl,_,aM.of D⟩,ay ⋯,ay ⋯,ay (by decide),λl3 a5=>?_⟩;generalize M:aE g l3 _=H3;obtain⟨s3,e3⟩:=dY a5 M;obtain⟨U,a3,hn⟩:∃U:List Nat,iz [V.str (tx [65+n]++tx B),V.str (tx B++tx [65+n])] (a/624%2)=some (.str (tx U))/\dh U=true:=by
      have I:∀x∈[65+n],Ai x=true:=λx b=>by rw[JX.mp b];exact wN n k
      rcases(by omega:a/624%2=0\/a/624%2=1) with h | h<;>rw[h]
      ·exact⟨[65+n]++B,by rw[<- jQ];rfl,m8 (λx b=>(J8.mp b).elim (I x) (R x)) (by simp) (by simp;omega)⟩
      ·exact⟨B++[65+n],by rw[<- jQ];rfl,m8 (λx b=>(J8.mp b).elim (R x) (I x)) (by simp) (by simp;omega)⟩
     exact⟨_,aM.of e3,_,a3,_,s3 _ _ D,by rw[aj,J];exact aX ⋯,bE (e.trans s3) o,p++[U],by rw[ag,bX],by rw[Kf,J];rfl,snoc C hn⟩
    ·rintro σ g ⟨e,⟨p,D,J,C⟩,x,y,rfl⟩
     refine h1 _ _ ?_;walk_at "wp";exact q G p g o D ⋯ ⋯ C e
theorem pj(r:KU):(bP r).flatten=r:=by
 induction r with
 |nil=>rfl
 |cons c r ih=>show c::(bP r).flatten=_;rw[ih]
theorem bL.snoc20{R:RC}{H:Hp}{as:KZ}{rs:Yaa}{b:Addr}{r:Nat×RV}(h:bL R H as rs)(hb:gx R H r.1 b r.2):bL R H (as++[b]) (rs++[r]):=by
 refine⟨by rw[Kf,Kf,h.1];rfl,λi a x c d=>?_⟩
 by_cases e:i<as.length
 ·rw[Ke e]at c
  rw[Ke (by rw[<- h.1];exact e)]at d;exact h.2 i a x c d
 ·have g:=(JU.mp c).1
  rw[Kf,q0Z]at g;have hh:=h.1;rw[Kd ⋯,show i-as.length=0 by omega]at c;rw[Kd ⋯,show i-rs.length=0 by omega]at d;cases c;cases d
  exact hb
theorem bL.put20{R:RC}{H:Hp}{lr:Addr}{bs:KZ}{o:HO}{as:KZ}{rs:Yaa}(h:bL R H as rs)(hl:H lr=some (.lst (bs.map V.ref)))(hx:as=[]\/∃b,b∈bs):bL R (aE H lr o) as rs:=by
 refine⟨h.1,λi a r c g=>?_⟩;obtain⟨j,l,h1,h2⟩:=h.2 i a r c g;refine⟨j,l,by rw[av (λz=>by rw[z,hl]at h1;cases h1)];exact h1,?_⟩;rw[av (λz=>?_)]
 ·exact h2
 ·rw[z,hl]at h2
  injection h2 with h2
  injection h2 with h2
  rcases hx with hx | ⟨b,d⟩
  ·rw[hx]at c;simp at c
  ·have:V.ref b∈aq (cC r.1 r.2):=by rw[<- h2];exact KF.mpr ⟨b,d,rfl⟩
   unfold aq at this;obtain⟨y,_,e⟩:=KF.mp this;cases e
abbrev iN:Stmt:=fU 65
inductive j5(R:RC)(CG:Addr)(vs:List V)(H:Hp)(Q:VK)(_E:XK):Prop
 |mk (l la:Addr) (r st:KU) (ts:KZ) (rs:Yaa) (_:vs=[.ref la,.str (tx st),.ref l]) (_:H la=some (.lst (aq (bP r)))) (_:cL H l ts rs) (_:(∀r∈rs,qV r)) (_:rs.length<=24) (_:r.length<=4) (_:st.length<=100) (_:oJ r st rs=none) (_:∀b db as H',dJ R H' CG db b r st as rs->aD H H'->Q (.ref b) H')
theorem tu:aH ["_law_signs_here","_law_start","_law_rules","_law_made","_law_kind","_law_name","_law_cost","_law_one","_law_other"] ["_law_signs_here","_law_start","_law_rules"] (aw iN):=by walk_at "c"
theorem sO{R:RC}{f CG:Addr}{fd:K1}(F:dw K "_law_grammar" "_law_grammar" iN f fd)(nb:NB mg)(rk:lC K R)(gk:Hh K CG)
  (zhb:kX P w K mg base bD 4 "CellRule" R.cc ["self","name","cost","sign"] (ib K)) (zOa:kX P w K mg base bD 4 "BesideRule" R.cb ["self","name","cost","one","other"] (dt K))
  (zSa:kX P w K mg base bD 4 "AboveRule" R.ca ["self","name","cost","one","other"] (dt K)) (zib:kX P w K mg base bD 4 "TurnRule" R.ct ["self","name","cost","part","turning"] (h_ K)) (zrb:kX P w K mg base bD 4 "Grammar" CG ["self","signs","start","rules"] (ig K R)):bw P w K mg base bD 6 f fd ["_law_signs_here","_law_start","_law_rules"] (j5 R CG):=by
 have sc:=tu;walk_at "f"
 ·obtain⟨l,la,r,st,ts,Z,rfl,a8,o,hg,hn,hsg,hst,g0,q⟩:=h
  have hu:=hr.units;refine⟨_,(ae (q01 3 sc.nd (bF ad))
   (ae (aY PassesOwn.never rfl (bN (ao 2)) (ic (n:=5) rfl (bp (q02 4 sc.nd) (bp (q02 5 sc.nd) (bp (q02 6 sc.nd) (bp (q02 7 sc.nd) (bp (q02 8 sc.nd) dB))))))
   (ai (bT (aT dQ (ao 4) af (bf _))
   (ai (bi (q03 (ao 3) (ac (iZ zhb (hr.mono (by decide)) rfl aK (ac (ao 5) (ac (ao 6) (ac (ao 7) ad)))) ad))))
   (ai (bT (aT dQ (ao 4) af (bf _))
   (ai (bi (q03 (ao 3) (ac (iZ zOa (hr.mono (by decide)) rfl aK (ac (ao 5) (ac (ao 6) (ac (ao 7) (ac (ao 8) ad))))) ad))))
   (ai (bT (aT dQ (ao 4) af (bf _))
   (ai (bi (q03 (ao 3) (ac (iZ zSa (hr.mono (by decide)) rfl aK (ac (ao 5) (ac (ao 6) (ac (ao 7) (ac (ao 8) ad))))) ad))))
   (ai (bi (q03 (ao 3) (ac (iZ zib (hr.mono (by decide)) rfl aK (ac (ao 5) (ac (ao 6) (ac (ao 7) (ac (ao 8) ad))))) ad)))))))))))
   (ai (aO (iZ zrb (hr.mono (by decide)) rfl aK (ac (@qE _ _ _ _ _ _ _ _ (ac (ao 0) ad) rfl rfl) (ac (ao 1) (ac (ao 3) ad)))))))),?_⟩
  walk_at "n";refine⟨Kh _,λL a4=>h1 _ _ ?_⟩;clear h1;generalize z0:aE H L _=H1;obtain⟨s1,e1⟩:=dY a4 z0;walk_at "n";refine⟨⟨_,aM.of (s1 _ _ o.1)⟩,?_⟩;have a7:=o.2.1;refine b5 (xs:=ts.map V.ref) (λi σ G=>aD H G/\i<=ts.length/\(∃M:List Addr,G L=some (.lst (M.map V.ref))/\bL R G M (Z.take i))/\∃x4 x5 x6 x7 x8,σ=[some (V.ref la),some (V.str (tx st)),some (V.ref l),some (V.ref L),x4,x5,x6,x7,x8]) ⟨s1,Kh _,⟨[],e1,⟨rfl,λi a r e=>by simp at e⟩⟩,_,_,_,_,_,rfl⟩ (λi σ G _ h=>aM.of (h.1 _ _ o.1)) ?_ ?_
  ·rintro i x σ G B ⟨sm,_,⟨M,z,hA⟩,x4,x5,x6,x7,x8,rfl⟩
   rw[JY]at B;obtain⟨t,ht,rfl⟩:=Kk.mp B;have hi:=(JU.mp ht).1;obtain⟨⟨k,v⟩,hr⟩:∃r,Z[i]?=some r:=⟨_,JT ⋯⟩;have a6:=sm _ _ (o.2.2 i t (k,v) ht hr);obtain⟨hk,g,S⟩:=hg _ (JZ hr);have T:=dZ.of (K:=K) a6;have g:v.good:=g;have bn:v.n.length<=100000:=by have:=S.n;simp only at this;omega
   have b1:v.o1.length<=100000:=by have:=S.o1;simp only at this;omega
   have b2:v.o2.length<=100000:=by have:=S.o2;simp only at this;omega
   have bs:v.sg.length<=100000:=by have:=S.sg;simp only at this;omega
   have b0:=hA.1;rw[Kw]at b0;have a5:Z.take (i+1)=Z.take i++[(k,v)]:=by rw[q0E,hr];rfl
   have fin:∀b d D H2,H2 b=some (.ins (R.at k) d (rE k D v))->H2 D=some (.lst (aq (cC k v)))->D≠L->aD G H2->∃xs,H2 L=some (.lst xs)/\xs.length<sizeLine/\aD H (aE H2 L (.lst (xs++[V.ref b])))/\i+1<=ts.length/\∃M,aE H2 L (.lst (xs++[V.ref b])) L=some (.lst (M.map V.ref))/\bL R (aE H2 L (.lst (xs++[V.ref b]))) M (Z.take (i+1)):=λb d D H2 hb j m s2=>by
    have h2:=s2 _ _ z;refine⟨_,h2,by rw[JW];exact aX ⋯,bE (sm.trans s2) a4,hi,M++[b],by rw[ag,J7];rfl,?_⟩;rw[a5];refine bL.snoc20 ((hA.up s2).put20 h2 ?_) ⟨d,D,by rw[av (λe=>by rw[e,h2]at hb;cases hb)];exact hb,by rw[av m];exact j⟩;cases M with
    |nil=>exact .inl rfl
    |cons a M=>exact .inr ⟨a,q0B ..⟩
   have sN:∀{x d:Addr} {C:Addr},G x=none->G d=none->d≠x->∀{D:Addr},aE (aE G d (.own x)) x (.ins C d []) D=none->D≠L:=fun{x d C} B J m {D} j e=>by
    rw[e,av (aJ z B),av (aJ z J),z]at j;cases j
   walk_at "wp";rcases gY hk with rfl | rfl | rfl | rfl
   ·change dZ K G t [.int 0,.str (tx v.n),.int v.c,.str (tx v.sg),.str ""]at T
    refine⟨_,T,rfl,_,_,rfl,_,_,rfl,_,_,rfl,_,_,rfl,_,_,rfl,rfl,rfl,?_⟩;rw[q07 rfl];exact⟨.inl ⟨rfl,_,aM.of z⟩,λx d B J m=>⟨x,R.cc,d,v.n,v.sg,v.c,rfl,ag,rk.i0.cl,rk.a0,bn,bs,g.ok 0,λD H2 O j I Y=>⟨rfl,fin x d D H2 Y I (sN B J m j) (i4 B J O)⟩⟩⟩
   ·change dZ K G t [.int 1,.str (tx v.n),.int v.c,.str (tx v.o1),.str (tx v.o2)]at T
    refine⟨_,T,rfl,_,_,rfl,_,_,rfl,_,_,rfl,_,_,rfl,_,_,rfl,rfl,rfl,?_⟩;rw[q06 (by decide)];refine⟨rfl,?_⟩;rw[q07 rfl];exact⟨.inl ⟨rfl,_,aM.of z⟩,λx d B J m=>⟨x,R.cb,d,v.n,v.o1,v.o2,v.c,rfl,ag,rk.i1.cl,rk.a1,bn,b1,b2,g.ok 1,λD H2 O j I Y=>⟨rfl,fin x d D H2 Y I (sN B J m j) (i4 B J O)⟩⟩⟩
   ·change dZ K G t [.int 2,.str (tx v.n),.int v.c,.str (tx v.o1),.str (tx v.o2)]at T
    refine⟨_,T,rfl,_,_,rfl,_,_,rfl,_,_,rfl,_,_,rfl,_,_,rfl,rfl,rfl,?_⟩;rw[q06 (by decide)];refine⟨rfl,?_⟩;rw[q06 (by decide)];refine⟨rfl,?_⟩;rw[q07 rfl];exact⟨.inl ⟨rfl,_,aM.of z⟩,λx d B J m=>⟨x,R.ca,d,v.n,v.o1,v.o2,v.c,rfl,ag,rk.i2.cl,rk.a2,bn,b1,b2,g.ok 2,λD H2 O j I Y=>⟨rfl,fin x d D H2 Y I (sN B J m j) (i4 B J O)⟩⟩⟩
   ·change dZ K G t [.int 3,.str (tx v.n),.int v.c,.str (tx v.o1),.int v.t]at T
    refine⟨_,T,rfl,_,_,rfl,_,_,rfl,_,_,rfl,_,_,rfl,_,_,rfl,rfl,rfl,?_⟩;rw[q06 (by decide)];refine⟨rfl,?_⟩;rw[q06 (by decide)];refine⟨rfl,?_⟩;rw[q06 (by decide)];exact⟨.inl ⟨rfl,_,aM.of z⟩,λx d B J m=>⟨x,R.ct,d,v.n,v.o1,v.c,v.t,rfl,ag,rk.i3.cl,rk.a3,bn,b1,g.ok 3,λD H2 O j I Y=>⟨rfl,fin x d D H2 Y I (sN B J m j) (i4 B J O)⟩⟩⟩
  ·rintro σ G ⟨sm,_,⟨M,z,hA⟩,x4,x5,x6,x7,x8,rfl⟩
   refine h1 _ _ ?_;rw[JW,a7,Kv]at hA;walk_at "wp";refine⟨rfl,(bP r).map tx,.inl (by rw[<- fO];exact aM.of (sm _ _ a8)),?_,λx d B a9 m=>?_⟩
   ·have h1:=gO (p:=bP r) (n:=1) λy hy=>by
     obtain⟨c,_,rfl⟩:=KF.mp hy;exact Kg _
    have h2:(bP r).length=r.length:=by unfold bP;rw[JW]
    have e0:(Str.ofString "").length=0:=rfl;rw[e0];omega
   ·rw[QL.join_nil,pj]
    have U:aD G (aE (aE G d (.own x)) x (.ins CG d [])):=(ar a9).trans (ar (by rw[av (Ne.symm m)];exact B));refine⟨x,CG,d,L,r,st,M,Z,rfl,ag,gk.cl.cl,gk.na,⋯,⋯,U _ _ z,hA.up U,λr hr=>(hg r hr).k4,⋯,g0,(λH4 lk pn t O gA _ _ _=>⟨rfl,?_⟩)⟩;exact q x d _ H4 gA.f (sm.trans λb u e=>O b u (aJ e B) (U b u e))
abbrev oR:Stmt:=fU 66
inductive kZ(K:W.Frag)(vs:List V)(H:Hp)(Q:VK)(_E:XK):Prop
 |mk (a:Addr) (p:aL) (_:vs=[.ref a]) (_:H a=some (.lst (aq p))) (_:eM p) (_:Q (.str (tx (bM p))) H)
theorem zm:aH ["_law_picture"] ["_law_picture"] (aw oR):=by walk_at "c"
theorem zC{f:Addr}{fd:K1}(F:dw K "_law_text" "_law_text" oR f fd)(nb:NB mg):bw P w K mg base bD 1 f fd ["_law_picture"] (kZ K):=by
 have sc:=zm;walk_at "f"
 ·obtain⟨a,p,rfl,c,b,q⟩:=h
  refine⟨_,(ai (aO (@qE _ _ _ _ _ _ _ _ (ac (ao 0) ad) rfl rfl))),?_⟩;walk_at "wp";refine⟨rfl,p.map tx,.inl (by rw[<- fO];exact aM.of c),?_,?_⟩
  ·have:=gO b.2
   have h1:=b.1;have d:(Str.ofString "/").length=1:=rfl;rw[JW,d];have h2:p.length*64<=64*64:=Nat.mul_le_mul_right _ h1;omega
  ·rw[xI];exact q
abbrev jL:Stmt:=fU 60
inductive eO(K:W.Frag)(vs:List V)(H:Hp)(Q:VK)(_E:XK):Prop
 |mk (a:Addr) (p:aL) (r c t:Nat) (_:vs=[.ref a,.int (t:Int)]) (_:H a=some (.lst (aq p))) (_:rect p r c) (_:0<r) (_:0<c) (_:r<=64) (_:c<=64) (_:t<8) (_:∀l H',H l=none->H' l=some (.lst (aq (turned p t)))->aD H H'->Q (.ref l) H')
theorem tT:aH ["_law_picture","_law_t","_law_found","_law_k"] ["_law_picture","_law_t"] (aw jL):=by walk_at "c"
theorem t_{f:Addr}{fd:K1}(F:dw K "_law_turned" "_law_turned" jL f fd)(nb:NB mg):bw P w K mg base bD 1 f fd ["_law_picture","_law_t"] (eO K):=by
 have sc:=tT;walk_at "f"
 ·obtain⟨a,p,r,c,t,rfl,hS,hp,L,T,J,S,ht,q⟩:=h
  refine⟨_,(ae (aC (i:=2) sc.nd rfl (Or.inr rfl) (cG bY rfl nb.list du (ac (ao 0) ad)))
   (ae (bT (aT (bd.m0 ol) (ao 1) af (bf _))
   (ai (aC (i:=2) sc.nd rfl (Or.inr rfl) (cU ["_law_row"] [] rfl (bQ.of (by kernel_rfl)) (by kernel_rfl) (bN (ao 2))
    (λ_ _ _ _=>(aB (i:=0) (by show(["_law_row"]:List Str).Nodup;decide +kernel) rfl (Or.inl rfl))) (λ_ _ _ _=>cw) (λ_ _ _ _=>(ou rfl rfl nb.reversed (ac (ao 0) ad))))))
   bh)
   (ae (aY PassesOwn.never rfl (bH rfl nb.range (ac (au (bd.m1 aR) (ao 1) af) ad)) (q02 3 sc.nd)
   (ai (aC (i:=2) sc.nd rfl (Or.inr rfl) (cU ["_law_j"] [2] rfl (bQ.of (by kernel_rfl)) (by kernel_rfl) (bH rfl nb.range (ac (az aW rfl nb.len aS (ac (a_ aU (ao 2) af (λ_ _=>rfl)) ad)) ad))
    (λ_ _ _ _=>(aB (i:=0) (by show(["_law_j","_law_found"]:List Str).Nodup;decide +kernel) rfl (Or.inr rfl))) (λ_ _ _ _=>cw) (λ_ _ _ _=>(@D_ _ K _ _ _ _ _ _ _ rfl (ac (cU ["_law_row"] [0] rfl (bQ.of (by kernel_rfl)) (by kernel_rfl) (Co (K:=K) rfl rfl nb.reversed (ac (ao 1) ad))
    (λ_ _ _ _=>(aB (i:=0) (by show(["_law_row","_law_j"]:List Str).Nodup;decide +kernel) rfl (Or.inl rfl))) (λ_ _ _ _=>cw) (λ_ _ _ _=>(a_ nq (ao 0) (ao 1) (λ_ _=>rfl)))) ad) rfl rfl))))))
   (ai (aO (ao 2)))))),?_⟩
  walk_at "n";refine⟨_,.inl (aM.of hS),λl k=>h1 _ _ ?_⟩;clear h1;generalize z0:aE H l _=H1;obtain⟨s1,e1⟩:=dY k z0;refine am λN2 h2=>?_;have u:∀(z:Addr) (g:aL) (H2:Hp),H z=none->H2 z=some (.lst (aq g))->aD H H2->rect g r c->turned p t=aV (t%4) g->N2 [some (V.ref a),some (V.int (t:Int)),some (V.ref z),none] H2:=by
   intro z g H2 o a3 a0 a1 et;refine h2 _ _ ?_;clear h2;refine am λN3 h3=>?_;walk_at "wp";refine⟨⋯,⋯,?_⟩;have e4:((t:Int)%4).toNat=t%4:=by omega
   rw[e4];refine bz (lo:=0) (n:=t%4) (λi σ Z=>∃(v:Addr) (x:Option V),σ=[some (V.ref a),some (V.int (t:Int)),some (V.ref v),x]/\H v=none/\Z v=some (.lst (aq (aV i g)))/\aD H Z) ⟨z,_,rfl,o,a3,a0⟩ ?_ ?_
   ·rintro i σ Z hi ⟨v,x,rfl,R,Y,m⟩
    have hq:=cZ i a1 L T;obtain⟨r',c',C,g4,g5,g6⟩:∃r' c',rect (aV i g) r' c'/\0<r'/\r'<=64/\c'<=64:=by
     by_cases j3:i%2=0
     ·rw[q07 j3,q07 j3]at hq;exact⟨r,c,hq,L,J,S⟩
     ·rw[q06 j3,q06 j3]at hq;exact⟨c,r,hq,T,S,J⟩
    have M:aV (i+1) g=bx (aV i g):=(cK 1 i g).symm;generalize aV i g=pq at Y C M;obtain⟨a2,d⟩:=cX C g4;walk_at "wp";refine⟨_,aM.of Y,_,bC (j:=0) (bc a2),_,rfl,by rw[ax];exact ay ⋯,⋯,by rw[ax];omega,?_⟩;rw[ax,d,J4];refine lY (n:=c') (f:=λj=>some (V.str (tx (rM pq j)))) (λσ=>∃x,σ=[x,some (V.ref v)]) ⟨_,rfl⟩ ⋯ ?_ ?_
    ·rintro j hj σ H4 M1 M0 ⟨y,rfl⟩ G k1 k0
     have U:=G _ _ Y;walk_at "wp";have hd:∀n,((pq.reverse.take n).map λr=>V.str ⟨#[r.getD j 0]⟩)=(((pq.reverse.take n).map λr=>r.getD j 0).map λc=>(⟨#[c]⟩:Str)).map V.str:=λn=>by rw[J9,J9];rfl
     refine⟨rfl,_,aM.of U,uJ (xs:=aq pq) (λn b σ D=>D=H4/\b=((pq.reverse.take n).map λr=>V.str ⟨#[r.getD j 0]⟩)/\n<=pq.length/\∃x,σ=[x,some (.int (j:Int))]) ⟨rfl,rfl,Kh _,none,by simp⟩ ?_ ?_ ?_ ?_ ?_⟩
     ·rintro n b σ D ⟨_,rfl,_⟩
      rw[JW,Kw,Ka,C.1];exact aX ⋯
     ·rintro n b σ D ⟨_,_,h,_⟩
      rw[aj];exact h
     ·rintro n b σ D ⟨rfl,_⟩
      exact aM.of U
     ·rintro n x b σ D hx ⟨rfl,rfl,hn,y,rfl⟩
      have k:n<pq.reverse.length:=by
       have:=(JU.mp hx).1
       rwa [Ka,aj,<- Ka (as:=pq)]at this
      have I:(aq pq.reverse)[n]?=some x:=by unfold aq at hx ⊢;rwa [List.map_reverse]
      rw[bc k]at I;cases I;have hm:pq.reverse[n]∈pq:=List.mem_reverse.mp (J3 k);have hr:=C.2 _ hm;walk_at "wp";have hc:(tx pq.reverse[n]).cps.toList[j]?=some (pq.reverse[n].getD j 0):=by rw[cV,q0A,JT ⋯];rfl
      refine⟨by rw[ax];exact ay ⋯,_,bC hc,?_,by rw[Ka]at k;exact k⟩;rw[q0E,JT k,J7]
      rfl
     ·rintro b σ D ⟨rfl,rfl,_⟩ l k
      rw[aj,<- Ka (as:=pq),Kv]at *;refine⟨(rM pq j).map λc=>(⟨#[c]⟩:Str),.inl (aM.of ?_),?_,?_⟩
      ·rw[ag];unfold rM;rw[J9,J9];rfl
      ·rw[J9]
       have e:((λy:Str=>y.length)∘λc=>(⟨#[c]⟩:Str))=λ_=>1:=by funext c;rfl
       have e0:(Str.ofString "").length=0:=rfl;have e2:(rM pq j).length=pq.length:=by unfold rM;rw[JW,Ka]
       rw[e,List.map_const',List.sum_replicate_nat,JW,e0,e2,C.1];omega
      ·rw[i6]
       exact k1 _ _ _ rfl (G.trans (ar k)) ⟨_,rfl⟩
    ·intro H4 G l4 O
     rw[i'];refine⟨m.free (G.free O),?_,m.trans (G.trans (ar O))⟩;rw[ag,M];unfold bx aq;rw[bg C g4,J9];rfl
   ·rintro σ Z ⟨v,x,rfl,R,Y,m⟩
    refine h3 _ _ ?_;walk_at "wp";exact q v Z R (by rw[et];exact Y) m
  walk_at "wp";refine b9 (λh3=>⟨⟨_,aM.of e1⟩,?_⟩) (λh3=>u l p H1 k e1 s1 hp (by unfold turned;rw[q06 ⋯]));refine fR (as:=p) (emb:=λrow=>V.str (tx row)) (f:=λrow=>some (V.str (tx row.reverse))) (λσ=>∃x,σ=[x]) ⟨_,rfl⟩ (λH2 B=>aM.of (B _ _ e1)) (by rw[hp.1];omega) ?_ ?_
  ·rintro j row d σ H2 M1 M0 ⟨y,rfl⟩ B k1 k0
   have hrl:=hp.2 row (JZ d);walk_at "wp";refine⟨by rw[ax];omega,by decide,?_⟩;rw[cV,i6];exact k1 _ _ _ rfl B ⟨_,rfl⟩
  ·intro H2 B z o
   rw[i'];have em:p.map (λrow=>V.str (tx row.reverse))=aq (mirror p):=by unfold aq mirror;rw[J9];rfl
   rw[em];exact u z (mirror p) _ (s1.free (B.free o)) ag (s1.trans (B.trans (ar o))) (cr hp) (by unfold turned;rw[q07 ⋯])
def oq(k:Nat)(p q:aL):Option aL:=if k=1/\p.length=q.length then some (pi true p q) else if k=2/\(p.headD []).length=(q.headD []).length then some (pi false p q) else none
abbrev r9:Stmt:=fU 61
inductive u9(K:W.Frag)(vs:List V)(H:Hp)(Q:VK)(_E:XK):Prop
 |mk (a b:Addr) (p q:aL) (k r c r' c':Nat) (_:vs=[.int (k:Int),.ref a,.ref b]) (_:H a=some (.lst (aq p))) (_:H b=some (.lst (aq q))) (_:rect p r c) (_:rect q r' c') (_:0<r) (_:r<=6) (_:0<c) (_:c<=6) (_:0<r') (_:r'<=6) (_:0<c') (_:c'<=6) (_:k<4) (_:(oq k p q=none->∀H',aD H H'->Q .non H')) (_:∀pq,oq k p q=some pq->∀l H',H l=none->H' l=some (.lst (aq pq))->aD H H'->Q (.ref l) H')
theorem AQ:aH ["_law_kind","_law_one","_law_other"] ["_law_kind","_law_one","_law_other"] (aw r9):=by walk_at "c"
theorem AV{f:Addr}{fd:K1}(F:dw K "_law_put" "_law_put" r9 f fd)(nb:NB mg):bw P w K mg base bD 1 f fd ["_law_kind","_law_one","_law_other"] (u9 K):=by
 have sc:=AQ;walk_at "f"
 ·obtain⟨a,b,p,q,k,r,c,r',c',rfl,G,D,J,I,Y,r6,c0,c6,m,r6',c0',c6',k4,q0,Z⟩:=h
  refine⟨_,(ae (bT (PW.pt (fM (aT dQ (ao 0) af (bf _)) (eC (aT dQ (az aQ rfl nb.len aS (ac (ao 1) ad)) (az aQ rfl nb.len aS (ac (ao 2) ad)) (bf _)))))
   (ai (aO (cU ["_law_a","_law_b"] [] rfl (bQ.of (by kernel_rfl)) (by kernel_rfl) (A7 rfl nb.zip (ac (ao 1) (ac (ao 2) ad)))
    (λ_ _ _ _=>(m7 (K:=K) (n:=2) rfl rfl (bp (aB (i:=0) (by show(["_law_a","_law_b"]:List Str).Nodup;decide +kernel) rfl (Or.inl rfl)) (bp (aB (i:=1) (by show(["_law_a","_law_b"]:List Str).Nodup;decide +kernel) rfl (Or.inl rfl)) dB)))) (λ_ _ _ _=>cw) (λ_ _ _ _=>(au dI (ao 0) (ao 1))))))
   bh)
   (ae (bT (PW.pt (fM (aT dQ (ao 0) af (bf _)) (eC (aT dQ (az aW rfl nb.len aS (ac (a_ aU (ao 1) af (λ_ _=>rfl)) ad)) (az aW rfl nb.len aS (ac (a_ aU (ao 2) af (λ_ _=>rfl)) ad)) (bf _)))))
   (ai (aO (au rK (ao 1) (ao 2))))
   bh)
   (ai (aO ly)))),?_⟩
  walk_at "n";have hplen:p.length=r:=J.1;have hqlen:q.length=r':=I.1;have e1:=bg J Y;have e2:=bg I m;have tail:N1 [some (V.int (k:Int)),some (V.ref a),some (V.ref b)] H\/True:=.inr trivial;have bU:¬ (k=1/\p.length=q.length)->N1 [some (V.int (k:Int)),some (V.ref a),some (V.ref b)] H:=by
   intro hn;refine h1 _ _ ?_;clear h1;obtain⟨R,U⟩:=cX J Y;obtain⟨u,C⟩:=cX I m;refine am λN1 h1=>?_;have no:¬ (k=2/\(p.headD []).length=(q.headD []).length)->N1 [some (V.int (k:Int)),some (V.ref a),some (V.ref b)] H:=by
    intro O;refine h1 _ _ ?_;walk_at "wp";exact q0 (by unfold oq;rw[q06 hn,q06 O]) H (λ_ _ e=>e)
   walk_at "wp";refine b9 (λv=>?_) (λv=>no (λz=>v ⋯));refine⟨_,aM.of G,_,(show iz _ ((0:Nat):Int)=_ from bC (bc R)),_,rfl,by rw[ax];exact ay ⋯,_,aM.of D,_,(show iz _ ((0:Nat):Int)=_ from bC (bc u)),_,rfl,by rw[ax];exact ay ⋯,?_⟩;rw[ax,ax,U,C];refine b9 (λhc=>?_) (λhc=>no (λz=>hc (by rw[e1,e2]at z;omega)));refine⟨_,G,_,D,by rw[aj,aj];exact ay ⋯,λl g=>?_⟩;exact Z (pi false p q) (by unfold oq;rw[q06 hn,q07 ⟨⋯,by rw[e1,e2];omega⟩]) l _ g (by rw[ag];unfold pi aq;rw[q06 (by decide),J7]) (ar g)
  refine b9 (λv=>⟨_,aM.of G,_,aM.of D,?_⟩) (λv=>bU (λz=>v ⋯));rw[aj,aj];refine b9 (λg=>?_) (λg=>bU (λz=>g ⋯));have M:p.length=q.length:=by omega
  refine⟨_,aM.of G,_,aM.of D,?_⟩;have o:(pi true p q).length=r:=by show((p.zip q).map _).length=_;rw[JW,q0N];omega
  refine Ao (xs:=aq p) (ys:=aq q) (n:=r) (by rw[aj,aj];omega) (λi d σ j=>aD H j/\d=aq ((pi true p q).take i)/\i<=r/\∃y z,σ=[y,z]) ⟨λ_ _ e=>e,rfl,Kh _,_,_,rfl⟩ ?_ ?_ ?_ ?_ ?_
  ·rintro i d σ j ⟨_,rfl,S,_⟩
   rw[aj,Kw];exact aX ⋯
  ·rintro i d σ j ⟨_,_,h,_⟩
   exact h
  ·rintro i d σ j ⟨sm,_⟩
   exact⟨aM.of (sm _ _ G),aM.of (sm _ _ D)⟩
  ·rintro i x y d σ j T L hy ⟨sm,rfl,_,y1,z1,rfl⟩ hT
   have S:i<p.length:=by have:=(JU.mp L).1;rwa [aj]at this
   have B:i<q.length:=by omega
   rw[bc S]at L;rw[bc B]at hy;cases L;cases hy;have hrow:=J.2 _ (J3 S);have hrow':=I.2 _ (J3 B);walk_at "wp";refine⟨_,dZ.of ag,rfl,_,_,rfl,_,_,rfl,rfl,?_⟩;have e:(pi true p q)[i]?=some (p[i]++q[i]):=by
    show((p.zip q).map λx=>x.1++x.2)[i]?=_;rw[JY,JT (by rw[q0N];omega),List.getElem_zip];rfl
   refine⟨_,rfl,_,rfl,by rw[ax,ax];exact ay ⋯,sm.trans (ar hT),?_,⋯⟩;rw[jQ,q0E,e];show aq _++_=aq (_++[p[i]++q[i]]);rw[bX]
  ·rintro d σ j ⟨sm,rfl,_⟩ l g
   rw[<- o,Kv];exact Z _ (by unfold oq;rw[q07 ⟨⋯,M⟩]) l _ (sm.free g) ag (sm.trans (ar g))
theorem iI{p:aL}(h:p≠[])(z:Int):∃nm,nm∈p/\iz (aq p) (z%((aq p).length:Int))=some (V.str (tx nm)):=by
 have hl:0<p.length:=List.length_pos_iff.mpr h;obtain⟨j,b⟩:∃j:Nat,z%((aq p).length:Int)=(j:Int):=⟨_,(KN (KL _ (by rw[aj];omega))).symm⟩;have a:j<p.length:=by
  have:=KM z (show(0:Int)<((aq p).length:Int) by rw[aj];omega);rw[b,aj]at this;omega
 exact⟨p[j],J3 _,by rw[b];exact bC (bc a)⟩
theorem va{r:KU}(h:r≠[])(z:Int):∃g,g∈r/\iz (aq (bP r)) (z%((aq (bP r)).length:Int))=some (V.str (tx [g])):=by
 obtain⟨nm,a,e⟩:=iI (p:=bP r) (by unfold bP;simpa using h) z;obtain⟨g,b,rfl⟩:=KF.mp a;exact⟨g,b,e⟩
theorem qB{H H2 H3:Hp}{l t:Addr}{ts:KZ}{rs:Yaa}{x:Nat×RV}(h:cL H l ts rs)(s:aD H H2)(ht:H2 t=none)(hv:H3=aE H2 t (.tup (o_ x))):aD H H3/\H3 l=some (.lst (ts.map V.ref))/\cL (aE H3 l (.lst (ts.map V.ref++[V.ref t]))) l (ts++[t]) (rs++[x]):=by
 subst hv;have a:=s.trans (ar (o:=.tup (o_ x)) ht);have b:=h.up a;exact⟨a,b.1,cL.app b ag⟩
abbrev kH:Stmt:=fU 63
inductive nG(vs:List V)(H:Hp)(Q:VK)(_E:XK):Prop
 |mk (lc ln ls:Addr) (cs:List Int) (p:aL) (r:KU) (_:vs=[.ref lc,.ref ln,.ref ls]) (_:H lc=some (.lst (cs.map V.int))) (_:H ln=some (.lst (aq p))) (_:H ls=some (.lst (aq (bP r)))) (_:p≠[]) (_:r≠[]) (_:cs.length<=100) (_:p.length<=8) (_:r.length<=8) (_:(∀n∈p,dh n=true)) (_:(∀c∈r,jq [c]=true)) (_:∀l ts rs H',H l=none->cL H' l ts rs->rs.length=cs.length->(∀x∈rs,iQ p r x)->aD H H'->Q (.ref l) H')
theorem w8:aH ["_law_cells","_law_names_here","_law_signs_here","_law_rules","_law_cell_here","_law_name","_law_cost","_law_one"] ["_law_cells","_law_names_here","_law_signs_here"] (aw kH):=by walk_at "c"
theorem v8{f:Addr}{fd:K1}(F:dw K "_law_noise" "_law_noise" kH f fd)(nb:NB mg):bw P w K mg base bD 1 f fd ["_law_cells","_law_names_here","_law_signs_here"] nG:=by
 have sc:=w8;walk_at "f"
 ·obtain⟨lc,ln,ls,cs,p,r,rfl,O,a3,a2,S,r0,c100,p8,r8,B,a0,q⟩:=h
  refine⟨_,(ae (q01 3 sc.nd (bF ad))
   (ae (aY PassesOwn.never rfl (bN (ao 0)) (q02 4 sc.nd)
   (ae (q01 5 sc.nd (a_ aU (ao 1) (au (bd.m1 aR) (au (bd.m1 aP) (ao 4) af) (az aQ rfl nb.len aS (ac (ao 1) ad))) (λ_ _=>rfl)))
   (ae (q01 6 sc.nd (au (bd.m0 br) af (au (bd.m1 aR) (au (bd.m1 aP) (ao 4) af) af)))
   (ae (q01 7 sc.nd (a_ aU (ao 1) (au (bd.m1 aR) (au (bd.m1 aP) (ao 4) af) (az aQ rfl nb.len aS (ac (ao 1) ad))) (λ_ _=>rfl)))
   (ai (bT (aT dQ (au (bd.m1 aR) (ao 4) af) af (bf _))
   (ai (bi (q03 (ao 3) (ac (bZ (b_ (ac (ao 5) (ac (ao 6) (ac (a_ aU (ao 2) (au (bd.m1 aR) (au (bd.m1 aP) (ao 4) af) (az aQ rfl nb.len aS (ac (ao 2) ad))) (λ_ _=>rfl)) (fK ad)))))) ad))))
   (ai (bT (aT dQ (au (bd.m1 aR) (ao 4) af) af (bf _))
   (ai (bi (q03 (ao 3) (ac (bZ (b_ (ac (ao 5) (ac (ao 6) (ac (ao 7) (ac (au (bd.m1 aR) (au (bd.m1 aP) (ao 4) af) af) ad)))))) ad))))
   (ai (bi (q03 (ao 3) (ac (bZ (ac (au (bd.m1 aR) (ao 4) af) (ac (ao 5) (ac (ao 6) (ac (ao 7) (ac (a_ aU (ao 1) (au (bd.m1 aR) (au (bd.m1 aP) (ao 4) af) (az aQ rfl nb.len aS (ac (ao 1) ad))) (λ_ _=>rfl)) ad)))))) ad))))))))))))
   (ai (aO (ao 3))))),?_⟩
  walk_at "n";refine⟨Kh _,λl hl=>h1 _ _ ?_⟩;clear h1;generalize z0:aE H l _=H1;obtain⟨s1,e1⟩:=dY hl z0;walk_at "n";have C:0<(aq p).length:=by rw[aj];exact List.length_pos_iff.mpr S
  have a1:0<(aq (bP r)).length:=by rw[aj];unfold bP;rw[JW];exact List.length_pos_iff.mpr r0
  refine⟨⟨_,aM.of (s1 _ _ O)⟩,?_⟩;refine b5 (xs:=cs.map V.int) (λi σ n=>aD H n/\i<=cs.length/\(∃G o,cL n l G o/\o.length=i/\∀x∈o,iQ p r x)/\∃Z Y U T,σ=[some (V.ref lc),some (V.ref ln),some (V.ref ls),some (V.ref l),Z,Y,U,T]) ⟨s1,Kh _,⟨[],[],⟨e1,rfl,λi t r e=>by simp at e⟩,rfl,λx I=>nomatch I⟩,_,_,_,_,rfl⟩ (λi σ n _ h=>aM.of (h.1 _ _ O)) ?_ ?_
  ·rintro i x σ n I ⟨sm,_,⟨G,o,R,m,z⟩,Z,Y,U,T,rfl⟩
   rw[JY]at I;obtain⟨c,hc,rfl⟩:=Kk.mp I;have hi:=(JU.mp hc).1;have a:=sm _ _ a3;have u:=sm _ _ a2;obtain⟨nm,L,en⟩:=iI S (c/4);obtain⟨on,J,eo⟩:=iI S (c/144);obtain⟨n2,M,e2⟩:=iI S (c/576);obtain⟨g,hg,eg⟩:=va r0 (c/144);have D:1<=1+c/16%9/\1+c/16%9<=9:=by omega
   have hrl2:=R.2.1;have mk:∀(k:Nat) (t:Int),k<4->0<=t->t<=7->iQ p r (k,⟨nm,1+c/16%9,on,n2,[g],t⟩):=λk t hk t0 t7=>by
    have gd:(⟨nm,1+c/16%9,on,n2,[g],t⟩:RV).good:=⟨B nm L,D.1,D.2,B on J,B n2 M,a0 g hg,t0,t7⟩;exact⟨⟨hk,gd,gd.small⟩,L,J,M,⟨g,hg,rfl⟩⟩
   walk_at "n";refine⟨_,aM.of a,Int.ofNat_lt.mpr C,_,aM.of a,_,en,h1 _ _ ?_⟩;walk_at "nc";refine h1 _ _ ?_;walk_at "nc";refine⟨_,aM.of a,Int.ofNat_lt.mpr C,_,aM.of a,_,eo,h1 _ _ ?_⟩;clear h1;generalize hcst:1+c/16%9=cs1 at D mk ⊢;have fin:∀x,iQ p r x->∀b,o_ x=b->∀j,n j=none->∃xs,aE n j (.tup b) l=some (.lst xs)/\xs.length<sizeLine/\aD H (aE (aE n j (.tup b)) l (.lst (xs++[V.ref j])))/\i+1<=cs.length/\∃G o,cL (aE (aE n j (.tup b)) l (.lst (xs++[V.ref j]))) l G o/\o.length=i+1/\∀x∈o,iQ p r x:=λx I b ev j d=>by
    subst ev;obtain⟨sA,eA,rA⟩:=qB R (λ_ _ e=>e) d rfl;refine⟨_,eA,by rw[JW];exact aX ⋯,bE (sm.trans sA) hl,hi,_,_,rA,by rw[Kf,m];rfl,λy hy=>?_⟩;rcases J8.mp hy with h | h
    ·exact z y h
    ·rw[JX.mp h];exact I
   have v:GV K "list" (V.ref l) n:=.inl ⟨rfl,_,aM.of R.1⟩;walk_at "wp";refine b9 (λh0=>?_) (λh0=>b9 (λh3=>?_) (λh3=>?_))
   ·exact⟨v,_,aM.of u,Int.ofNat_lt.mpr a1,_,aM.of u,_,eg,ay (by decide),λj d=>fin _ (mk 0 0 (by decide) (by decide) (by decide)) _ rfl j d⟩
   ·exact⟨v,ay (by decide),λj d=>fin _ (mk 3 (c/576%8) (by decide) ⋯ ⋯) _ rfl j d⟩
   ·refine⟨v,_,aM.of a,Int.ofNat_lt.mpr C,_,aM.of a,_,e2,ay (by decide),λj d=>?_⟩
    rcases(by omega:c%4=1\/c%4=2) with h | h<;>rw[h]
    ·exact fin _ (mk 1 0 (by decide) (by decide) (by decide)) _ rfl j d
    ·exact fin _ (mk 2 0 (by decide) (by decide) (by decide)) _ rfl j d
  ·rintro σ n ⟨sm,_,⟨G,o,R,m,z⟩,Z,Y,U,T,rfl⟩
   refine h1 _ _ ?_;walk_at "wp";exact q l G o n hl R (by rw[m,JW]) z sm
theorem uv{tb:Tb}{i:Nat}{kv:List cP×V}(h:(tb.map ft)[i]?=some kv):∃e,tb[i]?=some e/\kv=ft e:=by
 rw[JY]at h;obtain⟨e,a,rfl⟩:=Kk.mp h;exact⟨e,a,rfl⟩
theorem xq{H:Hp}{d b:Addr}{o:Obj}{tb:Tb}{k:Ky}{v:Int}(nd:(tb.map (·.1)).Nodup)(hd:H d=some (.frz o (.dT (tb.map ft))))(hb:H b=some (.tup (yD k)))(hm:(k,v)∈tb):my H d (.ref b) (some (.int v)):=
 .inr ⟨tb.map ft,iS k,b,.inr ⟨o,hd⟩,rfl,hb,by rw[pB,uU nd hm];rfl⟩
abbrev lv:Stmt:=fU 68
inductive nX(vs:List V)(H:Hp)(Q:VK)(_E:XK):Prop
 |mk (d:Addr) (tb:Tb) (_:vs=[.ref d]) (_:cy H d tb) (_:(tb.map (·.1)).Nodup) (_:∀H' o,H' d=some (.frz o (.dT (tb.map ft)))->bj d H H'->Q (.bl true) H')
theorem xc:aH ["_law_told","_law_key"] ["_law_told"] (aw lv):=by walk_at "c"
theorem wm{f:Addr}{fd:K1}(F:dw K "_law_table" "_law_table" lv f fd)(nb:NB mg)(zCb:dF P w K mg base bD 1 "_law_whole" ["_law_x"] oF):bw P w K mg base bD 2 f fd ["_law_told"] nX:=by
 have sc:=xc;walk_at "f"
 ·obtain⟨d,tb,rfl,l,nd,q⟩:=h
  have m:=hr.units;refine⟨_,(ae (bT (eX (fc (az b7 rfl nb.isinstance cn (ac (ao 0) (ac (i_ (v:=.ty "dict") rfl nb.dict CT rfl) ad))) λ_=>rfl))
   (ai (aO iG))
   bh)
   (ae (aY PassesOwn.never rfl (D2 (ao 0)) (q02 1 sc.nd)
   (ae (bT (PW.pt (lV (eX (fc (az b7 rfl nb.isinstance cn (ac (ao 1) (ac (i_ (v:=.ty "tuple") rfl nb.tuple Be rfl) ad))) λ_=>rfl)) (lV (aT DK (az zq rfl nb.len aS (ac (ao 1) ad)) af (bf _)) (jA (eX (fc (q00 zCb hr (ac (kh (KC (KH (by decide:1<=64) _) m) (ao 0) (ao 1) (λ_ _=>rfl)) ad)) λ_=>rfl))))))
   (ai (aO iG))
   bh)
   (ai (bT (PW.pt (lV (eX (fc (az b7 rfl nb.isinstance cn (ac (a_ bS (ao 1) af (λ_ _=>rfl)) (ac (i_ (v:=.ty "str") rfl nb.str Bb rfl) ad))) λ_=>rfl)) (jA (eX (fc (az b7 rfl nb.isinstance cn (ac (a_ bS (ao 1) af (λ_ _=>rfl)) (ac (i_ (v:=.ty "str") rfl nb.str Bb rfl) ad))) λ_=>rfl)))))
   (ai (aO iG))
   bh))))
   (ai (aO iG)))),?_⟩
  walk_at "n";refine⟨_,.dT l,_,iH K "dict",?_⟩;rw[q06 (by decide)];refine h1 _ _ ?_;walk_at "nc";refine⟨tb.map ft,.inl ⟨l,λo=>?_⟩⟩;have g:bj d H (aE H d (.frz o (.dT (tb.map ft)))):=(bj.of λ_ _ h=>h).put;have j:aE H d (.frz o (.dT (tb.map ft))) d=some (.frz o (.dT (tb.map ft))):=ag;generalize aE H d (.frz o (.dT (tb.map ft)))=H1 at g j ⊢;refine xT (λi σ c=>aD H1 c/\∃x,σ=[some (V.ref d),x]) ⟨λ_ _ h=>h,_,rfl⟩ (λi σ c _ h=>h.1 _ _ j) ?_ ?_
  ·rintro i b kv σ c k r ⟨sm,x,rfl⟩
   obtain⟨e,p,rfl⟩:=uv k;have a:c b=some (.tup (yD e.1)):=r;have n:=xq nd (sm _ _ j) a (JZ p);walk_at "n";refine⟨_,.tup a,_,iH K "tuple",?_⟩;rw[q06 (by decide)];refine⟨_,dZ.of a,?_⟩;rw[q06 (by intro h;exact h rfl)];refine⟨_,n,_,rfl,true,rfl,?_⟩;rw[q06 (by decide)];refine h1 _ _ ?_;clear h1;walk_at "wp";refine⟨_,dZ.of a,_,rfl,_,.str _,_,iH K "str",?_⟩;rw[q06 (by decide)];refine⟨_,dZ.of a,_,rfl,_,.str _,_,iH K "str",?_⟩;rw[q06 (by decide)];exact sm
  ·rintro σ c ⟨sm,x,rfl⟩
   refine h1 _ _ ?_;walk_at "wp";exact q c o (sm _ _ j) (g.then sm)
structure fH(p:aL)(a b:Nat):Prop where
 rc:rect p a b
 a1:1<=a
 a6:a<=6
 b1:1<=b
 b6:b<=6
 ns:bG p
structure tQ where
 a:Addr
 lp:Addr
 vt:V
 nm:List Nat
 p:aL
 c:Int
def tQ.at(H:Hp)(z:tQ):Prop:=H z.a=some (.tup [z.vt,.str (tx z.nm),.ref z.lp,.int z.c])/\H z.lp=some (.lst (aq z.p))
theorem tQ.at.up{H H':Hp}{z:tQ}(h:z.at H)(s:aD H H'):z.at H':=⟨s _ _ h.1,s _ _ h.2⟩
theorem jE{p:aL}{a b:Nat}(h:fH p a b):(∃hl:0<p.length,(p[0]).length=b)/\p.length=a:=⟨cX h.rc (show 0<a from h.a1),h.rc.1⟩
abbrev jJ:Stmt:=fU 70
inductive lU(K:W.Frag)(vs:List V)(H:Hp)(Q:VK)(_E:XK):Prop
 |mk (lt:Addr) (zs:List tQ) (c:Int) (_:vs=[.ref lt,.int c]) (_:H lt=some (.lst (zs.map λz=>V.ref z.a))) (_:zs≠[]) (_:(∀z∈zs,z.at H/\∃a b,fH z.p a b)) (_:∀z∈zs,Q (.ref z.a) H)
theorem t9:aH ["_law_trees","_law_cell_here","_law_best","_law_one"] ["_law_trees","_law_cell_here"] (aw jJ):=by walk_at "c"
theorem tV{f:Addr}{fd:K1}(F:dw K "_law_picked" "_law_picked" jJ f fd)(nb:NB mg):bw P w K mg base bD 1 f fd ["_law_trees","_law_cell_here"] (lU K):=by
 have sc:=t9;walk_at "f"
 ·obtain⟨lt,e,c,rfl,l,J,C,q⟩:=h
  have g:0<e.length:=List.length_pos_iff.mpr J;refine⟨_,(ae (bT (aT dQ (au (bd.m1 aR) (ao 1) af) af (bf _))
   (ai (aO (a_ aU (ao 0) (au (bd.m1 aR) (au (bd.m1 aP) (ao 1) af) (az aQ rfl nb.len aS (ac (ao 0) ad))) (λ_ _=>rfl))))
   bh)
   (ae (q01 2 sc.nd (a_ aU (ao 0) af (λ_ _=>rfl)))
   (ae (aY PassesOwn.never rfl (bN (ao 0)) (q02 3 sc.nd)
   (ai (bT (aT (bd.m0 DZ) (au (bd.m1 eZ) (az aQ rfl nb.len aS (ac (a_ bS (ao 3) af (λ_ _=>rfl)) ad)) (az aW rfl nb.len aS (ac (a_ aU (a_ bS (ao 3) af (λ_ _=>rfl)) af (λ_ _=>rfl)) ad))) (au (bd.m1 eZ) (az aQ rfl nb.len aS (ac (a_ bS (ao 2) af (λ_ _=>rfl)) ad)) (az aW rfl nb.len aS (ac (a_ aU (a_ bS (ao 2) af (λ_ _=>rfl)) af (λ_ _=>rfl)) ad))) (bf _))
   (ai (q01 2 sc.nd (ao 3)))
   bh)))
   (ai (aO (ao 2)))))),?_⟩
  walk_at "n";refine b9 (λT=>?_) (λT=>h1 _ _ ?_)
  ·refine⟨_,aM.of l,by rw[JW];omega,_,aM.of l,?_⟩
   rw[JW];obtain⟨j,S⟩:∃j:Nat,c/3%(e.length:Int)=(j:Int):=⟨_,(KN (KL _ ⋯)).symm⟩;have k:j<e.length:=by have:=KM (c/3) (show(0:Int)<(e.length:Int) by omega);omega
   rw[S];exact⟨_,bC (by rw[JY,JT k];rfl),q _ (J3 k)⟩
  ·walk_at "nc"
   refine⟨_,aM.of l,_,(show iz _ ((0:Nat):Int)=_ from bC (by rw[JY,JT g];rfl)),h1 _ _ ?_⟩;walk_at "nc";refine⟨⟨_,aM.of l⟩,?_⟩;refine b5 (xs:=e.map λz=>V.ref z.a) (λi σ r=>r=H/\∃z∈e,∃x,σ=[some (V.ref lt),some (V.int c),some (V.ref z.a),x]) ⟨rfl,_,J3 g,_,rfl⟩ (λi σ r _ h=>by rw[h.1];exact aM.of l) ?_ ?_
   ·rintro i x σ r D ⟨rfl,z,b,y,rfl⟩
    rw[JY]at D;obtain⟨o,u,rfl⟩:=Kk.mp D;have d:=JZ u;obtain⟨⟨I,G⟩,a1,b1,B⟩:=C z b;obtain⟨⟨n,m⟩,a2,b2,v⟩:=C o d;obtain⟨⟨M,w1⟩,n1⟩:=jE B;obtain⟨⟨L,w2⟩,n2⟩:=jE v;have:=B.a6;have:=B.b6;have:=v.a6;have:=v.b6;have R:iz (aq z.p) 0=some (V.str (tx z.p[0])):=(show iz _ ((0:Nat):Int)=_ from bC (bc M));have O:iz (aq o.p) 0=some (V.str (tx o.p[0])):=(show iz _ ((0:Nat):Int)=_ from bC (bc L));walk_at "wp";refine⟨_,dZ.of n,_,rfl,_,rfl,_,aM.of m,_,dZ.of n,_,rfl,_,rfl,_,aM.of m,_,O,_,rfl,by rw[ax];exact ay ⋯,.inl ⟨⋯,by rw[aj];omega⟩,_,dZ.of I,_,rfl,_,rfl,_,aM.of G,_,dZ.of I,_,rfl,_,rfl,_,aM.of G,_,R,_,rfl,by rw[ax];exact ay ⋯,.inl ⟨⋯,by rw[aj];omega⟩,?_⟩;refine b9 (λ_=>?_) (λ_=>?_)
    ·exact⟨o,d,rfl⟩
    ·exact⟨z,b,rfl⟩
   ·rintro σ r ⟨rfl,z,b,x,rfl⟩
    refine h1 _ _ ?_;walk_at "wp";exact q z b
theorem fH.turn{p:aL}{a b:Nat}(h:fH p a b)(t:Nat):∃a' b',fH (turned p t) a' b':=by
 have:=h.a1;have:=h.a6;have:=h.b1;have:=h.b6
 exact⟨_,_,cT h.rc h.a1 h.b1 t,by split<;>omega,by split<;>omega,by split<;>omega,by split<;>omega,qT h.rc h.a1 h.b1 h.ns t⟩
theorem Av{H:Hp}{l lp:Addr}{as:KZ}{p:aL}(h:H lp=some (.lst (aq p)))(l0:0<p.length)(hl:H l=some (.lst (as.map V.ref))):lp≠l:=λe=>by
 rw[<- e,h]at hl;have e2:aq p=as.map V.ref:=by injection hl with hl;injection hl
 have b:=q0R (λl=>l[0]?) e2;rw[bc l0,JY]at b;cases as with
 |nil=>cases b
 |cons a as=>cases b
theorem Ay{p q pq:aL}{k a b a' b':Nat}(hp:fH p a b)(hq:fH q a' b')(e:oq k p q=some pq):∃r c,rect pq r c/\1<=r/\1<=c/\r<=12/\c<=12/\bG pq:=by
 have:=hp.a1;have:=hp.a6;have:=hp.b1;have:=hp.b6;have:=hq.a6;have:=hq.b6
 unfold oq at e;rw[hp.rc.1,hq.rc.1,bg hp.rc hp.a1,bg hq.rc hq.a1]at e
 split at e
 ·rename_i h
  cases e;obtain⟨_,rfl⟩:=h;refine⟨_,_,vn hp.rc hq.rc,⋯,⋯,⋯,⋯,λrow hrow h47=>?_⟩;obtain⟨⟨x,y⟩,hxy,rfl⟩:=KF.mp (show row∈(p.zip q).map λx=>x.1++x.2 from hrow);obtain⟨hx,hy⟩:=List.of_mem_zip hxy;exact(J8.mp h47).elim (hp.ns x hx) (hq.ns y hy)
 ·split at e
  ·rename_i h
   cases e;obtain⟨_,rfl⟩:=h;exact⟨_,_,vV hp.rc hq.rc,⋯,⋯,⋯,⋯,λrow hrow=>(J8.mp (show row∈p++q from hrow)).elim (hp.ns row) (hq.ns row)⟩
  ·cases e
theorem qF{zs:List tQ}(h:0<zs.length)(z:Int):∃y,y∈zs/\iz (zs.map λz=>V.ref z.a) (z%((zs.map λz=>V.ref z.a).length:Int))=some (V.ref y.a):=by
 rw[JW];obtain⟨j,b⟩:∃j:Nat,z%(zs.length:Int)=(j:Int):=⟨_,(KN (KL _ ⋯)).symm⟩;have a:j<zs.length:=by have:=KM z (show(0:Int)<(zs.length:Int) by omega);omega
 exact⟨zs[j],J3 _,by rw[b];exact bC (by rw[JY,JT a];rfl)⟩
theorem tI{H:Hp}{l:Addr}{as:KZ}{o:HO}{z:tQ}{a b:Nat}(h:z.at H)(hp:fH z.p a b)(hl:H l=some (.lst (as.map V.ref))):z.at (aE H l o):=by
 refine⟨?_,?_⟩
 ·rw[av (λe=>by rw[<- e,h.1]at hl;cases hl)];exact h.1
 ·rw[av (Av h.2 (jE hp).1.1 hl)];exact h.2
theorem sZ{H:Hp}{a b:Addr}{xs:List V}{Q:VK}{neg:Bool}(ha:H a=some (.lst xs))(hb:H b=some (.lst []))(q:Q (.bl (xs.isEmpty != neg)) H):DA K neg (.ref a) (.ref b) H Q:=by
 cases xs with
 |nil=>
  refine .inl ⟨[],by unfold Dt.deps;omega,.inl ⟨?_,?_⟩,by simpa using q⟩
  ·unfold kC;exact⟨a,_,rfl,aM.of ha,by unfold eY;rfl⟩
  ·unfold kC;exact⟨b,_,rfl,aM.of hb,by unfold eY;rfl⟩
 |cons x xs=>exact .inr ⟨a,b,_,_,rfl,rfl,aM.of ha,aM.of hb,by simp,by simpa using q⟩
structure zN(H:Hp)(p:aL)(r:KU)(lr lt:Addr)(ts:KZ)(rs:Yaa)(zs:List tQ):Prop where
 ne:lr≠lt
 ra:cL H lr ts rs
 ro:∀x∈rs,iQ p r x
 ta:H lt=some (.lst (zs.map λz=>V.ref z.a))
 zt:∀z∈zs,z.at H/\z.nm∈p/\∃a b,fH z.p a b
theorem zN.up{H H':Hp}{p:aL}{r:KU}{lr lt:Addr}{ts:KZ}{rs:Yaa}{zs:List tQ}(g:zN H p r lr lt ts rs zs)(s:aD H H'):zN H' p r lr lt ts rs zs:=
 ⟨g.ne,g.ra.up s,g.ro,s _ _ g.ta,λz hz=>⟨(g.zt z hz).1.up s,(g.zt z hz).2⟩⟩
theorem zN.row{H:Hp}{p:aL}{r:KU}{lr lt a:Addr}{ts:KZ}{rs:Yaa}{zs:List tQ}{x:Nat×RV}{vals:List V}(g:zN H p r lr lt ts rs zs)(ha:H a=none)(hx:iQ p r x)(ev:o_ x=vals) :
  aE H a (.tup vals) lr=some (.lst (ts.map V.ref))/\zN (aE (aE H a (.tup vals)) lr (.lst (ts.map V.ref++[V.ref a]))) p r lr lt (ts++[a]) (rs++[x]) zs:=by
 subst ev;obtain⟨j,i,k⟩:=qB g.ra (λ_ _ e=>e) ha rfl;have d:=g.up j;refine⟨i,g.ne,k,λy m=>?_,?_,λz l=>?_⟩
 ·rcases J8.mp m with h | h
  ·exact g.ro y h
  ·rw[JX.mp h];exact hx
 ·rw[av (Ne.symm g.ne)];exact d.ta
 ·obtain⟨h1,h2,a,b,c⟩:=d.zt z l
  exact⟨tI h1 c i,h2,a,b,c⟩
theorem zN.tree{H:Hp}{p:aL}{r:KU}{lr lt:Addr}{ts:KZ}{rs:Yaa}{zs:List tQ}{z:tQ}{a b:Nat}(g:zN H p r lr lt ts rs zs)(hz:z.at H)(hn:z.nm∈p)(hp:fH z.p a b) :
  zN (aE H lt (.lst ((zs.map λz=>V.ref z.a)++[V.ref z.a]))) p r lr lt ts rs (zs++[z]):=by
 have ta:H lt=some (.lst ((zs.map tQ.a).map V.ref)):=by rw[g.ta,J9];rfl
 refine⟨g.ne,?_,g.ro,by rw[ag,J7];rfl,λy d=>?_⟩
 ·refine⟨by rw[av g.ne];exact g.ra.1,g.ra.2.1,λi t x k j=>?_⟩
  have h:=g.ra.2.2 i t x k j;rw[av (λe=>by rw[e,ta]at h;cases h)];exact h
 ·rcases J8.mp d with h | h
  ·obtain⟨h1,h2,a,b,c⟩:=g.zt y h
   exact⟨tI h1 c ta,h2,a,b,c⟩
  ·rw[JX.mp h];exact⟨tI hz hp ta,hn,a,b,hp⟩
inductive GG(H:Hp)(lc ln ls lr lt:Addr)(mo:Int)(p:aL)(r:KU)(i:Nat)(H':Hp):St->Prop
 |mk (ts:KZ) (rs:Yaa) (zs:List tQ) (x6 x7 x8 x9 x10 x11 x12 x13:Option V) (_:aD H H') (_:zN H' p r lr lt ts rs zs) (_:rs.length=i) (_:zs.length=i):GG H lc ln ls lr lt mo p r i H' [some (V.ref lc),some (V.ref ln),some (V.ref ls),some (V.int mo),some (V.ref lr),some (V.ref lt),x6,x7,x8,x9,x10,x11,x12,x13]
theorem CI{c1 c2:TT}{t1 t2 u2:TS}{D:gu}{N:St->Hp->Prop}{G:Prop}(h1:∀σ H,pR c1 t1 (pR c2 t2 u2) D σ H->N σ H)(A B C:(St->Hp->Prop)->Prop)(hA:A (t1 D))(hB:B (t2 D))(hC:C (u2 D))(k:∀t1 t2 u2:TS,A (t1 D)->B (t2 D)->C (u2 D)->(∀σ H,pR c1 t1 (pR c2 t2 u2) D σ H->N σ H)->G):G:=k t1 t2 u2 hA hB hC h1
abbrev kR:Stmt:=fU 62
inductive nQ(K:W.Frag)(vs:List V)(H:Hp)(Q:VK)(_E:XK):Prop
 |mk (lc ln ls:Addr) (mo:Int) (cs:List Int) (p:aL) (r:KU) (_:vs=[.ref lc,.ref ln,.ref ls,.int mo]) (_:H lc=some (.lst (cs.map V.int))) (_:H ln=some (.lst (aq p))) (_:H ls=some (.lst (aq (bP r)))) (_:p≠[]) (_:r≠[]) (_:cs.length<=100) (_:p.length<=8) (_:r.length<=8) (_:(∀n∈p,dh n=true)) (_:(∀c∈r,jq [c]=true)) (_:∀tp lr lt ts rs zs H',H' tp=some (.tup [.ref lr,.ref lt])->zN H' p r lr lt ts rs zs->rs.length=cs.length->zs.length=cs.length->aD H H'->Q (.ref tp) H')
theorem wf:aH ["_law_cells","_law_names_here","_law_signs_here","_law_most","_law_rules","_law_trees","_law_cell_here","_law_kind","_law_name","_law_cost","_law_one","_law_picture","_law_other","_law_sign"] ["_law_cells","_law_names_here","_law_signs_here","_law_most"] (aw kR):=by walk_at "c"
theorem wD{f:Addr}{fd:K1}(F:dw K "_law_grown" "_law_grown" kR f fd)(nb:NB mg)(zwc:dF P w K mg base bD 1 "_law_put" ["_law_kind","_law_one","_law_other"] (u9 K))(zha:dF P w K mg base bD 1 "_law_turned" ["_law_picture","_law_t"] (eO K)):bw P w K mg base bD 2 f fd ["_law_cells","_law_names_here","_law_signs_here","_law_most"] (nQ K):=by
 have sc:=wf;walk_at "f"
 ·obtain⟨lc,ln,ls,mo,cs,p,r,rfl,d2,e3,e0,p0,r0,c100,p8,r8,c1,c6,q⟩:=h
  have hu:=hr.units;refine⟨_,(ae (q01 4 sc.nd (bF ad))
   (ae (q01 5 sc.nd (bF ad))
   (ae (aY PassesOwn.never rfl (bN (ao 0)) (q02 6 sc.nd)
   (ae (q01 7 sc.nd (au (bd.m1 aR) (ao 6) af))
   (ae (q01 8 sc.nd (a_ aU (ao 1) (au (bd.m1 aR) (au (bd.m1 aP) (ao 6) af) (az aQ rfl nb.len aS (ac (ao 1) ad))) (λ_ _=>rfl)))
   (ae (q01 9 sc.nd (au (bd.m0 br) af (au (bd.m1 aR) (au (bd.m1 aP) (ao 6) af) af)))
   (ae (q01 10 sc.nd ly)
   (ae (q01 11 sc.nd ly)
   (ae (bT (PW.pt (fM (aT (bd.m0 ol) (ao 7) af (bf _)) (eC (aT (sF hu) (ao 5) (bF ad) (bf _)))))
   (ae (q01 10 sc.nd (a_ aU (ao 5) (au (bd.m1 aR) (au (bd.m1 aP) (ao 6) af) (az aQ rfl nb.len aS (ac (ao 5) ad))) (λ_ _=>rfl)))
   (ae (q01 12 sc.nd (a_ aU (ao 5) (au (bd.m1 aR) (au (bd.m1 aP) (ao 6) af) (az aQ rfl nb.len aS (ac (ao 5) ad))) (λ_ _=>rfl)))
   (ai (q01 11 sc.nd (q00 zwc hr (ac (ao 7) (ac (a_ bS (ao 10) af (λ_ _=>rfl)) (ac (a_ bS (ao 12) af (λ_ _=>rfl)) ad))))))))
   bh)
   (ai (bT (PW.pt (fM (aT dQ (ao 7) af (bf _)) (eC (aT (sF hu) (ao 5) (bF ad) (bf _)))))
   (ae (bi (q03 (ao 4) (ac (bZ (b_ (ac (ao 8) (ac (ao 9) (ac (a_ bS (ao 10) af (λ_ _=>rfl)) (ac (au (bd.m1 aR) (au (bd.m1 aP) (ao 6) af) af) ad)))))) ad)))
   (ai (bi (q03 (ao 5) (ac (bZ (ac (bZ (ac (au (bd.m0 ii) (az aQ rfl nb.len aS (ac (ao 4) ad)) af) (ac (a_ bS (ao 10) af (λ_ _=>rfl)) ad))) (ac (ao 8) (ac (q00 zha hr (ac (a_ bS (ao 10) af (λ_ _=>rfl)) (ac (au (bd.m1 aR) (au (bd.m1 aP) (ao 6) af) af) ad))) (ac (au (bd.m0 br) (ao 9) (a_ bS (ao 10) af (λ_ _=>rfl))) ad))))) ad)))))
   (ai (bT (PW.pt (fM (aT yb (ao 11) ly (bf _)) (fM (aT (bd.m0 qp) (au (bd.m1 eZ) (az aQ rfl nb.len aS (ac (ao 11) ad)) (az aW rfl nb.len aS (ac (a_ aU (ao 11) af (λ_ _=>rfl)) ad))) (ao 3) (bf _)) (eC (aT (bd.m0 nr) (az (yU rfl) rfl nb.max Ed (ac (az aQ rfl nb.len aS (ac (ao 11) ad)) (ac (az aW rfl nb.len aS (ac (a_ aU (ao 11) af (λ_ _=>rfl)) ad)) ad))) af (bf _))))))
   (ae (bi (q03 (ao 4) (ac (bZ (ac (ao 7) (ac (ao 8) (ac (ao 9) (ac (a_ bS (ao 10) af (λ_ _=>rfl)) (ac (a_ bS (ao 12) af (λ_ _=>rfl)) ad)))))) ad)))
   (ai (bi (q03 (ao 5) (ac (bZ (ac (bZ (ac (au (bd.m0 ii) (az aQ rfl nb.len aS (ac (ao 4) ad)) af) (ac (a_ bS (ao 10) af (λ_ _=>rfl)) (ac (a_ bS (ao 12) af (λ_ _=>rfl)) ad)))) (ac (ao 8) (ac (ao 11) (ac (au (bd.m0 br) (au (bd.m0 br) (ao 9) (a_ bS (ao 10) af (λ_ _=>rfl))) (a_ bS (ao 12) af (λ_ _=>rfl))) ad))))) ad)))))
   (ae (q01 13 sc.nd (a_ aU (ao 2) (au (bd.m1 aR) (au (bd.m1 aP) (ao 6) af) (az aQ rfl nb.len aS (ac (ao 2) ad))) (λ_ _=>rfl)))
   (ae (bi (q03 (ao 4) (ac (bZ (b_ (ac (ao 8) (ac (ao 9) (ac (ao 13) (fK ad)))))) ad)))
   (ai (bi (q03 (ao 5) (ac (bZ (ac (bZ (ac (au (bd.m0 ii) (az aQ rfl nb.len aS (ac (ao 4) ad)) af) ad)) (ac (ao 8) (ac (bF (ac (ao 13) ad)) (ac (ao 9) ad))))) ad)))))))))))))))))
   (ai (aO (bZ (ac (ao 4) (ac (ao 5) ad)))))))),?_⟩
  walk_at "n";refine⟨Kh _,λD a8=>h1 _ _ ?_⟩;clear h1;generalize z0:aE H D _=H1;obtain⟨s1,e1⟩:=dY a8 z0;walk_at "n";refine⟨Kh _,λlt a7=>h1 _ _ ?_⟩;clear h1;generalize d:aE H1 lt _=H2;obtain⟨s2,e2⟩:=dY a7 d;have c9:H lt=none:=s1.free a7;have d6:D≠lt:=λe=>by rw[<- e,e1]at a7;cases a7
  have d5:0<(aq p).length:=by rw[aj];exact List.length_pos_iff.mpr p0
  have d4:0<(aq (bP r)).length:=by rw[aj];unfold bP;rw[JW];exact List.length_pos_iff.mpr r0
  walk_at "n";refine⟨⟨_,aM.of (s2 _ _ (s1 _ _ d2))⟩,?_⟩;refine b5 (xs:=cs.map V.int) (λi σ H'=>GG H lc ln ls D lt mo p r i H' σ) (.mk [] [] [] _ _ _ _ _ _ _ _ (s1.trans s2) ⟨d6,⟨s2 _ _ e1,rfl,λi t r e=>by simp at e⟩,(λx hx=>nomatch hx),e2,(λx hx=>nomatch hx)⟩ rfl rfl) (λi σ H' _ h=>by cases h with | mk _ _ _ _ _ _ _ _ _ _ _ s=>exact aM.of (s _ _ d2)) ?_ ?_
  ·rintro i x σ H' hx ⟨ts,rs,O,x6,x7,x8,x9,Y,U,B,j,sm,g,J,a4⟩
   rw[JY]at hx;obtain⟨c,hc,rfl⟩:=Kk.mp hx;have hi:=(JU.mp hc).1;have b3:=sm _ _ e3;have b0:=sm _ _ e0;obtain⟨nm,S,en⟩:=iI p0 (c/4);obtain⟨sg,c0,eg⟩:=va r0 (c/144);have c2:1<=1+c/16%9/\1+c/16%9<=9:=by omega
   walk_at "n";refine h1 _ _ ?_;walk_at "nc";refine⟨_,aM.of b3,Int.ofNat_lt.mpr d5,_,aM.of b3,_,en,h1 _ _ ?_⟩;walk_at "nc";refine h1 _ _ ?_;clear h1;generalize hcst:1+c/16%9=cs1 at c2 ⊢;walk_at "n";refine h1 _ _ ?_;walk_at "nc";refine h1 _ _ ?_;clear h1;refine am λN1 h1=>?_;have mk:∀(k:Nat) (o1 o2:KU) (t:Int),k<4->o1∈p->o2∈p->0<=t->t<=7->iQ p r (k,⟨nm,cs1,o1,o2,[sg],t⟩):=λk o1 o2 t hk h1 h2 t0 t7=>by
    have gd:(⟨nm,cs1,o1,o2,[sg],t⟩:RV).good:=⟨c1 nm S,c2.1,c2.2,c1 o1 h1,c1 o2 h2,c6 sg c0,t0,t7⟩;exact⟨⟨hk,gd,gd.small⟩,S,h1,h2,⟨sg,c0,rfl⟩⟩
   have hrl2:=g.ra.2.1;have fin:∀{H5 H8:Hp} {ts':KZ} {rs':Yaa} {x6 x7 x8 x9 Y U B j:Option V} (z:tQ) {a b:Nat},zN H5 p r D lt ts' rs' O->rs'.length=i+1->aD H H5->aD H5 H8->z.at H8->z.nm∈p->fH z.p a b->∃x2,H8 lt=some (.lst x2)/\x2.length<sizeLine/\GG H lc ln ls D lt mo p r (i+1) (aE H8 lt (.lst (x2++[V.ref z.a]))) [some (V.ref lc),some (V.ref ln),some (V.ref ls),some (V.int mo),some (V.ref D),some (V.ref lt),x6,x7,x8,x9,Y,U,B,j]:=λz a b g5 e5 s5 s8 hz hn hp=>
    ⟨_,(g5.up s8).ta,by rw[JW];exact aX ⋯,.mk _ _ _ _ _ _ _ _ _ _ _ (bE (s5.trans s8) c9) ((g5.up s8).tree hz hn hp) e5 (by rw[Kf,a4];rfl)⟩
   refine CI h1 (λt=>∀{H4:Hp} {d:tQ} {v B j:Option V},aD H' H4->d∈O->t [some (V.ref lc),some (V.ref ln),some (V.ref ls),some (V.int mo),some (V.ref D),some (V.ref lt),some (V.int c),some (V.int (c%4)),some (V.str (tx nm)),some (V.int cs1),some (V.ref d.a),v,B,j] H4)
    (λt=>∀{y:Hp} {d C:tQ} {lq:Addr} {R:aL} {a b k:Nat} {j:Option V},aD H' y->(k=1\/k=2)->c%4=(k:Int)->d∈O->C∈O->y lq=some (.lst (aq R))->fH R a b->t [some (V.ref lc),some (V.ref ln),some (V.ref ls),some (V.int mo),some (V.ref D),some (V.ref lt),some (V.int c),some (V.int (c%4)),some (V.str (tx nm)),some (V.int cs1),some (V.ref d.a),some (V.ref lq),some (V.ref C.a),j] y)
    (λt=>∀{y:Hp} {Y U B j:Option V},aD H' y->t [some (V.ref lc),some (V.ref ln),some (V.ref ls),some (V.int mo),some (V.ref D),some (V.ref lt),some (V.int c),some (V.int (c%4)),some (V.str (tx nm)),some (V.int cs1),Y,U,B,j] y) ?_ ?_ ?_ ?_
   ·intro H4 d v B j s4 m
    have g4:=g.up s4;obtain⟨⟨n,a9⟩,a5,a1,b1,P1⟩:=g4.zt d m;walk_at "o";refine⟨.inl ⟨rfl,_,aM.of g4.ra.1⟩,_,dZ.of n,_,rfl,ay (by decide),λZ h1=>?_⟩;obtain⟨eA,L⟩:=g4.row (vals:=[V.int 3,V.str (tx nm),V.int cs1,V.str (tx d.nm),V.int (c/1296%8)]) h1 (mk 3 d.nm d.nm (c/1296%8) (by decide) a5 a5 ⋯ ⋯) rfl;refine⟨_,eA,by rw[JW];exact aX ⋯,h2 _ _ ?_⟩;clear h2;have sA:aD H (aE (aE H4 Z (.tup [V.int 3,V.str (tx nm),V.int cs1,V.str (tx d.nm),V.int (c/1296%8)])) D (.lst (ts.map V.ref++[V.ref Z]))):=bE ((sm.trans s4).trans (ar h1)) a8;generalize aE (aE H4 Z _) D _=H5 at L sA ⊢;obtain⟨⟨n,a9⟩,_⟩:=L.zt d m;walk_at "wp";refine⟨.inl ⟨rfl,_,aM.of L.ta⟩,_,aM.of L.ra.1,_,dZ.of n,_,rfl,ay (by decide),λp2 h2=>?_⟩;generalize C:aE H5 p2 _=H6;obtain⟨s6,_⟩:=dY h2 C;obtain⟨t8,e7⟩:∃t8:Nat,c/1296%8=(t8:Int):=⟨(c/1296%8).toNat,⋯⟩;refine⟨_,dZ.of (s6 _ _ n),_,rfl,d.lp,d.p,a1,b1,t8,by rw[e7],s6 _ _ a9,P1.rc,P1.a1,P1.b1,by have:=P1.a6;omega,by have:=P1.b6;omega,⋯,λlq H7 hlq h7 s7=>?_⟩;obtain⟨a2,b2,P2⟩:=P1.turn t8;exact⟨_,dZ.of (s7 _ _ (s6 _ _ n)),_,rfl,_,rfl,ay (by decide),λp5 h5=>fin ⟨p5,lq,V.ref p2,nm,turned d.p t8,cs1+d.c⟩ L (by rw[Kf,J];rfl) sA ((s6.trans s7).trans (ar h5)) ⟨ag,ar h5 _ _ h7⟩ S P2⟩
   ·intro y d C lq R a b k j u hk ek m I hq PQ
    have T:=g.up u;obtain⟨l0,w0⟩:=cX PQ.rc (show 0<a from PQ.a1);obtain⟨⟨n,_⟩,a5,_⟩:=T.zt d m;obtain⟨⟨a3,_⟩,d7,_⟩:=T.zt C I;walk_at "o";refine⟨.inl ⟨rfl,_,aM.of T.ra.1⟩,_,dZ.of n,_,rfl,_,dZ.of a3,_,rfl,ay (by decide),λZ h1=>?_⟩;obtain⟨eA,L⟩:=T.row (vals:=[V.int (c%4),V.str (tx nm),V.int cs1,V.str (tx d.nm),V.str (tx C.nm)]) h1 (mk k d.nm C.nm 0 ⋯ a5 d7 (by decide) (by decide)) (by rw[ek];rcases hk with rfl | rfl<;>rfl);refine⟨_,eA,by rw[JW];exact aX ⋯,h2 _ _ ?_⟩;clear h2;have sA:aD H (aE (aE y Z (.tup [V.int (c%4),V.str (tx nm),V.int cs1,V.str (tx d.nm),V.str (tx C.nm)])) D (.lst (ts.map V.ref++[V.ref Z]))):=bE ((sm.trans u).trans (ar h1)) a8;have c7:aE (aE y Z (.tup [V.int (c%4),V.str (tx nm),V.int cs1,V.str (tx d.nm),V.str (tx C.nm)])) D (.lst (ts.map V.ref++[V.ref Z])) lq=some (.lst (aq R)):=by
     rw[av (Av (ar h1 _ _ hq) l0 eA)];exact ar h1 _ _ hq
    generalize aE (aE y Z _) D _=H5 at L sA c7 ⊢;obtain⟨⟨n,_⟩,_⟩:=L.zt d m;obtain⟨⟨a3,_⟩,_⟩:=L.zt C I;walk_at "wp";refine⟨.inl ⟨rfl,_,aM.of L.ta⟩,_,aM.of L.ra.1,_,dZ.of n,_,rfl,_,dZ.of a3,_,rfl,ay (by decide),λp2 h2=>?_⟩;generalize y2:aE H5 p2 _=H6;obtain⟨s6,_⟩:=dY h2 y2;exact⟨_,dZ.of (s6 _ _ n),_,rfl,_,rfl,_,dZ.of (s6 _ _ a3),_,rfl,_,rfl,ay (by decide),λp5 h5=>fin ⟨p5,lq,V.ref p2,nm,R,cs1+d.c+C.c⟩ L (by rw[Kf,J];rfl) sA (s6.trans (ar h5)) ⟨ag,ar h5 _ _ (s6 _ _ c7)⟩ S PQ⟩
   ·intro y Y U B j u
    have T:=g.up u;walk_at "o";refine⟨_,aM.of (u _ _ b0),Int.ofNat_lt.mpr d4,_,aM.of (u _ _ b0),_,eg,h2 _ _ ?_⟩;walk_at "oc";refine⟨.inl ⟨rfl,_,aM.of T.ra.1⟩,ay (by decide),λZ h1=>?_⟩;obtain⟨eA,L⟩:=T.row (vals:=[V.int 0,V.str (tx nm),V.int cs1,V.str (tx [sg]),V.str (Str.ofString "")]) h1 (mk 0 nm nm 0 (by decide) S S (by decide) (by decide)) rfl;refine⟨_,eA,by rw[JW];exact aX ⋯,h2 _ _ ?_⟩;clear h2;have sA:aD H (aE (aE y Z (.tup [V.int 0,V.str (tx nm),V.int cs1,V.str (tx [sg]),V.str (Str.ofString "")])) D (.lst (ts.map V.ref++[V.ref Z]))):=bE ((sm.trans u).trans (ar h1)) a8;generalize aE (aE y Z _) D _=H5 at L sA ⊢;walk_at "wp";refine⟨.inl ⟨rfl,_,aM.of L.ta⟩,_,aM.of L.ra.1,ay (by decide),λp2 h2=>⟨ay (by decide),λp3 h3=>⟨ay (by decide),λp4 h4=>?_⟩⟩⟩;have s8:=((ar h2).trans (ar (o:=.lst [V.str (tx [sg])]) h3)).trans (ar (o:=.tup [V.ref p2,V.str (tx nm),V.ref p3,V.int cs1]) h4);have d3:sg≠47:=λe=>q0Q (c6 sg c0) (by rw[e];decide +kernel);have pc:fH [[sg]] 1 1:=⟨⟨rfl,λx hx=>by rw[JX.mp hx];rfl⟩,by decide,by decide,by decide,by decide,λx hx h=>by rw[JX.mp hx]at h;exact d3 (JX.mp h).symm⟩;exact fin ⟨p4,p3,V.ref p2,nm,[[sg]],cs1⟩ L (by rw[Kf,J];rfl) sA s8 ⟨ag,ar h4 _ _ ag⟩ S pc
   ·intro t1 t2 u2 bA bB M h1
    walk_at "wp";have b4:∀{y:Hp},aD H' y->(c%4=0\/O=[])->N1 [some (V.ref lc),some (V.ref ln),some (V.ref ls),some (V.int mo),some (V.ref D),some (V.ref lt),some (V.int c),some (V.int (c%4)),some (V.str (tx nm)),some (V.int cs1),some V.non,some V.non,B,j] y:=by
     intro y u hz;refine h1 _ _ ?_;clear h1;walk_at "wp";refine b9 (λh3=>⟨Kh _,λle G=>sZ ((ar G) _ _ (g.up u).ta) ag ⟨_,rfl,?_⟩⟩) (λh3=>?_)
     ·rw[q06 (by rw[hz.resolve_left ⋯];simp)]
      exact M (u.trans (ar G))
     ·exact M u
    have c3:∀{y:Hp} {d C:tQ} {v:V} {k:Nat},aD H' y->c%4=(k:Int)->k≠0->d∈O->C∈O->(v=.non\/∃lq R a b,v=.ref lq/\y lq=some (.lst (aq R))/\rect R a b/\1<=a/\1<=b/\a<=12/\b<=12/\bG R)->N1 [some (V.ref lc),some (V.ref ln),some (V.ref ls),some (V.int mo),some (V.ref D),some (V.ref lt),some (V.int c),some (V.int (c%4)),some (V.str (tx nm)),some (V.int cs1),some (V.ref d.a),some v,some (V.ref C.a),j] y:=by
     intro y d C v k u ek hk0 m I hv;refine h1 _ _ ?_;clear h1 b4;have a0:O≠[]:=λe=>by rw[e]at m;exact nomatch m
     walk_at "wp";refine b9 (λh3=>⟨Kh _,λle G=>sZ ((ar G) _ _ (g.up u).ta) ag ⟨_,rfl,?_⟩⟩) (λh3=>?_)
     ·rw[q07 (by cases O with | nil=>exact q0Q rfl a0 | cons _ _=>rfl)]
      exact bA (u.trans (ar G)) m
     ·rcases hv with rfl | ⟨lq,R,a,b,rfl,hq,rc,a1,b1,G7,b12,ns⟩
      ·rw[q06 (by simp)]
       exact M u
      rw[q07 (by nofun)];obtain⟨l0,w0⟩:=cX rc (show 0<a from a1);have i0:iz (aq R) 0=some (V.str (tx R[0])):=(show iz _ ((0:Nat):Int)=_ from bC (bc l0));have zl:(tx R[0]).length<=sizeLine:=by rw[ax];exact ay ⋯
      refine⟨_,rfl,_,aM.of hq,_,rfl,_,aM.of hq,_,i0,_,rfl,zl,.inl ⟨⋯,by rw[aj,rc.1];omega⟩,?_⟩;rw[aj,rc.1,ax,w0];refine b9 (λh9=>⟨_,rfl,_,aM.of hq,_,rfl,_,aM.of hq,_,i0,_,rfl,zl,?_⟩) (λ_=>M u);rw[aj,rc.1,ax,w0];refine b9 (λh7=>?_) (λ_=>M u);have ab:a<7/\b<7:=by split at h7<;>omega
      exact bB u ⋯ ek m I hq ⟨rc,a1,⋯,b1,⋯,ns⟩
    refine b9 (λk0=>⟨Kh _,λle G=>sZ ((ar G) _ _ g.ta) ag ⟨_,rfl,?_⟩⟩) (λk0=>b4 (aD.refl _) (.inl ⋯))
    by_cases a0:O=[]
    ·rw[q06 (by rw[a0];simp)]
     exact b4 (ar G) (.inr a0)
    rw[q07 (by cases O with | nil=>exact q0Q rfl a0 | cons _ _=>rfl)];have u:=ar (o:=.lst []) G;generalize aE H' le _=y at u ⊢;have T:=g.up u;have c4:0<O.length:=List.length_pos_iff.mpr a0;obtain⟨d,m,e6⟩:=qF c4 (c/144);obtain⟨C,I,e4⟩:=qF c4 (c/1296);obtain⟨⟨n,a9⟩,_,a1,b1,P1⟩:=T.zt d m;obtain⟨⟨a3,e9⟩,_,a2,b2,P2⟩:=T.zt C I;obtain⟨k,hk,ek⟩:∃k:Nat,k<4/\c%4=(k:Int):=⟨(c%4).toNat,⋯,⋯⟩;have d1:(0:Int)<((O.map λz=>V.ref z.a).length:Int):=by rw[JW];omega
    refine⟨_,aM.of T.ta,d1,_,aM.of T.ta,_,e6,_,aM.of T.ta,d1,_,aM.of T.ta,_,e4,_,rfl,_,dZ.of n,_,rfl,_,rfl,_,dZ.of a3,_,rfl,d.lp,C.lp,d.p,C.p,k,a1,b1,a2,b2,by rw[ek],a9,e9,P1.rc,P2.rc,P1.a1,P1.a6,P1.b1,P1.b6,P2.a1,P2.a6,P2.b1,P2.b6,hk,λ_ H4 s4=>c3 (u.trans s4) ek ⋯ m I (.inl rfl),λR e8 l H4 _ h4 s4=>c3 (u.trans s4) ek ⋯ m I (.inr ?_)⟩;obtain⟨a,b,rc,u1,u2,u3,u4,u5⟩:=Ay P1 P2 e8;exact⟨l,R,a,b,rfl,h4,rc,u1,u2,u3,u4,u5⟩
  ·rintro σ H' ⟨ts,rs,O,x6,x7,x8,x9,Y,U,B,j,sm,g,J,a4⟩
   refine h1 _ _ ?_;walk_at "wp";exact⟨ay (by decide),λtp c5=>q tp D lt ts rs O _ ag (g.up (ar c5)) (by rw[J,JW]) (by rw[a4,JW]) (sm.trans (ar c5))⟩
abbrev jW:Stmt:=fU 69
inductive lZ(K:W.Frag)(vs:List V)(H:Hp)(Q:VK)(_E:XK):Prop
 |mk (ls lp:Addr) (ns:List Int) (k:Nat) (p:aL) (a b:Nat) (_:vs=[.ref ls,.int (k:Int),.ref lp]) (_:aM K H ls (ns.map V.int)) (_:k<=900) (_:H lp=some (.lst (aq p))) (_:fH p a b) (_:∀l q' H',H l=none->H' l=some (.lst (aq q'))->ba p a b q'->aD H H'->Q (.ref l) H')
theorem vg:aH ["_law_script","_law_at","_law_picture","_law_top","_law_bottom","_law_left","_law_right","_law_part"] ["_law_script","_law_at","_law_picture"] (aw jW):=by walk_at "c"
theorem uM{f:Addr}{fd:K1}(F:dw K "_law_window" "_law_window" jW f fd)(nb:NB mg)(zga:dF P w K mg base bD 1 "_law_cell" ["_law_script","_law_k"] (fD K))(zha:dF P w K mg base bD 1 "_law_turned" ["_law_picture","_law_t"] (eO K)):bw P w K mg base bD 2 f fd ["_law_script","_law_at","_law_picture"] (lZ K):=by
 have sc:=vg;walk_at "f"
 ·obtain⟨o,lp,ns,k,p,a,b,rfl,B,hk,r,c,q⟩:=h
  refine⟨_,(ae (q01 3 sc.nd (au (bd.m1 aR) (q00 zga hr (ac (ao 0) (ac (ao 1) ad))) (az aQ rfl nb.len aS (ac (ao 2) ad))))
   (ae (q01 4 sc.nd (au (bd.m0 br) (au (bd.m0 br) (ao 3) af) (au (bd.m1 aR) (au (bd.m1 aP) (q00 zga hr (ac (ao 0) (ac (ao 1) ad))) af) (au (bd.m0 ii) (az aQ rfl nb.len aS (ac (ao 2) ad)) (ao 3)))))
   (ae (aC (i:=5) sc.nd rfl (Or.inr rfl) (au (bd.m1 aR) (q00 zga hr (ac (ao 0) (ac (au (bd.m0 br) (ao 1) af) ad))) (az aW rfl nb.len aS (ac (a_ aU (ao 2) af (λ_ _=>rfl)) ad))))
   (ae (aC (i:=6) sc.nd rfl (Or.inr rfl) (au (bd.m0 br) (au (bd.m0 br) (ao 5) af) (au (bd.m1 aR) (au (bd.m1 aP) (q00 zga hr (ac (ao 0) (ac (au (bd.m0 br) (ao 1) af) ad))) af) (au (bd.m0 ii) (az aW rfl nb.len aS (ac (a_ aU (ao 2) af (λ_ _=>rfl)) ad)) (ao 5)))))
   (ae (dm (i:=7) ["_law_row"] [5,6] sc.nd rfl (Or.inl rfl) rfl  rfl (bQ.of (by kernel_rfl)) (by kernel_rfl) (bN (dy kq (ao 2) (cQ (ao 3)) (cQ (ao 4))))
    (λ_ _ _ _=>(aB (i:=0) (by show(["_law_row","_law_left","_law_right"]:List Str).Nodup;decide +kernel) rfl (Or.inl rfl))) (λ_ _ _ _=>cw) (λ_ _ _ _=>(dy pp (ao 0) (cQ (ao 1)) (cQ (ao 2)))))
   (ai (aO (q00 zha hr (ac (ao 7) (ac (au (bd.m1 aR) (au (bd.m1 aP) (q00 zga hr (ac (ao 0) (ac (ao 1) ad))) af) af) ad)))))))))),?_⟩
  walk_at "n";obtain⟨R,g⟩:=cX c.rc (show 0<a from c.a1);have a1:=c.a1;have b1:=c.b1;have a6:=c.a6;have b6:=c.b6;have h0:iz (aq p) 0=some (V.str (tx p[0])):=(show iz _ ((0:Nat):Int)=_ from bC (bc R));have m:∀(z:Int) (n:Nat),0<n->∃j:Nat,z%(n:Int)=(j:Int)/\j<n:=λz n hn=>⟨(z%(n:Int)).toNat,(KN (KL _ ⋯)).symm,by have:=KM z (show(0:Int)<(n:Int) by omega);omega⟩;refine⟨o,ns,k,rfl,B,⋯,λc0=>⟨_,aM.of r,?_⟩⟩;obtain⟨t,et,ht⟩:=m c0 a ⋯;rw[aj,c.rc.1];refine⟨_,rfl,⋯,?_⟩;rw[et];refine h1 _ _ ?_;walk_at "nc";refine⟨o,ns,k,rfl,B,⋯,λc1=>⟨_,rfl,_,aM.of r,?_⟩⟩;obtain⟨d,U,ht2⟩:=m (c1/8) (a-t) ⋯;rw[aj,c.rc.1];refine⟨⋯,?_⟩;rw[show(a:Int)-(t:Int)=((a-t:Nat):Int) by omega,U];refine h1 _ _ ?_;walk_at "nc";refine⟨o,ns,k+1,by push_cast;rfl,B,⋯,λc2=>⟨_,aM.of r,_,h0,_,rfl,by rw[ax];exact ay ⋯,?_⟩⟩;obtain⟨u,eu,hu1⟩:=m c2 b ⋯;rw[ax,g];refine⟨_,rfl,⋯,?_⟩;rw[eu];refine h1 _ _ ?_;walk_at "nc";refine⟨o,ns,k+1,by push_cast;rfl,B,⋯,λc3=>⟨_,rfl,_,aM.of r,_,h0,_,rfl,by rw[ax];exact ay ⋯,?_⟩⟩;obtain⟨e,T,hu2⟩:=m (c3/8) (b-u) ⋯;rw[ax,g];refine⟨⋯,?_⟩;rw[show(b:Int)-(u:Int)=((b-u:Nat):Int) by omega,T];refine h1 _ _ ?_;walk_at "nc";have S:j8 (aq p) (some (t:Int)) (some ((t:Int)+1+(d:Int)))=aq ((p.drop t).take (t+1+d-t)):=by
   unfold j8;rw[show((t:Int)+1+(d:Int))=((t+1+d:Nat):Int) by push_cast;rfl,HT.sIx_nat,HT.sIx_nat,aj,c.rc.1,KO ⋯,KO ⋯];unfold aq;rw[List.map_take,List.map_drop]
  refine⟨_,aM.of r,λl1 O=>?_⟩;rw[S];generalize C:aE H l1 _=H1;obtain⟨s1,e1⟩:=dY O C;refine⟨⟨_,aM.of e1⟩,?_⟩;have G:∀row∈(p.drop t).take (t+1+d-t),row.length=b:=λrow hr=>c.rc.2 row (q0I (q0H hr));refine fR (as:=(p.drop t).take (t+1+d-t)) (emb:=λrow=>V.str (tx row)) (f:=λrow=>some (V.str (tx ((row.drop u).take (u+1+e-u))))) (λσ=>∃x,σ=[x,some (V.int (u:Int)),some (V.int ((u:Int)+1+(e:Int)))]) ⟨_,rfl⟩ (λH2 l=>aM.of (l _ _ e1)) (by rw[Kw,Kx,c.rc.1];omega) ?_ ?_
  ·rintro j row J σ H2 M1 M0 ⟨y,rfl⟩ l k1 k0
   have hb:=G row (JZ J);walk_at "wp";refine⟨by rw[ax];exact ay ⋯,?_⟩;rw[show((u:Int)+1+(e:Int))=((u+1+e:Nat):Int) by push_cast;rfl,gD,HT.sIx_nat,HT.sIx_nat,hb,KO ⋯,KO ⋯];exact k1 _ _ _ rfl l ⟨_,rfl⟩
  ·intro H2 l Y M
   rw[i'];have er:((p.drop t).take (t+1+d-t)).map (λrow=>V.str (tx ((row.drop u).take (u+1+e-u))))=aq (cut p t u (t+1+d) (u+1+e)):=by unfold aq cut;rw[J9];rfl
   rw[er];refine h1 _ _ ?_;clear h1;generalize C:aE H2 Y _=H3;obtain⟨s3,e3⟩:=dY M C;have D:=s1.trans (l.trans s3);have I:=cE c.rc (show t<t+1+d by omega) (show t+1+d<=a by omega) (show u<u+1+e by omega) (show u+1+e<=b by omega);walk_at "wp";refine⟨o,ns,k,rfl,D.seq B,⋯,λc4=>⟨_,rfl,?_⟩⟩;obtain⟨v,ev,Z⟩:=m (c4/64) 8 ⋯;rw[show c4/64%8=(v:Int) from ev];exact⟨Y,_,_,_,v,rfl,e3,I,⋯,⋯,⋯,⋯,Z,λl4 H4 L e4 s4=>q l4 _ H4 (D.free L) e4 ⟨t,u,t+1+d,u+1+e,v,⋯,⋯,⋯,⋯,Z,rfl⟩ (D.trans s4)⟩
theorem CS{p:aL}{sg st:KU}{rs:Yaa}(hst:st∈p)(hr:∀r∈rs,iQ p sg r):∃nms:List (List Nat),(cq (tx st) rs).map (·.1)=nms.map tx/\(∀x∈rs,x.2.n∈nms)/\nms.length<=p.length/\∀n∈nms,n∈p:=by
 have o:∀z∈(cq (tx st) rs).map (·.1),z∈p.map tx:=λz a=>by
  rcases(j7 _ _ _).mp a with e | ⟨q,j,e⟩
  ·rw[e];exact List.mem_map_of_mem hst
  ·unfold Fe at j
   obtain⟨r,d,rfl⟩:=KF.mp j;have R:=hr r d;rcases e with e | e
   ·rw[e];exact List.mem_map_of_mem R.n
   ·obtain⟨y,b,rfl⟩:=KF.mp e
    refine List.mem_map_of_mem ?_;obtain⟨k,v⟩:=r;have w:y=v.o1\/y=v.o2:=by
     rcases gY R.good.k4 with rfl | rfl | rfl | rfl
     ·exact q0Q b List.not_mem_nil
     ·simpa[cC]using b
     ·simpa[cC]using b
     ·exact .inl (by simpa[cC]using b)
    rcases w with rfl | rfl
    ·exact R.o1
    ·exact R.o2
 have g:=(kU (tx st) _ rs rfl).nd;have i:∀x∈rs,tx x.2.n∈(cq (tx st) rs).map (·.1):=λx c=>(j7 _ _ _).mpr (.inr ⟨_,List.mem_map_of_mem c,.inl rfl⟩);have l:=ThM.nd_len g o;rw[JW (as:=p)]at l;generalize(cq (tx st) rs).map (·.1)=ks at *;have u:∀z∈ks,tx z.cps.toList=z/\z.cps.toList∈p:=λz a=>by
  obtain⟨m,B,rfl⟩:=KF.mp (o z a);rw[cV];exact⟨rfl,B⟩
 refine⟨ks.map λz=>z.cps.toList,?_,λx c=>KF.mpr ⟨_,i x c,cV _⟩,by rw[JW];exact l,λn g=>?_⟩
 ·rw[J9]
  exact((q0K (λz a=>(u z a).1)).trans (List.map_id' ks)).symm
 ·obtain⟨z,a,rfl⟩:=KF.mp g
  exact(u z a).2
theorem B6{g:TG}{tb:TS}{D:gu}{σ:St}{H:Hp}{a b:Addr}{xs ys:List V}{n:Nat}(hn:n=min xs.length ys.length)(Pv:Nat->St->Hp->Prop)(h0:Pv 0 σ H)(hl:∀i σ H,i<=n->Pv i σ H->aM K H a xs/\aM K H b ys)
  (hs:∀(i:Nat) x y σ H T,xs[i]?=some x->ys[i]?=some y->Pv i σ H->H T=none->g (.ref T) σ (aE H T (.tup [x,y])) λσ2 H2=>tb {D with nx:=Pv (i+1),ct:=Pv (i+1),bk:=D.nx} σ2 H2) (hd:∀σ H,Pv n σ H->D.nx σ H):ww (Fj K a b) g tb D σ H:=by
 refine⟨λi m σ H=>m=n-i/\i<=n/\Pv i σ H,⟨n,by simp,Kh _,h0⟩,?_⟩;rintro i m σ H ⟨rfl,q,p⟩;obtain⟨d,c⟩:=hl i σ H q p
 by_cases j:i<n
 ·refine .inr ⟨⟨xs,ys,xs[i]'⋯,ys[i]'⋯,d,c,JT ⋯,JT ⋯⟩,Pv (i+1),λσ' u p'=>⟨n-(i+1),⋯,rfl,j,p'⟩,λx u y=>?_⟩
  obtain⟨T,x,o,rfl,r,rfl,l,k⟩:=y;exact hs i x o σ _ T (l xs d) (k ys c) p r
 ·have e:i=n:=by omega
  subst e;exact .inl ⟨⟨xs,ys,d,c,⋯⟩,hd σ H p⟩
theorem cL.insert{H:Hp}{l t:Addr}{ts:KZ}{rs:Yaa}{x:Nat×RV}(h:cL H l ts rs)(ht:H t=some (.tup (o_ x)))(k:Nat)(hk:k<=rs.length):cL (aE H l (.lst ((ts.map V.ref).take k++V.ref t::(ts.map V.ref).drop k))) l (ts.take k++t::ts.drop k) (rs.take k++x::rs.drop k):=by
 obtain⟨h1,h2,d⟩:=h;have put:∀{b:Addr} {y:Nat×RV},H b=some (.tup (o_ y))->aE H l (.lst ((ts.map V.ref).take k++V.ref t::(ts.map V.ref).drop k)) b=some (.tup (o_ y)):=fun{b y} h=>by
  rw[av (λe=>by rw[e,h1]at h;cases h)];exact h
 refine⟨by rw[ag,J7,Km,List.map_take,List.map_drop],by rw[Kf,Kf,J6,J6,Kw,Kw,Kx,Kx,h2],λi b y c a=>put ?_⟩;rcases Nat.lt_trichotomy i k with hi | hi | hi
 ·rw[Ke (by rw[Kw];omega),List.getElem?_take_of_lt hi]at c a
  exact d i b y c a
 ·subst hi
  rw[Kd (by rw[Kw];omega),Kw,KO ⋯,Nat.sub_self]at c a;cases c;cases a
  exact ht
 ·rw[Kd (by rw[Kw];omega),Kw,KO ⋯]at c a
  obtain⟨j,rfl⟩:∃j,i=k+1+j:=⟨i-(k+1),⋯⟩;rw[show k+1+j-k=j+1 by omega,Kl,List.getElem?_drop]at c a;exact d _ b y c a
theorem xu{α:Type}{x y:α}{l:List α}{k:Nat}:x∈l.take k++y::l.drop k↔x=y\/x∈l:=by
 rw[J8,J_]
 conv=>rhs;rw[<- List.take_append_drop k l,J8]
 constructor
 ·rintro(h | h | h)
  ·exact .inr (.inl h)
  ·exact .inl h
  ·exact .inr (.inr h)
 ·rintro(h | h | h)
  ·exact .inr (.inl h)
  ·exact .inl h
  ·exact .inr (.inr h)
structure FY(H:Hp)(l:Addr)(ts:KZ)(rs rs1:Yaa)(rs2:Yaa)(n:Nat):Prop where
 ra:cL H l ts rs
 sub:∀x∈rs,x∈rs1\/x∈rs2
 sup:∀x∈rs1,x∈rs
 len:rs.length<=n
abbrev nw:Stmt:=fU 64
inductive qt(vs:List V)(H:Hp)(Q:VK)(_E:XK):Prop
 |mk (l1 l2 lc:Addr) (ts ts2:KZ) (rs rs2:Yaa) (cs:List Int) (_:vs=[.ref l1,.ref l2,.ref lc]) (_:cL H l1 ts rs) (_:cL H l2 ts2 rs2) (_:H lc=some (.lst (cs.map V.int))) (_:rs.length<=100) (_:rs2.length<=100) (_:∀l ts' rs' H',H l=none->FY H' l ts' rs' rs rs2 (rs.length+rs2.length)->aD H H'->Q (.ref l) H')
theorem yq:aH ["_law_rules","_law_more","_law_cells","_law_found","_law_rule","_law_cell_here"] ["_law_rules","_law_more","_law_cells"] (aw nw):=by walk_at "c"
theorem zr{f:Addr}{fd:K1}(F:dw K "_law_amid" "_law_amid" nw f fd)(nb:NB mg):bw P w K mg base bD 1 f fd ["_law_rules","_law_more","_law_cells"] qt:=by
 have sc:=yq;walk_at "f"
 ·obtain⟨l1,l2,lc,R,p,B,j,Y,rfl,o,d,z,n1,n2,q⟩:=h
  have hu:=hr.units;refine⟨_,(ae (q01 3 sc.nd (cG bY rfl nb.list du (ac (ao 0) ad)))
   (ae (aY PassesOwn.never rfl (A7 rfl nb.zip (ac (ao 1) (ac (ao 2) ad))) (ic (n:=2) rfl (bp (q02 4 sc.nd) (bp (q02 5 sc.nd) dB)))
   (ai (bi (cJ PySem.F.plainAttrs_list PySem.F.slot_list_insert PySem.F.type_list_insert yB (ao 3) (ac (au (bd.m1 aR) (au (bd.m1 aP) (ao 5) af) (au (bd.m0 br) (az aQ rfl nb.len aS (ac (ao 3) ad)) af)) (ac (ao 4) ad))))))
   (ai (aO (ao 3))))),?_⟩
  walk_at "n";refine⟨_,.inl (aM.of o.1),λu m=>h1 _ _ ?_⟩;clear h1;generalize C:aE H u _=H1;obtain⟨r,O⟩:=dY m C;have M:cL H1 u R B:=⟨O,o.2.1,λi t x O e2=>r _ _ (o.2.2 i t x O e2)⟩;walk_at "n";refine⟨_,aM.of (r _ _ d.1),_,aM.of (r _ _ z),?_⟩;have hR21:=d.up r;refine B6 (xs:=p.map V.ref) (ys:=Y.map V.int) (n:=min (p.map V.ref).length (Y.map V.int).length) rfl (λi σ H'=>aD H H'/\i<=j.length/\(∃a b,FY H' u a b B j (B.length+i))/\∃x y,σ=[some (V.ref l1),some (V.ref l2),some (V.ref lc),some (V.ref u),x,y]) ⟨r,Kh _,⟨R,B,M,λx e=>.inl e,λx e=>e,Kg _⟩,_,_,rfl⟩ (λi σ H' _ h=>⟨aM.of (h.1 _ _ d.1),aM.of (h.1 _ _ z)⟩) ?_ ?_
  ·rintro i x y σ H2 T e S ⟨sm,_,⟨a,b,g⟩,x4,Z,rfl⟩ hT
   rw[JY]at e S;obtain⟨t,U,rfl⟩:=Kk.mp e;obtain⟨c,hc,rfl⟩:=Kk.mp S;have L:i<j.length:=by rw[<- d.2.1];exact(JU.mp U).1
   obtain⟨D,v⟩:∃D,j[i]?=some D:=⟨_,JT L⟩;generalize C:aE H2 T _=H3;obtain⟨G,e3⟩:=dY hT C;have l:=g.ra.up G;have I:=(sm.trans G) _ _ (d.2.2 i t D U v);have hl3:=g.ra.2.1;have hll:=g.len;walk_at "wp";obtain⟨k,hk⟩:∃k:Nat,c/4608%((a.length:Int)+1)=(k:Int):=⟨_,(KN (KL _ ⋯)).symm⟩;have J:k<=b.length:=by have:=KM (c/4608) (show(0:Int)<(a.length:Int)+1 by omega);omega
   refine⟨_,dZ.of e3,rfl,_,_,rfl,_,_,rfl,rfl,.inl ⟨rfl,_,aM.of l.1⟩,_,rfl,_,aM.of l.1,⋯,_,l.1,k,by rw[JW];exact hk,by rw[JW];omega,by rw[JW];exact aX ⋯,bE (sm.trans G) m,L,_,_,l.insert I k J,λx e=>?_,λx e=>xu.mpr (.inr (g.sup x e)),by rw[Kf,J6,Kw,Kx];omega⟩;rcases xu.mp e with h | h
   ·rw[h];exact .inr (JZ v)
   ·exact g.sub x h
  ·rintro σ H2 ⟨sm,L,⟨a,b,g⟩,x4,Z,rfl⟩
   refine h1 _ _ ?_;walk_at "wp";exact q u a b H2 m ⟨g.ra,g.sub,g.sup,Kn g.len ⋯⟩ sm
def zM(p:aL)(r c t b l x u:Nat)(y:aL):Prop:=∃t' b' l' x' u':Nat,(t'<t\/t'=t/\(b'<b\/b'=b/\(l'<l\/l'=l/\(x'<x\/x'=x/\u'<u))))/\(t'<b'/\b'<=r/\l'<x'/\x'<=c/\u'<8)/\y=turned (cut p t' l' b' x') u'
theorem zM.cg{p:aL}{r c t b l x u t2 b2 l2 x2 u2:Nat}(h:∀t' b' l' x' u':Nat,t'<b'->b'<=r->l'<x'->x'<=c->u'<8->((t'<t\/t'=t/\(b'<b\/b'=b/\(l'<l\/l'=l/\(x'<x\/x'=x/\u'<u))))↔(t'<t2\/t'=t2/\(b'<b2\/b'=b2/\(l'<l2\/l'=l2/\(x'<x2\/x'=x2/\u'<u2))))))(y:aL):zM p r c t b l x u y↔zM p r c t2 b2 l2 x2 u2 y:=
 ⟨λ⟨t',b',l',x',u',h1,h2,h3⟩=>⟨t',b',l',x',u',(h _ _ _ _ _ h2.1 h2.2.1 h2.2.2.1 h2.2.2.2.1 h2.2.2.2.2).mp h1,h2,h3⟩,λ⟨t',b',l',x',u',h1,h2,h3⟩=>⟨t',b',l',x',u',(h _ _ _ _ _ h2.1 h2.2.1 h2.2.2.1 h2.2.2.2.1 h2.2.2.2.2).mpr h1,h2,h3⟩⟩
theorem zM.one{p:aL}{r c t b l x u:Nat}(h1:t<b)(h2:b<=r)(h3:l<x)(h4:x<=c)(h5:u<8)(y:aL):zM p r c t b l x u y\/y=turned (cut p t l b x) u↔zM p r c t b l x (u+1) y:=by
 constructor
 ·rintro(⟨i,m,j,a,d,o,n,k⟩ | g)
  ·exact⟨i,m,j,a,d,⋯,n,k⟩
  ·exact⟨t,b,l,x,u,⋯,⟨h1,h2,h3,h4,h5⟩,g⟩
 ·rintro⟨i,m,j,a,d,o,n,k⟩
  by_cases e:i=t/\m=b/\j=l/\a=x/\d=u
  ·obtain⟨rfl,rfl,rfl,rfl,rfl⟩:=e
   exact .inr k
  ·exact .inl ⟨i,m,j,a,d,⋯,n,k⟩
theorem zM.all{p:aL}{r c:Nat}(y:aL):zM p r c r 0 0 0 0 y↔ba p r c y:=
 ⟨λ⟨t',b',l',x',u',_,h2,h3⟩=>⟨t',l',b',x',u',h2.1,h2.2.1,h2.2.2.1,h2.2.2.2.1,h2.2.2.2.2,h3⟩,λ⟨t',l',b',x',u',h1,h2,h3,h4,h5,h6⟩=>⟨t',b',l',x',u',⋯,⟨h1,h2,h3,h4,h5⟩,h6⟩⟩
theorem AB{H H':Hp}{d:Addr}{dn:aL->Prop}{zs:List AP}{n m:Nat}(S:dD H H' d dn zs n)(h:n<=m):dD H H' d dn zs m:=⟨S.tbl,S.sm,S.hd,S.each,S.nda,S.ndp,S.mem,Kn S.len h⟩
inductive v3(H:Hp)(a d:Addr)(p:aL)(r c t b l x u:Nat)(H':Hp):Prop
 |mk (zs:List AP) (_:dD H H' d (zM p r c t b l x u) zs (4000*t+500*b+60*l+8*x+u)):v3 H a d p r c t b l x u H'
theorem v3.cg{H:Hp}{a d:Addr}{p:aL}{r c t b l x u t2 b2 l2 x2 u2:Nat}{H':Hp}(S:v3 H a d p r c t b l x u H')(h:∀t' b' l' x' u':Nat,t'<b'->b'<=r->l'<x'->x'<=c->u'<8->((t'<t\/t'=t/\(b'<b\/b'=b/\(l'<l\/l'=l/\(x'<x\/x'=x/\u'<u))))↔(t'<t2\/t'=t2/\(b'<b2\/b'=b2/\(l'<l2\/l'=l2/\(x'<x2\/x'=x2/\u'<u2))))))(hn:4000*t+500*b+60*l+8*x+u<=4000*t2+500*b2+60*l2+8*x2+u2):v3 H a d p r c t2 b2 l2 x2 u2 H':=by
 obtain⟨e,S⟩:=S;exact⟨e,AB (S.congr (zM.cg h)) hn⟩
theorem v3.sm{H:Hp}{a d:Addr}{p:aL}{r c t b l x u:Nat}{H':Hp}(S:v3 H a d p r c t b l x u H'):aD H H':=by obtain⟨zs,S⟩:=S;exact S.sm
theorem v3.up{H:Hp}{a d:Addr}{p:aL}{r c t b l x u:Nat}{H' H2:Hp}(S:v3 H a d p r c t b l x u H')(s:aD H' H2):v3 H a d p r c t b l x u H2:=by obtain⟨e,S⟩:=S;exact⟨e,S.same s⟩
abbrev nu:Stmt:=fU 67
inductive qS(K:W.Frag)(vs:List V)(H:Hp)(Q:VK)(_E:XK):Prop
 |mk (a:Addr) (p:aL) (r c:Nat) (_:vs=[.ref a]) (_:H a=some (.lst (aq p))) (_:fH p r c) (_:∀(d:Addr) (H':Hp) (zs:List AP),dD H H' d (ba p r c) zs 24000->Q (.ref d) H')
theorem zk:aH ["_law_picture","_law_found","_law_top","_law_bottom","_law_left","_law_right","_law_part","_law_t","_law_whole_here"] ["_law_picture"] (aw nu):=by walk_at "c"
theorem yr{f:Addr}{fd:K1}(F:dw K "_law_seen" "_law_seen" nu f fd)(nb:NB mg)(zha:dF P w K mg base bD 1 "_law_turned" ["_law_picture","_law_t"] (eO K))(zJa:dF P w K mg base bD 1 "_law_text" ["_law_picture"] (kZ K)):bw P w K mg base bD 2 f fd ["_law_picture"] (qS K):=by
 have sc:=zk;walk_at "f"
 ·obtain⟨a,p,r,c,rfl,T,B,q⟩:=h
  have hu:=hr.units;refine⟨_,(ae (q01 1 sc.nd oX)
   (ae (aY PassesOwn.never rfl (bH rfl nb.range (ac (az aQ rfl nb.len aS (ac (ao 0) ad)) ad)) (q02 2 sc.nd)
   (ai (aY PassesOwn.never rfl (gQ rfl nb.range (ac (au (bd.m0 br) (ao 2) af) (ac (au (bd.m0 br) (az aQ rfl nb.len aS (ac (ao 0) ad)) af) ad))) (q02 3 sc.nd)
   (ai (aY PassesOwn.never rfl (bH rfl nb.range (ac (az aW rfl nb.len aS (ac (a_ aU (ao 0) af (λ_ _=>rfl)) ad)) ad)) (aB (i:=4) sc.nd rfl (Or.inr rfl))
   (ai (aY PassesOwn.never rfl (gQ rfl nb.range (ac (au (bd.m0 br) (ao 4) af) (ac (au (bd.m0 br) (az aW rfl nb.len aS (ac (a_ aU (ao 0) af (λ_ _=>rfl)) ad)) af) ad))) (aB (i:=5) sc.nd rfl (Or.inr rfl))
   (ae (dm (i:=6) ["_law_row"] [4,5] sc.nd rfl (Or.inl rfl) rfl  rfl (bQ.of (by kernel_rfl)) (by kernel_rfl) (bN (dy kq (ao 0) (cQ (ao 2)) (cQ (ao 3))))
    (λ_ _ _ _=>(aB (i:=0) (by show(["_law_row","_law_left","_law_right"]:List Str).Nodup;decide +kernel) rfl (Or.inl rfl))) (λ_ _ _ _=>cw) (λ_ _ _ _=>(dy pp (ao 0) (cQ (ao 1)) (cQ (ao 2)))))
   (ai (aY PassesOwn.never rfl (bH rfl nb.range (b_ ad)) (q02 7 sc.nd)
   (ae (q01 8 sc.nd (q00 zha hr (ac (ao 6) (ac (ao 7) ad))))
   (ai (kf (KC (KH (by decide:1<=64) _) hu) (ao 1) (q00 zJa hr (ac (ao 8) ad)) (ao 8) rfl)))))))))))))
   (ai (aO (ao 1))))),?_⟩
  have a1:=B.a1;have a6:=B.a6;have b1:=B.b1;have b6:=B.b6
  obtain⟨a9,R⟩:=cX B.rc (show 0<r from a1);have h0:iz (aq p) 0=some (V.str (tx p[0])):=(show iz _ ((0:Nat):Int)=_ from bC (bc a9));have U:(aq p).length=r:=by rw[aj,B.rc.1]
  have D:(tx p[0]).length=c:=by rw[ax,R]
  walk_at "n";refine λd hd=>h1 _ _ ?_;clear h1;generalize I:aE H d _=H1;obtain⟨s1,e1⟩:=dY hd I;have S0:v3 H a d p r c 0 0 0 0 0 H1:=⟨[],e1,s1,hd,(λz hz=>nomatch hz),List.nodup_nil,List.nodup_nil,λy=>⟨(λh=>nomatch h),λ⟨t',b',l',x',u',h1,h2,_⟩=>by omega⟩,Kh _⟩;clear e1 I;walk_at "n";refine⟨_,aM.of (s1 _ _ T),?_⟩;rw[U];refine⟨⋯,⋯,?_⟩;rw[show((r:Int)).toNat=r from J4 r];refine bz (lo:=0) (n:=r) (λt σ H'=>v3 H a d p r c t 0 0 0 0 H'/\∃x2 J C v o m g,σ=[some (V.ref a),some (V.ref d),x2,J,C,v,o,m,g]) ⟨S0,_,_,_,_,_,_,_,rfl⟩ ?_ ?_
  ·rintro t σ H2 ht ⟨S,x2,J,C,v,o,m,g,rfl⟩
   walk_at "wp";have a8:=S.sm _ _ T;refine⟨_,aM.of a8,?_⟩;rw[U];refine⟨⋯,⋯,⋯,⋯,?_⟩;rw[show((r:Int)+1-((t:Int)+1)).toNat=r-t by omega];refine bz (lo:=(t:Int)+1) (n:=r-t) (λj σ H'=>v3 H a d p r c t (t+1+j) 0 0 0 H'/\∃J C v o m g,σ=[some (V.ref a),some (V.ref d),some (V.int (t:Int)),J,C,v,o,m,g]) ⟨S.cg ⋯ ⋯,_,_,_,_,_,_,rfl⟩ ?_ ?_
   ·rintro j σ H3 hj ⟨S,J,C,v,o,m,g,rfl⟩
    walk_at "wp";obtain⟨b,hb⟩:∃b,t+1+j=b:=⟨_,rfl⟩;have b3:(t:Int)+1+(j:Int)=(b:Int):=by omega
    rw[hb]at S;refine⟨_,aM.of (S.sm _ _ T),_,h0,_,rfl,by rw[D];exact ay ⋯,?_⟩;rw[D,b3];refine⟨⋯,⋯,?_⟩;rw[show((c:Int)).toNat=c from J4 c];refine bz (lo:=0) (n:=c) (λl σ H'=>v3 H a d p r c t b l 0 0 H'/\∃C v o m g,σ=[some (V.ref a),some (V.ref d),some (V.int (t:Int)),some (V.int (b:Int)),C,v,o,m,g]) ⟨S,_,_,_,_,_,rfl⟩ ?_ ?_
    ·rintro l σ H4 hl ⟨S,C,v,o,m,g,rfl⟩
     walk_at "wp";refine⟨_,aM.of (S.sm _ _ T),_,h0,_,rfl,by rw[D];exact ay ⋯,?_⟩;rw[D];refine⟨⋯,⋯,⋯,⋯,?_⟩;rw[show((c:Int)+1-((l:Int)+1)).toNat=c-l by omega];refine bz (lo:=(l:Int)+1) (n:=c-l) (λk σ H'=>v3 H a d p r c t b l (l+1+k) 0 H'/\∃v o m g,σ=[some (V.ref a),some (V.ref d),some (V.int (t:Int)),some (V.int (b:Int)),some (V.int (l:Int)),v,o,m,g]) ⟨S.cg ⋯ ⋯,_,_,_,_,rfl⟩ ?_ ?_
     ·rintro k σ H5 hk ⟨S,v,o,m,g,rfl⟩
      obtain⟨x,hx⟩:∃x,l+1+k=x:=⟨_,rfl⟩;have a3:(l:Int)+1+(k:Int)=(x:Int):=by omega
      rw[hx]at S;rw[a3];walk_at "o";have a0:j8 (aq p) (some (t:Int)) (some (b:Int))=aq ((p.drop t).take (b-t)):=by
       unfold j8;rw[HT.sIx_nat,HT.sIx_nat,aj,B.rc.1,KO ⋯,KO ⋯];unfold aq;rw[List.map_take,List.map_drop]
      refine⟨_,aM.of (S.sm _ _ T),λl1 Z=>?_⟩;rw[a0];generalize I:aE H5 l1 _=H6;obtain⟨s6,e6⟩:=dY Z I;refine⟨⟨_,aM.of e6⟩,?_⟩;have O:∀row∈(p.drop t).take (b-t),row.length=c:=λrow hr=>B.rc.2 row (q0I (q0H hr));refine fR (as:=(p.drop t).take (b-t)) (emb:=λrow=>V.str (tx row)) (f:=λrow=>some (V.str (tx ((row.drop l).take (x-l))))) (λσ=>∃y,σ=[y,some (V.int (l:Int)),some (V.int (x:Int))]) ⟨_,rfl⟩ (λH2 s2=>aM.of (s2 _ _ e6)) (by rw[Kw,Kx,B.rc.1];omega) ?_ ?_
      ·rintro j row a7 σ H2 M1 M0 ⟨y,rfl⟩ s2 k1 k0
       have hb:=O row (JZ a7);walk_at "wp";refine⟨by rw[ax];exact ay ⋯,?_⟩;rw[gD,HT.sIx_nat,HT.sIx_nat,hb,KO ⋯,KO ⋯];exact k1 _ _ _ rfl s2 ⟨_,rfl⟩
      ·intro H7 s7 l2 Y
       rw[i'];have er:((p.drop t).take (b-t)).map (λrow=>V.str (tx ((row.drop l).take (x-l))))=aq (cut p t l b x):=by unfold aq cut;rw[J9];rfl
       rw[er];refine h2 _ _ ?_;clear h2;generalize I:aE H7 l2 _=H8;obtain⟨s8,e8⟩:=dY Y I;have S8:=S.up (s6.trans (s7.trans s8));clear S s6 s7 s8 a0 O er e6 I Y Z;have a5:=cE B.rc (show t<b by omega) (show b<=r by omega) (show l<x by omega) (show x<=c by omega);walk_at "wp";refine⟨⋯,?_⟩;have b4:Int.toNat 8=8:=rfl;rw[b4];refine bz (lo:=0) (n:=8) (λu σ H'=>v3 H a d p r c t b l x u H'/\H' l2=some (.lst (aq (cut p t l b x)))/\∃m g,σ=[some (V.ref a),some (V.ref d),some (V.int (t:Int)),some (V.int (b:Int)),some (V.int (l:Int)),some (V.int (x:Int)),some (V.ref l2),m,g]) ⟨S8,e8,_,_,rfl⟩ ?_ ?_
       ·rintro u σ H9 M ⟨⟨zs,S⟩,G,m,g,rfl⟩
        walk_at "wp";refine⟨l2,cut p t l b x,b-t,x-l,u,by simp,G,a5,⋯,⋯,⋯,⋯,M,λbq c0 b2 a2 L=>?_⟩;obtain⟨o1,o2,r',c',o3,o4,o5,o6,o7⟩:=sV (u:=u) B.rc B.ns (show t<b by omega) (show b<=r by omega) (show l<x by omega) (show x<=c by omega);have a4:eM (turned (cut p t l b x) u):=eM.of o3 ⋯ ⋯;have b0:((turned (cut p t l b x) u).headD []).length<=64:=by rw[bg o3 o4];omega
        obtain⟨e1,S5⟩:=S.step L b2 a2 o1 o2 b0;have hln9:=S.len;refine⟨bq,turned (cut p t l b x) u,rfl,a2,a4,aE c0 d (.dK ((ke zs (bq,turned (cut p t l b x) u)).map gy)),.inl ⟨zs.map gy,_,L _ _ S.tbl,rfl,by rw[JW];exact aX ⋯,by rw[<- e1]⟩,⟨_,AB (S5.congr (zM.one ⋯ ⋯ ⋯ ⋯ M)) ⋯⟩,?_⟩;rw[av (nV G S.tbl (by intro e;cases e))];exact L _ _ G
       ·rintro σ H9 ⟨S,G,m,g,rfl⟩
        rw[show l+1+(k+1)=x+1 by omega];exact⟨S.cg ⋯ ⋯,_,_,_,_,rfl⟩
     ·rintro σ H5 ⟨S,v,o,m,g,rfl⟩
      exact⟨S.cg ⋯ ⋯,_,_,_,_,_,rfl⟩
    ·rintro σ H4 ⟨S,C,v,o,m,g,rfl⟩
     exact⟨S.cg ⋯ ⋯,_,_,_,_,_,_,rfl⟩
   ·rintro σ H3 ⟨S,J,C,v,o,m,g,rfl⟩
    exact⟨S.cg ⋯ ⋯,_,_,_,_,_,_,_,rfl⟩
  ·rintro σ H2 ⟨S,x2,J,C,v,o,m,g,rfl⟩
   refine h1 _ _ ?_;walk_at "wp";obtain⟨zs,S⟩:=S;exact q d H2 zs (AB (S.congr zM.all) ⋯)
theorem sw{r:KU}{j:Nat}(h:j<r.length):iz (aq (bP r)) (j:Int)=some (V.str (tx [r[j]])):=by
 refine bC ?_;unfold aq bP;rw[J9,JY,JT h]
 rfl
abbrev jR:Stmt:=fU 71
inductive mj(K:W.Frag)(vs:List V)(H:Hp)(Q:VK)(_E:XK):Prop
 |mk (ls lp lg:Addr) (ns:List Int) (p:aL) (a b:Nat) (r:KU) (_:vs=[.ref ls,.ref lp,.ref lg]) (_:aM K H ls (ns.map V.int)) (_:H lp=some (.lst (aq p))) (_:fH p a b) (_:H lg=some (.lst (aq (bP r)))) (_:1<=r.length) (_:r.length<=8) (_:47∉r) (_:∀l q' a' b' H',H l=none->H' l=some (.lst (aq q'))->fH q' a' b'->aD H H'->Q (.ref l) H')
theorem uq:aH ["_law_script","_law_picture","_law_signs_here","_law_found","_law_cell_here","_law_some","_law_row","_law_made","_law_i","_law_sign"] ["_law_script","_law_picture","_law_signs_here"] (aw jR):=by walk_at "c"
theorem ug{f:Addr}{fd:K1}(F:dw K "_law_framed" "_law_framed" jR f fd)(nb:NB mg)(zga:dF P w K mg base bD 1 "_law_cell" ["_law_script","_law_k"] (fD K)):bw P w K mg base bD 2 f fd ["_law_script","_law_picture","_law_signs_here"] (mj K):=by
 have sc:=uq;walk_at "f"
 ·obtain⟨ls,lp,lg,ns,p,a,b,r,rfl,hS,hp,G,hg,r1,r8,c7,q⟩:=h
  have hu:=hr.units;refine⟨_,(ae (q01 3 sc.nd (cG bY rfl nb.list du (ac (ao 1) ad)))
   (ae (q01 4 sc.nd (q00 zga hr (ac (ao 0) (b_ ad))))
   (ae (bT (PW.pt (fM (aT dQ (au (bd.m1 aR) (ao 4) af) af (bf _)) (eC (aT (bd.m0 nr) (az aQ rfl nb.len aS (ac (ao 3) ad)) af (bf _)))))
   (ae (dm (i:=5) ["_law_k"] [2,0] sc.nd rfl (Or.inl rfl) rfl  rfl (bQ.of (by kernel_rfl)) (by kernel_rfl) (bH rfl nb.range (ac (az aW rfl nb.len aS (ac (a_ aU (ao 3) af (λ_ _=>rfl)) ad)) ad))
    (λ_ _ _ _=>(aB (i:=0) (by show(["_law_k","_law_signs_here","_law_script"]:List Str).Nodup;decide +kernel) rfl (Or.inl rfl))) (λ_ _ _ _=>cw) (λ_ _ _ _=>(a_ (Ae (K:=K) rfl) (ao 1) (au (bd.m1 aR) (q00 zga hr (ac (ao 2) (ac (au (bd.m0 br) af (ao 0)) ad))) (az (vM (K:=K) rfl) rfl nb.len aS (ac (ao 1) ad))) (λ_ _=>rfl))))
   (ae (q01 6 sc.nd (@qE _ _ _ _ _ _ _ _ (ac (ao 5) ad) rfl rfl))
   (ai (q01 3 sc.nd (a_ aU (bF (ac (au rK (ao 3) (bF (ac (ao 6) ad))) (ac (au rK (bF (ac (ao 6) ad)) (ao 3)) ad))) (au (bd.m1 aR) (au (bd.m1 aP) (ao 4) af) af) (λ_ _=>rfl))))))
   bh)
   (ae (bT (PW.pt (fM (aT dQ (au (bd.m1 aR) (au (bd.m1 aP) (ao 4) af) af) af (bf _)) (eC (aT (bd.m0 nr) (az aW rfl nb.len aS (ac (a_ aU (ao 3) af (λ_ _=>rfl)) ad)) af (bf _)))))
   (ae (q01 7 sc.nd (bF ad))
   (ae (aY PassesOwn.never rfl (mT rfl nb.enumerate (ac (ao 3) ad)) (ic (n:=2) rfl (bp (q02 8 sc.nd) (bp (q02 6 sc.nd) dB)))
   (ae (q01 9 sc.nd (a_ aU (ao 2) (au (bd.m1 aR) (q00 zga hr (ac (ao 0) (ac (au (bd.m0 br) af (ao 8)) ad))) (az aQ rfl nb.len aS (ac (ao 2) ad))) (λ_ _=>rfl)))
   (ai (bi (q03 (ao 7) (ac (a_ aU (bF (ac (au dI (ao 6) (ao 9)) (ac (au dI (ao 9) (ao 6)) ad))) (au (bd.m1 aR) (au (bd.m1 aP) (ao 4) af) af) (λ_ _=>rfl)) ad))))))
   (ai (q01 3 sc.nd (ao 7)))))
   bh)
   (ai (aO (ao 3))))))),?_⟩
  walk_at "n";refine⟨_,.inl (aM.of hp),λlf b2=>h1 _ _ ?_⟩;clear h1;generalize z0:aE H lf _=H1;obtain⟨M,e1⟩:=dY b2 z0;walk_at "n";refine⟨ls,ns,4,rfl,M.seq hS,⋯,λc0=>h1 _ _ ?_⟩;clear h1;have md:∀(z:Int) (n:Nat),0<n->∃j:Nat,z%(n:Int)=(j:Int)/\j<n:=λz n hn=>⟨(z%(n:Int)).toNat,(KN (KL _ ⋯)).symm,by have:=KM z (show(0:Int)<(n:Int) by omega);omega⟩;have a9:(aq p).length=a:=by rw[aj,G.rc.1]
  have a1:=G.a1;have a6:=G.a6;have b1:=G.b1;have b6:=G.b6
  have c6:(bP r).length=r.length:=by unfold bP;rw[JW]
  refine am λN1 h1=>?_;have go:∀(l2:Addr) (v:aL) (a2:Nat) (U S x7 R O:Option V) (H2:Hp),H l2=none->H2 l2=some (.lst (aq v))->fH v a2 b->aD H H2->N1 [some (V.ref ls),some (V.ref lp),some (V.ref lg),some (V.ref l2),some (V.int c0),U,S,x7,R,O] H2:=by
   intro l2 v a2 U S x7 R O H2 d2 J d D;refine h1 _ _ ?_;clear h1;have c9:(aq v).length=a2:=by rw[aj,d.rc.1]
   have Hf:=d.a1;have G_:=d.a6
   obtain⟨b4,m⟩:=cX d.rc (show 0<a2 from d.a1);have h0:iz (aq v) 0=some (V.str (tx v[0])):=(show iz _ ((0:Nat):Int)=_ from bC (bc b4));refine am λN1 h1=>?_;have fin:∀(l3:Addr) (u:aL) (b3:Nat) (U S x7 R O:Option V) (H3:Hp),H l3=none->H3 l3=some (.lst (aq u))->fH u a2 b3->aD H H3->N1 [some (V.ref ls),some (V.ref lp),some (V.ref lg),some (V.ref l3),some (V.int c0),U,S,x7,R,O] H3:=by
    intro l3 u b3 U S x7 R O H3 f3 f6 f4 s3;refine h1 _ _ ?_;walk_at "wp";exact q l3 u a2 b3 H3 f3 f6 f4 s3
   clear h1;refine nn λd7 d6 L C=>?_;walk_at "wp";refine b9 (λhc=>⟨_,aM.of J,_,h0,_,rfl,by rw[ax,m];exact ay ⋯,?_⟩) (λhc=>?_)
   ·refine b9 (λZ=>?_) (λZ=>?_)
    ·rw[ax,m]at Z
     rw[L];clear L C hc;walk_at "n";refine⟨Kh _,λlm b0=>h1 _ _ ?_⟩;clear h1;generalize z0:aE H2 lm _=H3;obtain⟨s3,e3⟩:=dY b0 z0;walk_at "o";refine⟨_,aM.of (s3 _ _ J),?_⟩;refine lI (xs:=aq v) (λi σ H'=>aD H2 H'/\(∃u:aL,H' lm=some (.lst (aq u))/\rect u i (b+1)/\bG u)/\∃U S R O,σ=[some (V.ref ls),some (V.ref lp),some (V.ref lg),some (V.ref l2),some (V.int c0),U,S,some (V.ref lm),R,O]) ⟨s3,⟨[],e3,⟨rfl,λx hx=>nomatch hx⟩,λrow hr=>nomatch hr⟩,_,_,_,_,rfl⟩ (λi σ H' _ h=>aM.of (h.1 _ _ J)) ?_ ?_
     ·rintro i y σ H4 T l ⟨sm,⟨u,a8,o,I⟩,U,S,R,O,rfl⟩ hT
      generalize z0:aE H4 T _=H5;obtain⟨s5,e5⟩:=dY hT z0;have hi:i<v.length:=by have:=(JU.mp l).1;rwa [aj]at this
      rw[bc hi]at l;cases l;have B:=d.rc.2 _ (J3 hi);have a7:=d.ns _ (J3 hi);have j3:i<6:=by have:=d.rc.1;omega
      generalize v[i]=row at B a7 e5;walk_at "wp";refine⟨_,dZ.of e5,rfl,_,_,rfl,_,_,rfl,rfl,?_⟩;have a5:=(D.trans sm).trans s5;refine⟨_,rfl,ls,ns,26+i,by push_cast;rfl,a5.seq hS,⋯,λc=>⟨_,aM.of (a5 _ _ hg),_,rfl,?_⟩⟩;rw[aj,c6];obtain⟨j,ej,hj⟩:=md c r.length ⋯;rw[ej];have c5:=s5 _ _ a8;have c1:r[j]≠47:=λe=>c7 (e▸J3 hj);refine⟨⋯,_,aM.of (a5 _ _ hg),_,sw hj,.inl ⟨rfl,_,aM.of c5⟩,_,rfl,_,rfl,by rw[ax,ax,B];exact ay (by show b+1<=_;omega),_,rfl,_,rfl,by rw[ax,ax,B];exact ay (by show 1+b<=_;omega),ay (by decide),λl7 Y=>?_⟩;rw[jQ,jQ];generalize r[j]=cc at c1;generalize z1:aE H5 l7 _=H6;obtain⟨s6,e6⟩:=dY Y z1;have c3:∀g:List Nat,g.length=b+1->47∉g->∃x,H6 lm=some (HO.lst x)/\x.length<sizeLine/\aD H2 (aE H6 lm (HO.lst (x++[V.str (tx g)])))/\∃u,aE H6 lm (HO.lst (x++[V.str (tx g)])) lm=some (HO.lst (aq u))/\rect u (i+1) (b+1)/\bG u:=by
       intro g h1 h2;have c4:=o.1;refine⟨_,s6 _ _ c5,by rw[aj,c4];exact aX ⋯,bE (sm.trans (s5.trans s6)) b0,u++[g],by rw[ag,bX],⟨by rw[Kf,c4];rfl,λy l=>?_⟩,λy l=>?_⟩
       ·rcases J8.mp l with h | h
        ·exact o.2 y h
        ·rw[JX.mp h];exact h1
       ·rcases J8.mp l with h | h
        ·exact I y h
        ·rw[JX.mp h];exact h2
      have n1:47∉row++[cc]:=λh=>(J8.mp h).elim a7 λh=>c1 (JX.mp h).symm;have n2:47∉[cc]++row:=λh=>(J8.mp h).elim (λh=>c1 (JX.mp h).symm) a7;refine⟨_,aM.of e6,?_⟩;rcases(show c0/8%2=0\/c0/8%2=1 by omega) with e | e<;>rw[e]
      ·exact⟨_,rfl,c3 _ (by rw[Kf,B];rfl) n1⟩
      ·exact⟨_,rfl,c3 _ (by rw[Kf,B];exact Nat.add_comm _ _) n2⟩
     ·rintro σ H4 ⟨sm,⟨u,a8,o,I⟩,U,S,R,O,rfl⟩
      refine h2 _ _ ?_;walk_at "wp";exact fin lm u (b+1) _ _ _ _ _ H4 (D.free b0) a8 ⟨by rw[c9]at o;exact o,⋯,⋯,⋯,⋯,I⟩ (D.trans sm)
    ·rw[C]
     walk_at "wp";exact fin l2 v b _ _ _ _ _ H2 d2 J d D
   ·rw[C]
    walk_at "wp";exact fin l2 v b _ _ _ _ _ H2 d2 J d D
  clear h1;refine nn λd7 d6 L C=>?_;walk_at "wp";refine b9 (λhc=>⟨_,aM.of e1,?_⟩) (λhc=>?_)
  ·rw[a9]
   refine b9 (λZ=>?_) (λZ=>?_)
   ·rw[L]
    clear L C hc;walk_at "n";obtain⟨b4,m⟩:=cX G.rc (show 0<a from G.a1);have h0:iz (aq p) 0=some (V.str (tx p[0])):=(show iz _ ((0:Nat):Int)=_ from bC (bc b4));refine⟨_,aM.of e1,_,h0,_,rfl,by rw[ax,m];exact ay ⋯,?_⟩;rw[ax,m,J4];refine⟨⋯,⋯,?_⟩;have d5:∀{N:List V->Hp->Prop},(∀(row:KU) H2,row.length=b->47∉row->aD H1 H2->N (aq (bP row)) H2)->fg (wo 0 b) (iP 0) uQ (Cd (wY K) (Ce 1) (Cd (FO (λx j=>0<j) λi j=>V.int (i%j)) (j_ (fD K) [] E0 (gI (Ce 2) (gI (Cd (zb λi j=>V.int (i+j)) (tC (V.int 20)) (Ce 0)) k9))) (Fn (λxs H Q=>∃p,xs=[V.ref p]/\∃x,aM K H p x/\Q (V.int ↑x.length) H) (gI (Ce 1) k9)))) [none,some (V.ref lg),some (V.ref ls)] H1 N:=by
     intro N hN;refine lT (n:=b) (emb:=λc=>V.str (tx [c])) (·∈r) (λσ=>∃x,σ=[x,some (.ref lg),some (.ref ls)]) ⟨_,rfl⟩ ⋯ ?_ ?_
     ·rintro k hk σ H2 M1 M0 ⟨y,rfl⟩ D k1
      walk_at "wp";refine⟨ls,ns,20+k,by push_cast;rfl,(M.trans D).seq hS,⋯,λc=>⟨_,aM.of ((M.trans D) _ _ hg),_,rfl,?_⟩⟩;rw[aj,c6];obtain⟨j,ej,hj⟩:=md c r.length ⋯;rw[ej];refine⟨⋯,_,aM.of ((M.trans D) _ _ hg),V.str (tx [r[j]]),sw hj,k1 _ _ _ (J3 hj) D ⟨_,rfl⟩⟩
     ·intro ys H2 hl l D
      have e:ys.map (λc=>V.str (tx [c]))=aq (bP ys):=by unfold aq bP;rw[J9];rfl
      rw[e];exact hN ys H2 hl (λh=>c7 (l _ h)) D
    refine d5 λrow H2 B f5 D l5 f1=>h1 _ _ ?_;clear h1 d5;generalize z0:aE H2 l5 _=H3;obtain⟨s3,e3⟩:=dY f1 z0;have s4:=D.trans s3;walk_at "n";have d4:((bP row).map tx |>.map λx=>x.length).sum+((bP row).map tx).length*(Str.ofString "").length<=16777216:=by
     have g1:=gO (p:=bP row) (n:=1) λy l=>by
      obtain⟨c,_,rfl⟩:=KF.mp l;exact Kg _
     have g2:(bP row).length=row.length:=by unfold bP;rw[JW]
     have e0:(Str.ofString "").length=0:=rfl;rw[e0,Nat.mul_zero];omega
    refine⟨rfl,(bP row).map tx,.inl (by rw[<- fO];exact aM.of e3),d4,h1 _ _ ?_⟩;clear h1 d4;rw[join_nil,pj];walk_at "wp";refine⟨ay (by decide),λl6 f0=>?_⟩;generalize z1:aE H3 l6 _=H6;obtain⟨s6,e6⟩:=dY f0 z1;have a3:=s4.trans s6;refine⟨_,a3 _ _ e1,_,e6,by rw[a9];exact ay (by show a+1<=_;omega),λl7 Y=>?_⟩;generalize z2:aE H6 l7 _=H7;obtain⟨s7,e7⟩:=dY Y z2;refine⟨ay (by decide),λl8 e4=>?_⟩;generalize z3:aE H7 l8 _=H8;obtain⟨s8,e8⟩:=dY e4 z3;have a0:=a3.trans (s7.trans s8);refine⟨_,e8,_,a0 _ _ e1,by rw[a9];exact ay (by show 1+a<=_;omega),λl9 d1=>?_⟩;generalize z4:aE H8 l9 _=H9;obtain⟨s9,e9⟩:=dY d1 z4;refine⟨ay (by decide),λe2 d3=>?_⟩;generalize z5:aE H9 e2 _=H10;obtain⟨a4,f9⟩:=dY d3 z5;have c2:=a0.trans (s9.trans a4);have f8:=(s8.trans (s9.trans a4)) _ _ e7;have f7:=a4 _ _ e9;refine⟨_,aM.of f9,?_⟩;have mk:∀v:aL,v.length=a+1->(∀y∈v,y=row\/y∈p)->fH v (a+1) b:=λv g1 g2=>⟨⟨g1,λy l=>(g2 y l).elim (λe=>e▸B) (G.rc.2 y)⟩,⋯,⋯,⋯,⋯,λy l=>(g2 y l).elim (λe=>e▸f5) (G.ns y)⟩;rcases(show c0/4%2=0\/c0/4%2=1 by omega) with e | e<;>rw[e]
    ·exact⟨_,rfl,go l7 (p++[row]) (a+1) _ _ _ _ _ H10 ((M.trans a3).free Y) (by rw[f8,bX]) (mk _ (by rw[Kf,G.rc.1];rfl) λy l=>(J8.mp l).elim .inr λh=>.inl (JX.mp h)) (M.trans c2)⟩
    ·exact⟨_,rfl,go l9 (row::p) (a+1) _ _ _ _ _ H10 ((M.trans a0).free d1) f7 (mk _ (by rw[J6,G.rc.1]) λy l=>(J_.mp l)) (M.trans c2)⟩
   ·rw[C]
    walk_at "wp";exact go lf p a _ _ _ _ _ H1 b2 e1 G M
  ·rw[C]
   walk_at "wp";exact go lf p a _ _ _ _ _ H1 b2 e1 G M
abbrev e_:Stmt:=fU 72
inductive gC(K:W.Frag)(vs:List V)(H:Hp)(Q:VK)(_E:XK):Prop
 |mk (lg:Addr) (c:Int) (r:KU) (w:Nat) (_:vs=[.int c,.ref lg,.int (w:Int)]) (_:H lg=some (.lst (aq (bP r)))) (_:1<=r.length) (_:r.length<=8) (_:47∉r) (_:1<=w) (_:w<=6) (_:∀l q' a' b' H',H l=none->H' l=some (.lst (aq q'))->fH q' a' b'->aD H H'->Q (.ref l) H')
theorem kT:aH ["_law_cell_here","_law_signs_here","_law_wide","_law_rest","_law_found","_law_i","_law_row","_law_k"] ["_law_cell_here","_law_signs_here","_law_wide"] (aw e_):=by walk_at "c"
theorem lF{f:Addr}{fd:K1}(F:dw K "_law_any_picture" "_law_any_picture" e_ f fd)(nb:NB mg):bw P w K mg base bD 1 f fd ["_law_cell_here","_law_signs_here","_law_wide"] (gC K):=by
 have sc:=kT;walk_at "f"
 ·obtain⟨R,c,r,m,rfl,Z,r1,r8,M,w1,w6,q⟩:=h
  have hu:=hr.units;refine⟨_,(ae (q01 3 sc.nd (au (bd.m1 aP) (au (bd.m1 aP) (ao 0) af) (ao 2)))
   (ae (q01 4 sc.nd (bF ad))
   (ae (aY PassesOwn.never rfl (bH rfl nb.range (ac (au (bd.m0 br) af (au (bd.m1 aR) (ao 0) af)) ad)) (q02 5 sc.nd)
   (ae (q01 6 sc.nd lB)
   (ae (aY PassesOwn.never rfl (bH rfl nb.range (ac (au (bd.m0 br) af (au (bd.m1 aR) (au (bd.m1 aP) (ao 0) af) (ao 2))) ad)) (q02 7 sc.nd)
   (ae (q01 6 sc.nd (au dI (ao 6) (a_ aU (ao 1) (au (bd.m1 aR) (ao 3) (az aQ rfl nb.len aS (ac (ao 1) ad))) (λ_ _=>rfl))))
   (ai (q01 3 sc.nd (au (bd.m1 aP) (ao 3) (az aQ rfl nb.len aS (ac (ao 1) ad)))))))
   (ai (bi (q03 (ao 4) (ac (ao 6) ad)))))))
   (ai (aO (ao 4)))))),?_⟩
  walk_at "n";refine⟨⋯,⋯,h1 _ _ ?_⟩;clear h1;generalize c/2/(m:Int)=c2;have C:(bP r).length=r.length:=by unfold bP;rw[JW]
  walk_at "n";refine⟨Kh _,λl O=>h1 _ _ ?_⟩;clear h1;generalize T:aE H l _=H1;obtain⟨U,e1⟩:=dY O T;walk_at "n";obtain⟨b,hb,hb2⟩:∃b:Nat,1+c/2%(m:Int)=(b:Int)/\1<=b/\b<=6:=by
   have g1:=KL (c/2) (show(m:Int)≠0 by omega);have g2:=KM (c/2) (show(0:Int)<(m:Int) by omega);exact⟨(1+c/2%(m:Int)).toNat,⋯,⋯,⋯⟩
  obtain⟨a,ha⟩:∃a:Nat,1+c%2=(a:Int):=⟨_,(KN ⋯).symm⟩;refine⟨⋯,⋯,?_⟩;rw[ha,J4];refine bz (lo:=0) (n:=a) (λi σ I=>aD H I/\(∃p:aL,I l=some (.lst (aq p))/\rect p i b/\bG p)/\∃z x y J,σ=[some (V.int c),some (V.ref R),some (V.int (m:Int)),some (V.int z),some (V.ref l),x,y,J]) ⟨U,⟨[],e1,⟨rfl,λx Y=>nomatch Y⟩,λrow hr=>nomatch hr⟩,_,_,_,_,rfl⟩ ?_ ?_
  ·rintro i σ I hi ⟨sm,⟨p,G,g,o⟩,z,x,y,J,rfl⟩
   have u:=sm _ _ Z;walk_at "n";refine h1 _ _ ?_;walk_at "nc";refine⟨⋯,?_⟩;rw[hb];refine⟨⋯,⋯,?_⟩;rw[J4];refine bz (lo:=0) (n:=b) (λk σ H2=>H2=I/\∃z x row y,σ=[some (V.int c),some (V.ref R),some (V.int (m:Int)),some (V.int z),some (V.ref l),x,some (V.str (tx row)),y]/\row.length=k/\47∉row) ⟨rfl,_,_,[],_,rfl,rfl,List.not_mem_nil⟩ ?_ ?_
   ·rintro k σ H2 hk ⟨rfl,z,x,row,y,rfl,d,v⟩
    walk_at "n";have hm1:=KL z (show((r.length:Nat):Int)≠0 by omega);have hm2:=KM z (show(0:Int)<((r.length:Nat):Int) by omega);obtain⟨j,ej,S⟩:∃j:Nat,z%((r.length:Nat):Int)=(j:Int)/\j<r.length:=⟨(z%((r.length:Nat):Int)).toNat,⋯,⋯⟩;refine⟨_,aM.of u,?_⟩;rw[aj,C,ej];refine⟨⋯,_,aM.of u,_,sw S,_,rfl,by rw[ax,ax,d];exact ay (by show k+1<=_;omega),h1 _ _ ?_⟩;clear h1;have D:r[j]≠47:=λe=>M (e▸J3 S);rw[jQ];generalize r[j]=cc at D;walk_at "wp";refine⟨_,aM.of u,?_⟩;rw[aj,C];refine⟨⋯,⋯,_,rfl,by rw[Kf,d];rfl,λh=>?_⟩;rcases J8.mp h with h | h
    ·exact v h
    ·exact D (JX.mp h).symm
   ·rintro σ H2 ⟨rfl,z,x,row,y,rfl,d,v⟩
    refine h1 _ _ ?_;clear h1;walk_at "wp";have B:=g.1;refine⟨.inl ⟨rfl,_,aM.of G⟩,_,G,by rw[aj,B];exact aX ⋯,bE sm O,p++[row],by rw[ag,bX],⟨by rw[Kf,B];rfl,λy L=>?_⟩,λy L=>?_⟩
    ·rcases J8.mp L with h | h
     ·exact g.2 y h
     ·rw[JX.mp h];exact d
    ·rcases J8.mp L with h | h
     ·exact o y h
     ·rw[JX.mp h];exact v
  ·rintro σ H2 ⟨sm,⟨p,G,g,o⟩,z,x,y,J,rfl⟩
   refine h1 _ _ ?_;walk_at "wp";exact q l p a b H2 O G ⟨g,⋯,⋯,⋯,⋯,o⟩ sm
theorem xB{p q z:aL}{r c r' c':Nat}(hp:aL.rect p r c)(h:ba p r c q)(hq:aL.rect q r' c')(hz:ba q r' c' z):ba p r c z:=by
 obtain⟨t,l,b,x,u,h1,h2,e,d,a,rfl⟩:=hz;exact(h.cut hp hq h1 h2 e d).turned hp a
theorem lN.part{rs:Yaa}{nms:List (List Nat)}{p q z:aL}{r c r' c':Nat}{tb tb':Tb}(E:gK rs nms p r c)(E':gK rs nms q r' c')(hs:ba p r c q)(h:lN rs nms p r c tb)(h':lN rs nms q r' c' tb')(hz:ba q r' c' z)(n:KU):aN tb (bM z,n)=aN tb' (bM z,n):=by
 have a:=xB E.hp hs E'.hp hz;cases e:aN tb (bM z,n) with
 |some v=>
  obtain⟨v',j,d⟩:=h'.min E' hz (h.key _ _ e).2.2.1;obtain⟨g,i,b⟩:=h.min E a (h'.key _ _ d).2.2.1;rw[e]at b;cases b;rw[d,Int.le_antisymm i j]
 |none=>
  cases d:aN tb' (bM z,n) with
  |none=>rfl
  |some v=>
   obtain⟨g,_,b⟩:=h.min E a (h'.key _ _ d).2.2.1;rw[e]at b;cases b
theorem lN.same{rs:Yaa}{nms:List (List Nat)}{p q:aL}{r c r' c':Nat}{tb tb':Tb}(E:gK rs nms p r c)(E':gK rs nms q r' c')(hs:ba p r c q)(hs':ba q r' c' p)(h:lN rs nms p r c tb)(h':lN rs nms q r' c' tb')(k:Ky):aN tb' k=aN tb k:=by
 cases e:aN tb k with
 |some v=>
  obtain⟨⟨z,a,b⟩,_⟩:=h.key _ _ e;have:=h.part E E' hs h' (xB E'.hp hs' E.hp a) k.2;rw[<- b]at this;rw[<- e];exact this.symm
 |none=>
  cases d:aN tb' k with
  |none=>rfl
  |some v=>
   obtain⟨⟨z,a,b⟩,_⟩:=h'.key _ _ d;have:=h.part E E' hs h' a k.2;rw[<- b]at this;rw[<- e,<- d];exact this.symm
def gm(ys:List (List Nat))(tb:Tb):Tb:=tb.filter λe=>decide (e.1.1∈ys)
theorem lM(ys:List (List Nat))(k:Ky):∀tb:Tb,aN (gm ys tb) k=if k.1∈ys then aN tb k else none
 | []=>by unfold gm aN;simp
 |e::tb=>by
  have ih:=lM ys k tb;unfold gm at ih ⊢;rw[List.filter_cons]
  by_cases h:e.1.1∈ys
  ·rw[q07 (by simpa using h),cY,cY,ih]
   by_cases hk:e.1=k
   ·rw[q07 hk,q07 hk,q07 (hk▸h)]
   ·rw[q06 hk,q06 hk]
  ·rw[q06 (by simpa using h),ih,cY]
   by_cases hk:e.1=k
   ·rw[q06 (hk▸h),q06 (hk▸h)]
   ·rw[q06 hk]
theorem BO{ys:List (List Nat)}{tb:Tb}(h:(tb.map (·.1)).Nodup):((gm ys tb).map (·.1)).Nodup:=(List.filter_sublist.map _).nodup h
theorem lN.due{rs:Yaa}{nms:List (List Nat)}{p q:aL}{r c r' c':Nat}{tb tb':Tb}{ys:List (List Nat)}(E:gK rs nms p r c)(E':gK rs nms q r' c')(hs:ba p r c q)(h:lN rs nms p r c tb)(h':lN rs nms q r' c' tb')(hy:∀y,y∈ys↔∃z,ba q r' c' z/\y=bM z)(k:Ky):aN tb' k=aN (gm ys tb) k:=by
 rw[lM]
 by_cases a:k.1∈ys
 ·obtain⟨z,b,d⟩:=(hy _).mp a
  have:=h.part E E' hs h' b k.2;rw[<- d]at this;rw[q07 a];exact this.symm
 ·rw[q06 a]
  cases e:aN tb' k with
  |none=>rfl
  |some v=>
   obtain⟨⟨z,b,d⟩,_⟩:=h'.key _ _ e;exact q0Q ((hy _).mpr ⟨z,b,d⟩) a
theorem Bz{α:Type}[DecidableEq α]:∀{ks ms:List α},ks.Nodup->(∀z∈ks,z∈ms)->ks.length<=ms.length
 | [],ms,_,_=>Kh _
 |k::ks,ms,nd,h=>by
  have hk:=h k q0B;rw[q0c]at nd;have:=Bz (ks:=ks) (ms:=ms.erase k) nd.2 (λz hz=>(List.mem_erase_of_ne (λe:z=k=>nd.1 (by rw[<- e];exact hz))).mpr (h z (J' _ hz)));rw[List.length_erase_of_mem hk]at this;have:=List.length_pos_of_mem hk;rw[J6];omega
theorem BS{H:Hp}{a b:Addr}{tb tb':Tb}(ha:Rd H a (.dT (tb.map ft)))(hb:Rd H b (.dT (tb'.map ft)))(n1:(tb.map (·.1)).Nodup)(n2:(tb'.map (·.1)).Nodup)(h:∀k,aN tb k=aN tb' k):F8 H a b (tb.map ft) (tb'.map ft):=by
 have c:∀{t1 t2:Tb},(t1.map (·.1)).Nodup->(∀k,aN t1 k=aN t2 k)->∀e∈t1,e∈t2:=fun{t1 t2} nd he e d=>by
  have:=uU nd (k:=e.1) (v:=e.2) d;rw[he]at this;exact ud this
 have len:∀{t1 t2:Tb},(t1.map (·.1)).Nodup->(∀k,aN t1 k=aN t2 k)->t1.length<=t2.length:=fun{t1 t2} nd he=>by
  have:=Bz nd (ms:=t2.map (·.1)) λz g=>by
   obtain⟨e,d,rfl⟩:=KF.mp g;exact List.mem_map_of_mem (c nd he e d)
  rw[JW,JW]at this;exact this
 refine⟨ha,hb,by rw[JW,JW];exact Nat.le_antisymm (len n1 h) (len n2 λk=>(h k).symm),λi k v e=>?_⟩;rw[JY]at e;obtain⟨x,l,n⟩:=Kk.mp e;cases n;obtain⟨j,m⟩:=List.getElem?_of_mem (c n1 h x (JZ l));exact⟨rfl,j,by rw[JY,m];rfl⟩
theorem wS{xs ys zs:K3}(h:xs.Perm zs)(h':ys.Perm zs)(s:xs.Pairwise λa b=>¬ b.cps.toList<a.cps.toList)(s':ys.Pairwise λa b=>¬ b.cps.toList<a.cps.toList):xs=ys:=by
 refine List.Perm.eq_of_pairwise (λa b _ _ d c=>?_) s s' (h.trans h'.symm);have e:a.cps.toList=b.cps.toList:=List.le_antisymm d c;cases a;cases b
 exact q0R Str.mk (Array.toList_inj.mp e)
theorem Dl{α:Type}[DecidableEq α]{xs ys:List α}(h1:xs.Nodup)(h2:ys.Nodup)(h:∀x,x∈xs↔x∈ys):xs.Perm ys:=by
 rw[List.perm_ext_iff_of_nodup h1 h2];exact h
theorem xt(y:KU):∀zs:List AP,(dL (zs.map gy) (.inr (tx y))).isSome=decide (y∈zs.map λz=>bM z.2)
 | []=>rfl
 |z::zs=>by
  have ih:=xt y zs;rw[Km]
  by_cases e:bM z.2=y
  ·rw[fG (show(gy z).1=_ by show Sum.inr (tx (bM z.2))=_;rw[e])]
   simp[e]
  ·rw[fT (λq=>e (SnM.tx_inj (Sum.inr.inj q))),ih]
   have:¬ y=bM z.2:=λq=>e q.symm;simp[this]
theorem Bo{tb:Tb}(nd:(tb.map (·.1)).Nodup){i:Nat}{en:Ky×Int}(h:tb[i]?=some en):aN (tb.take i) en.1=none:=by
 cases e:aN (tb.take i) en.1 with
 |none=>rfl
 |some v=>
  exfalso;have b:=ud e;have a:((tb.take (i+1)).map (·.1)).Nodup:=((List.take_sublist _ _).map _).nodup nd;rw[q0E,h,J7,List.nodup_append]at a;exact a.2.2 en.1 (List.mem_map_of_mem (f:=(·.1)) b) en.1 (by simp) rfl
theorem Ac{ys:List (List Nat)}{tb:Tb}(nd:(tb.map (·.1)).Nodup){i:Nat}{en:Ky×Int}(h:tb[i]?=some en)(hy:en.1.1∈ys):mP (gm ys (tb.take i)) en.1 en.2=gm ys (tb.take (i+1)):=by
 have a:aN (gm ys (tb.take i)) en.1=none:=by rw[lM,q07 hy,Bo nd h]
 unfold mP;rw[a,q06 (by simp),q0E,h];unfold gm;rw[List.filter_append];simp[hy]
theorem yu{ys:List (List Nat)}{tb:Tb}{i:Nat}{en:Ky×Int}(h:tb[i]?=some en)(hy:en.1.1∉ys):gm ys (tb.take (i+1))=gm ys (tb.take i):=by
 unfold gm;rw[q0E,h,List.filter_append];simp[hy]
abbrev qz:Stmt:=fU 73
inductive rf(K:W.Frag)(vs:List V)(H:Hp)(Q:VK)(_E:XK):Prop
 |mk (a:Addr) (ns:List Int) (_:vs=[.ref a]) (_:aM K H a (ns.map V.int)) (_:∀H',Q (.bl true) H')
theorem Ee:aH ["_law_script","_law_signs_here","_law_names_here","_law_cells","_law_rules","_law_trees","_law_more","_law_great","_law_small","_law_grammar_here","_law_told","_law_found","_law_seen_here","_law_due","_law_key","_law_texts"] ["_law_script"] (aw qz):=by walk_at "c"
theorem Ef{R:RC}{f CG:Addr}{fd:K1}(F:dw K "law" "law" qz f fd)(nb:NB mg)(zga:dF P w K mg base bD 1 "_law_cell" ["_law_script","_law_k"] (fD K))(zDb:dF P w K mg base bD 1 "_law_signs" ["_law_cell_here"] ny)(zEb:dF P w K mg base bD 1 "_law_names" ["_law_cell_here"] nA)(zFb:dF P w K mg base bD 2 "_law_grown" ["_law_cells","_law_names_here","_law_signs_here","_law_most"] (nQ K))(zGb:dF P w K mg base bD 1 "_law_noise" ["_law_cells","_law_names_here","_law_signs_here"] nG)(zWb:dF P w K mg base bD 1 "_law_amid" ["_law_rules","_law_more","_law_cells"] qt)(zsb:dF P w K mg base bD 1 "_law_picked" ["_law_trees","_law_cell_here"] (lU K))(ztb:dF P w K mg base bD 2 "_law_framed" ["_law_script","_law_picture","_law_signs_here"] (mj K))(zxa:dF P w K mg base bD 1 "_law_any_picture" ["_law_cell_here","_law_signs_here","_law_wide"] (gC K))(zub:dF P w K mg base bD 2 "_law_window" ["_law_script","_law_at","_law_picture"] (lZ K))(zjb:dF P w K mg base bD 6 "_law_grammar" ["_law_signs_here","_law_start","_law_rules"] (j5 R CG))(yal:dF P w K mg base bD 10 "table_of" ["grammar","picture"] (mq K R CG))(zXb:dF P w K mg base bD 2 "_law_seen" ["_law_picture"] (qS K))(zWa:dF P w K mg base bD 2 "_law_table" ["_law_told"] nX)(zJa:dF P w K mg base bD 1 "_law_text" ["_law_picture"] (kZ K))(yag:dF P w K mg base bD 4 "seen_in" ["picture"] (jM K))(zha:dF P w K mg base bD 1 "_law_turned" ["_law_picture","_law_t"] (eO K)):bw P w K mg base bD 11 f fd ["_law_script"] (rf K):=by
 have sc:=Ee;walk_at "f"
 ·obtain⟨a,ns,rfl,hS,q⟩:=h
  have hu:=hr.units;refine⟨_,(ae (q01 1 sc.nd (q00 zDb hr (ac (q00 zga hr (ac (ao 0) (b_ ad))) ad)))
   (ae (q01 2 sc.nd (q00 zEb hr (ac (q00 zga hr (ac (ao 0) (b_ ad))) ad)))
   (ae (dm (i:=3) ["_law_k"] [0] sc.nd rfl (Or.inl rfl) rfl  rfl (bQ.of (by kernel_rfl)) (by kernel_rfl) (bH rfl nb.range (ac (au (bd.m0 br) af (au (bd.m1 aR) (q00 zga hr (ac (ao 0) (b_ ad))) af)) ad))
    (λ_ _ _ _=>(aB (i:=0) (by show(["_law_k","_law_script"]:List Str).Nodup;decide +kernel) rfl (Or.inl rfl))) (λ_ _ _ _=>cw) (λ_ _ _ _=>(q00 zga hr (ac (ao 1) (ac (au (bd.m0 br) af (ao 0)) ad)))))
   (ae (En (q00 zFb hr (ac (ao 3) (ac (ao 2) (ac (ao 1) (b_ ad))))) (ic (n:=2) rfl (bp (q02 4 sc.nd) (bp (q02 5 sc.nd) dB))))
   (ae (dm (i:=6) ["_law_k"] [0] sc.nd rfl (Or.inl rfl) rfl  rfl (bQ.of (by kernel_rfl)) (by kernel_rfl) (bH rfl nb.range (ac (au (bd.m1 aR) (au (bd.m1 aP) (q00 zga hr (ac (ao 0) (b_ ad))) af) af) ad))
    (λ_ _ _ _=>(aB (i:=0) (by show(["_law_k","_law_script"]:List Str).Nodup;decide +kernel) rfl (Or.inl rfl))) (λ_ _ _ _=>cw) (λ_ _ _ _=>(q00 zga hr (ac (ao 1) (ac (au (bd.m0 br) af (ao 0)) ad)))))
   (ae (q01 4 sc.nd (q00 zWb hr (ac (ao 4) (ac (q00 zGb hr (ac (ao 6) (ac (ao 2) (ac (ao 1) ad)))) (ac (ao 6) ad)))))
   (ae (q01 7 sc.nd (q00 ztb hr (ac (ao 0) (ac (a_ bS (q00 zsb hr (ac (ao 5) (ac (q00 zga hr (ac (ao 0) (b_ ad))) ad))) af (λ_ _=>rfl)) (ac (ao 1) ad)))))
   (ae (bT (aT dQ (au (bd.m1 aR) (au (bd.m1 aP) (q00 zga hr (ac (ao 0) (b_ ad))) af) af) af (bf _))
   (ai (q01 7 sc.nd (q00 zxa hr (ac (au (bd.m1 aP) (q00 zga hr (ac (ao 0) (b_ ad))) af) (ac (ao 1) (b_ ad))))))
   bh)
   (ae (q01 8 sc.nd (q00 zub hr (ac (ao 0) (b_ (ac (ao 7) ad)))))
   (ae (q01 9 sc.nd (q00 zjb hr (ac (ao 1) (ac (a_ aU (ao 2) af (λ_ _=>rfl)) (ac (ao 4) ad)))))
   (ae (q01 10 sc.nd (q00 yal hr (ac (ao 9) (ac (cG bY rfl nb.list du (ac (ao 7) ad)) ad))))
   (ae (q01 11 sc.nd (q00 yal hr (ac (ao 9) (ac (cG bY rfl nb.list du (ac (ao 8) ad)) ad))))
   (ae (q01 12 sc.nd (q00 zXb hr (ac (ao 8) ad)))
   (ae (bT (PW.pt (lV (eX (fc (q00 zWa hr (ac (ao 10) ad)) λ_=>rfl)) (jA (eX (fc (q00 zWa hr (ac (ao 11) ad)) λ_=>rfl)))))
   (ai (aO iG))
   bh)
   (ae (q01 13 sc.nd u6)
   (ae (aY PassesOwn.never rfl (D2 (ao 10)) (q02 14 sc.nd)
   (ai (bT (oy (vO (KC (KH (by decide:1<=64) _) hu) (a_ bS (ao 14) af (λ_ _=>rfl)) (ao 12)) (by with_unfolding_all rfl))
   (ai (kf (KC (KH (by decide:1<=64) _) hu) (ao 13) (ao 14) (kh (KC (KH (by decide:1<=64) _) hu) (ao 10) (ao 14) (λ_ _=>rfl)) rfl))
   bh)))
   (ae (dm (i:=15) ["_law_picture"] [] sc.nd rfl (Or.inl rfl) rfl  rfl (bQ.of (by kernel_rfl)) (by kernel_rfl) (bN (q00 yag hr (ac (cG bY rfl nb.list du (ac (ao 8) ad)) ad)))
    (λ_ _ _ _=>(aB (i:=0) (by show(["_law_picture"]:List Str).Nodup;decide +kernel) rfl (Or.inl rfl))) (λ_ _ _ _=>cw) (λ_ _ _ _=>(q00 zJa hr (ac (ao 0) ad))))
   (ae (bT (PW.pt (lV (aT (Ec hu) (ao 11) (ao 13) (bf _)) (jA (aT (sF hu) (az wX rfl nb.sorted qA (ac (ao 15) ad)) (az (vY rfl) rfl nb.sorted qA (ac (ao 12) ad)) (bf _)))))
   (ai (aO iG))
   bh)
   (ai (aO (rG (Ea hu) (q00 yal hr (ac (ao 9) (ac (q00 zha hr (ac (ao 7) (ac (au (bd.m1 aR) (q00 zga hr (ac (ao 0) (b_ ad))) af) ad))) ad))) (ao 10) (bf _)))))))))))))))))))))),?_⟩
  walk_at "n";refine⟨a,ns,0,rfl,hS,⋯,λc0=>⟨c0,rfl,λls r H1 hls x4 so r1 r4 s1=>h1 _ _ ?_⟩⟩;clear h1;have u8:=s1.seq hS;walk_at "n";refine⟨a,ns,1,rfl,u8,⋯,λc1=>⟨c1,rfl,λln p H2 hln m4 p1 p4 f7 s2=>h1 _ _ ?_⟩⟩;clear h1;have sA:=s1.trans s2;have e5:=s2 _ _ x4;have u4:=sA.seq hS;have p0:p≠[]:=λe=>by rw[e]at p1;simp at p1
  have r0:r≠[]:=λe=>by rw[e]at r1;simp at r1
  walk_at "n";have S:∀{H0:Hp} {k0 m:Nat} {N:List V->Hp->Prop},aD H H0->k0+m<=900->(∀(cs:List Int) H3,cs.length=m->aD H0 H3->N (cs.map V.int) H3)->fg (wo 0 m) (iP 0) uQ (j_ (fD K) [] E0 (gI (Ce 1) (gI (Cd (zb λi j=>V.int (i+j)) (tC (V.int k0)) (Ce 0)) k9))) [none,some (V.ref a)] H0 N:=by
   intro H0 k0 m N s0 hk hN;refine lT (n:=m) (emb:=V.int) (λ_=>True) (λσ=>∃x,σ=[x,some (V.ref a)]) ⟨_,rfl⟩ ⋯ ?_ ?_
   ·rintro j hj σ H3 M1 M0 ⟨y,rfl⟩ s3 k1
    walk_at "wp";exact⟨a,ns,k0+j,by push_cast;rfl,(s0.trans s3).seq hS,⋯,λc=>k1 c _ _ trivial s3 ⟨_,rfl⟩⟩
   ·intro ys H3 hl _ s3
    exact hN ys H3 hl s3
  refine⟨a,ns,2,rfl,u4,⋯,λc2=>⟨_,rfl,⋯,⋯,?_⟩⟩;obtain⟨m2,I0⟩:∃m:Nat,c2%8=(m:Int):=⟨_,(KN ⋯).symm⟩;rw[I0,show(1+(m2:Int)).toNat=1+m2 by omega];refine S (k0:=8) sA ⋯ λL3 H3 hcl s3 l3 I2=>h1 _ _ ?_;clear h1;generalize z0:aE H3 l3 _=H4;obtain⟨s4,e4⟩:=dY I2 z0;have J:=s3.trans s4;have sB:=sA.trans J;walk_at "n";refine⟨l3,ln,ls,4,L3,p,r,rfl,e4,J _ _ m4,J _ _ e5,p0,r0,⋯,⋯,⋯,f7,so.one,λtp lr lt ts rs zs H5 r2 g hrl5 g0 s5=>?_⟩;refine⟨_,rfl,_,dZ.of r2,rfl,_,_,rfl,_,_,rfl,rfl,h1 _ _ ?_⟩;clear h1;have sC:=sB.trans s5;have a3:=J.trans s5;have e3:=a3 _ _ e5;have e8:=a3 _ _ m4;have t7:=sC.seq hS;walk_at "n";refine⟨a,ns,2,rfl,t7,⋯,λc3=>⟨_,rfl,⋯,⋯,?_⟩⟩;obtain⟨m3,G9⟩:∃m:Nat,c3/8%9=(m:Int):=⟨_,(KN ⋯).symm⟩;rw[G9,J4];refine S (k0:=36) sC ⋯ λy5 H6 hcl2 s6 l6 I1=>h1 _ _ ?_;clear h1 S;generalize z0:aE H6 l6 _=H7;obtain⟨s7,e7⟩:=dY I1 z0;have G:=s6.trans s7;walk_at "n";refine⟨l6,ln,ls,y5,p,r,rfl,e7,G _ _ e8,G _ _ e3,p0,r0,⋯,⋯,⋯,f7,so.one,λl8 B3 C2 H8 hl8 v4 hrl8 g6 s8=>?_⟩;have k4:=G.trans s8;refine⟨lr,l8,l6,ts,B3,rs,C2,y5,rfl,g.ra.up k4,v4,s8 _ _ e7,⋯,⋯,λl9 B2 D H9 hl9 f9 s9=>h1 _ _ ?_⟩;clear h1;have e1:∀x∈D,iQ p r x:=λx hx=>(f9.sub x hx).elim (g.ro x) (g6 x);have hl9':D.length<=16:=by have:=f9.len;omega
  have v0:=f9.ra;have d1:=k4.trans s9;have sD:=sC.trans d1;have g9:=g.up d1;have a0:=d1 _ _ e3;have j1:=d1 _ _ e8;have b0:=sD.seq hS;clear s6 s7 G e7 s8 k4 v4 g6 s9 g s5 a3 e3 e8 t7 r2 f9;walk_at "n";refine⟨a,ns,3,rfl,b0,⋯,λc4=>⟨lt,zs,c4,rfl,g9.ta,λe=>by rw[e]at g0;simp at g0;omega,λz hz=>⟨(g9.zt z hz).1,(g9.zt z hz).2.2⟩,λz hz=>?_⟩⟩;obtain⟨⟨x3,x2⟩,_,pa,pb,q4⟩:=g9.zt z hz;refine⟨_,rfl,_,dZ.of x3,_,rfl,a,z.lp,ls,ns,z.p,pa,pb,r,rfl,b0,x2,q4,a0,r1,⋯,so.ns,λlq pq qa qb L8 hlq e6 l a5=>h1 _ _ ?_⟩;clear h1 g9 x3 x2 q4;refine am λN1 h1=>?_;have bU:∀(lq:Addr) (pq:aL) (qa qb:Nat) (b2:Hp),aD H9 b2->b2 lq=some (.lst (aq pq))->fH pq qa qb->N1 [some (V.ref a),some (V.ref ls),some (V.ref ln),some (V.ref l3),some (V.ref l9),some (V.ref lt),some (V.ref l6),some (V.ref lq),none,none,none,none,none,none,none,none] b2:=by
   clear e6 l a5;intro lq pq qa qb b2 a4 e6 l;refine h1 _ _ ?_;clear h1;have i1:=a4.seq b0;have y7:=a4 _ _ a0;have z4:=a4 _ _ j1;have w0:=v0.up a4;clear b0 a0 j1 v0 sD d1 sC sB J sA s1 s2 u8 u4 x4 e5 m4 e4 hS s3 s4;walk_at "n";refine⟨a,lq,ns,5,pq,qa,qb,rfl,i1,⋯,e6,l,λlw qq H12 hlw I7 k6 d7=>h1 _ _ ?_⟩;clear h1;obtain⟨w1,w2,q6,o3,n8,z8,z7⟩:=k6.rect l.rc;have B:fH qq w1 w2:=⟨q6,o3,by have:=l.a6;have:=l.b6;omega,n8,by have:=l.a6;have:=l.b6;omega,k6.ns l.rc l.ns⟩;clear o3 n8 z8 z7 q6;obtain⟨l0,_⟩:∃l0:0<p.length,True:=⟨List.length_pos_iff.mpr p0,trivial⟩;have f6:p[0]∈p:=J3 l0;have y6:iz (aq p) 0=some (V.str (tx p[0])):=(show iz _ ((0:Nat):Int)=_ from bC (bc l0));generalize p[0]=st at f6 y6;have f0:∀x∈D,qV x:=λx hx=>(e1 x hx).good;have hnl:=i7 (f7 st f6);obtain⟨a7,k7,L,hnl2,hnp⟩:=CS f6 e1;have hE:gK D a7 pq qa qb:=⟨l.rc,l.a1,l.b1,l.a6,l.b6,l.ns,f0,L,⋯,⋯⟩;have x0:gK D a7 qq w1 w2:=⟨B.rc,B.a1,B.b1,B.a6,B.b6,B.ns,f0,L,⋯,⋯⟩;walk_at "n";refine⟨_,aM.of (d7 _ _ z4),_,y6,l9,ls,r,st,B2,D,rfl,d7 _ _ y7,w0.up d7,f0,⋯,⋯,⋯,yg so.ok f6 f7 ⋯ ⋯ e1,λgr dg as n1 hG k5=>h1 _ _ ?_⟩;walk_at "nc";have k2:=(d7.trans k5) _ _ e6;have f1:=k5 _ _ I7;have u5:=(d7.trans k5).seq i1;refine⟨_,.inl (aM.of k2),λlc r5=>?_⟩;generalize z0:aE n1 lc _=H14;obtain⟨f4,x9⟩:=dY r5 z0;refine⟨gr,dg,lc,r,st,as,D,a7,pq,qa,qb,rfl,hG.up f4,k7,hE,aM.of x9,λd L7 tb hd hT hB p5=>h1 _ _ ?_⟩;clear h1;have d2:=f4.trans p5;have w4:=hG.up d2;have y2:=f4.free hd;walk_at "n";refine⟨_,.inl (aM.of (d2 _ _ f1)),λq1 h4=>?_⟩;generalize z0:aE L7 q1 _=H16;obtain⟨d6,x8⟩:=dY h4 z0;refine⟨gr,dg,q1,r,st,as,D,a7,qq,w1,w2,rfl,w4.up d6,k7,x0,aM.of x8,λe H17 o6 he t6 l7 p3=>h1 _ _ ?_⟩;clear h1;have G:=d6.trans p3;have C:=d2.trans G;walk_at "n";refine⟨lw,qq,w1,w2,rfl,C _ _ f1,B,λds H18 b3 SS=>h1 _ _ ?_⟩;clear h1;have c9:=SS.sm;have l5:=hT.up (G.trans c9);have e2:=t6.up c9;have I6:=hG.up (C.trans c9);have t0:e≠d:=λz=>by rw[z,d6 _ _ hT]at he;cases he
   walk_at "n";refine⟨d,tb,rfl,l5,hB.nd,λL6 o1 h9 U=>⟨_,rfl,?_⟩⟩;rw[q06 (by simp)];have i0:cy L6 e o6:=U _ _ t0 e2;refine⟨e,o6,rfl,i0,l7.nd,λe9 o2 h7 T=>⟨_,rfl,?_⟩⟩;rw[q06 (by simp)];refine h1 _ _ ?_;clear h1;have Y:=T _ _ (Ne.symm t0) h9;have y0:n1 e=none:=(d2.trans d6).free he;have O:e9 ds=some (.dK (b3.map gy)):=T _ _ (λz=>by have:=SS.tbl;rw[z,e2]at this;cases this) (U _ _ (λz=>by have:=SS.tbl;rw[z,l5]at this;cases this) SS.tbl);have I:aD n1 e9:=λb o eb=>T b o (λz=>by rw[z,y0]at eb;cases eb) (U b o (λz=>by rw[z,y2]at eb;cases eb) ((C.trans c9) b o eb));have n5:=I _ _ k2;have n3:=I _ _ f1;have i3:=hG.up I;have u3:=I.seq u5;have G7:=SS.ndp;have hze:∀z∈b3,z.2≠[]/\bG z.2:=λz hz=>⟨(SS.each z hz).2.2.1,(SS.each z hz).2.2.2.1⟩;have a8:=SS.mem;have hzl:=SS.len;clear SS U T h9 i0 l5 e2 I6 c9 G C d2 w4 hG I hT t6 p3 d6 x8 p5 f4 x9 k2 f1 hd he r5 h4 y2 y0 z0;walk_at "n";refine λlu f8=>h1 _ _ ?_;clear h1;generalize z0:aE e9 lu _=H22;obtain⟨f3,x7⟩:=dY f8 z0;obtain⟨ys,q5⟩:∃ys,b3.map (λz=>bM z.2)=ys:=⟨_,rfl⟩;have hy:∀y,y∈ys↔∃z,ba qq w1 w2 z/\y=bM z:=λy=>by
    rw[<- q5,KF]
    constructor
    ·rintro⟨z,hz,rfl⟩
     exact⟨z.2,(a8 _).mp (List.mem_map_of_mem hz),rfl⟩
    ·rintro⟨z,hz,rfl⟩
     obtain⟨z',G8,rfl⟩:=KF.mp ((a8 _).mpr hz);exact⟨z',G8,rfl⟩
   walk_at "n";have M:=f3 _ _ Y;have l2:d≠lu:=λz=>by rw[z,f8]at Y;cases Y
   refine⟨tb.map ft,.inr ⟨o1,M,?_⟩⟩;refine xT (λi σ H'=>bj lu H22 H'/\cy H' lu (gm ys (tb.take i))/\∃x,σ=[some (V.ref a),some (V.ref ls),some (V.ref ln),some (V.ref l3),some (V.ref l9),some (V.ref lt),some (V.ref l6),some (V.ref lq),some (V.ref lw),some (V.ref gr),some (V.ref d),some (V.ref e),some (V.ref ds),some (V.ref lu),x,none]) ⟨λ_ _ _ h=>h,x7,_,rfl⟩ (λi σ H' _ h=>h.1 _ _ l2 M) ?_ ?_
   ·rintro i b kv σ H' I3 hb ⟨sm,a9,x,rfl⟩
    obtain⟨en,l1,rfl⟩:=uv I3;have l4:H' b=some (.tup (yD en.1)):=hb;have I4:=JZ l1;have hg:=xq hB.nd (sm _ _ l2 M) l4 I4;have t2:=sm _ _ (λz=>by rw[z,f8]at O;cases O) (f3 _ _ O);walk_at "wp";refine⟨_,dZ.of l4,_,rfl,_,.inl ⟨_,.inr (tx en.1.1),.inl t2,rfl,rfl⟩,?_⟩;rw[xt,q5]
    by_cases L:en.1.1∈ys
    ·rw[q07 (by simpa using L)]
     have h0:=vE.t (v:=.int en.2) (k:=iS en.1) a9 l4 (by
      have g1:(gm ys (tb.take i)).length<=(tb.take i).length:=List.length_filter_le _ _;have g2:=List.length_take_le i tb;have g3:=hB.len;have g4:=q0W;rw[JW];rw[Kw]at g1;omega)
     rw[uH,Ac hB.nd l1 L]at h0;exact⟨_,hg,_,h0,sm.put,ag⟩
    ·rw[q06 (by simpa using L)]
     exact⟨sm,by rw[yu l1 L];exact a9⟩
   ·rintro σ n0 ⟨sm,a9,x,rfl⟩
    rw[JW,Kv]at a9;refine h1 _ _ ?_;clear h1;have h8:=sm _ _ l2 M;have a2:∀{b:Addr} {o:HO},e9 b=some o->n0 b=some o:=fun{b o} h=>sm _ _ (λz=>by rw[z,f8]at h;cases h) (f3 _ _ h);have j2:=a2 O;have n2:=a2 n3;have n4:=a2 n5;have h6:=a2 h7;have i2:=i3.up λb o h=>a2 h;have u2:=(show aD e9 n0 from λb o h=>a2 h).seq u3;clear sm M Y O n3 n5 h7 i3 f3 x7;walk_at "n";refine⟨_,.inl (aM.of n2),λq0 h3=>?_⟩;generalize z0:aE n0 q0 _=H24;obtain⟨J,x6⟩:=dY h3 z0;refine⟨q0,qq,w1,w2,rfl,aM.of x6,B.rc,B.a1,B.b1,B.a6,B.b6,B.ns,λH25 l25 b4 a3 r8 m5 g5 p8 Z h2=>⟨_,rfl,⟨_,aM.of m5⟩,?_⟩⟩;refine fR (as:=b4) (emb:=λz=>V.ref z.1) (f:=λz=>some (V.str (tx (bM z.2)))) (λσ=>∃x,σ=[x]) ⟨_,rfl⟩ (λH' s=>aM.of (s _ _ m5)) ⋯ ?_ ?_
    ·rintro j z hz σ H' M1 M0 ⟨y,rfl⟩ s k1 k0
     have a8:=JZ hz;walk_at "wp";obtain⟨v1,v2,e0,_,_,B0,z9⟩:=((Z.1 z.2).mp (List.mem_map_of_mem a8)).rect B.rc;have:=B.a6;have:=B.b6;exact⟨z.1,z.2,rfl,s _ _ (g5 z a8).2,eM.of e0 ⋯ ⋯,k1 _ _ _ rfl s ⟨_,rfl⟩⟩
    ·intro L5 p2 E5 h5
     rw[i'];refine h1 _ _ ?_;clear h1;generalize z1:aE L5 E5 _=H27;obtain⟨o8,K9⟩:=dY h5 z1;have C:=J.trans (a3.trans (p2.trans o8));have r3:=Z.1;have h2:=Ag Z.2;clear Z g5 p8 m5 J a3 p2 o8 x6 h3 h5 z0 z1 r8;have t4:=C _ _ h8;have t1:=C _ _ h6;have q7:=a9.up C;have y1:=C _ _ j2;have z5:=C _ _ n4;have w6:=i2.up C;have u1:=C.seq u2;clear h8 h6 a9 j2 n4 i2 C n2;walk_at "n";refine⟨_,_,BS (.inr ⟨o2,t1⟩) (.inl q7) l7.nd (BO hB.nd) (hB.due hE x0 k6 l7 hy),b4.map (λz=>tx (bM z.2)),by rw[J9];exact aM.of K9,λn7 D8 C0 q3 r7=>?_⟩;generalize z2:aE H27 q3 _=H28;obtain⟨d5,K8⟩:=dY r7 z2;refine⟨_,d5 _ _ y1,b3.map (λz=>tx (bM z.2)),by rw[J9,J9];rfl,λz6 C3 B4 q2 r6=>?_⟩;generalize z3:aE H28 q2 _=H29;obtain⟨d4,I9⟩:=dY r6 z3;have pm:(b4.map λz=>tx (bM z.2)).Perm (b3.map λz=>tx (bM z.2)):=by
      have:=(Dl h2 G7 λy=>(r3 y).trans (a8 y).symm).map λy=>tx (bM y)
      rwa [J9,J9]at this
     obtain rfl:n7=z6:=wS (D8.trans pm) C3 C0 B4;have x5:=d4 _ _ K8;have t3:=(d5.trans d4) _ _ t4;have y9:=(d5.trans d4) _ _ z5;have w5:=w6.up (d5.trans d4);have t8:=(d5.trans d4).seq u1;refine .inl ⟨n7.map Dt.str,by rw[zJ];omega,.inl ⟨?_,?_⟩,?_⟩
     ·unfold kC;exact⟨q3,_,rfl,aM.of x5,yd⟩
     ·unfold kC;exact⟨q2,_,rfl,aM.of I9,yd⟩
     refine⟨_,rfl,?_⟩;rw[q06 (by simp)];refine h1 _ _ ?_;clear h1;walk_at "wp";refine⟨a,ns,7,rfl,t8,⋯,λc7=>⟨_,rfl,?_⟩⟩;obtain⟨u,eu,f5⟩:∃u:Nat,c7%8=(u:Int)/\u<8:=⟨(c7%8).toNat,⋯,⋯⟩;rw[eu];have a1:=l.a1;have b1:=l.b1;have a6:=l.a6;have b6:=l.b6
     refine⟨lq,pq,qa,qb,u,rfl,y9,l.rc,⋯,⋯,⋯,⋯,f5,λE1 H30 hl30 I8 o7=>?_⟩;have k3:=(ba.self l.rc (show 0<qa from a1) (show 0<qb from b1)).turned l.rc f5;obtain⟨v1,v2,e0,o5,o4,B0,z9⟩:=k3.rect l.rc;have w7:gK D a7 (turned pq u) v1 v2:=⟨e0,o5,o4,⋯,⋯,k3.ns l.rc l.ns,f0,L,⋯,⋯⟩;have y8:ba (turned pq u) v1 v2 pq:=by
      have:=(ba.self e0 o5 o4).turned e0 (i5 f5)
      rwa [iE l.rc (show 0<qa from a1) (show 0<qb from b1) f5]at this
     refine⟨gr,dg,E1,r,st,as,D,a7,_,v1,v2,rfl,w5.up o7,k7,w7,aM.of I8,λd3 H31 tb3 hd3 I5 x1 C1=>?_⟩;refine⟨_,rfl,_,_,BS (.inl I5) (.inr ⟨o1,(o7.trans C1) _ _ t3⟩) x1.nd hB.nd (hB.same hE w7 k3 y8 x1),?_⟩;exact q _
  clear h1;walk_at "wp";refine⟨a,ns,4,rfl,a5.seq b0,⋯,λc5=>⟨_,rfl,?_⟩⟩;refine b9 (λ_=>⟨a,ns,4,rfl,a5.seq b0,⋯,λc6=>⟨_,rfl,ls,c6/64,r,3,rfl,a5 _ _ a0,r1,⋯,so.ns,⋯,⋯,λE7 GW Go L4 b2 hl10 L2 w3 a4=>bU E7 GW Go L4 b2 (a5.trans a4) L2 w3⟩⟩) (λ_=>bU lq pq qa qb L8 a5 e6 l)
end
theorem bdc{n:Nat}{P:List Value->Prop}(h:∀a us,us.length=n->P (a::us)):∀us:List Value,us.length=n+1->P us:=by
 intro us e;cases us with|nil=>cases e|cons a us=>exact h a us (Nat.succ.inj e)
theorem bd0{P:List Value->Prop}(h:P []):∀us:List Value,us.length=0->P us:=by
 intro us e;cases us with|nil=>exact h|cons a us=>cases e
theorem bd1{P:List Value->Prop}(h:∀a,P [a]):∀us:List Value,us.length=1->P us:=bdc λa=>bd0 (P:=λus=>P (a::us)) (h a)
theorem bd2{P:List Value->Prop}(h:∀a b,P [a,b]):∀us:List Value,us.length=2->P us:=bdc λa=>bd1 (P:=λus=>P (a::us)) (h a)
theorem bd3{P:List Value->Prop}(h:∀a b c,P [a,b,c]):∀us:List Value,us.length=3->P us:=bdc λa=>bd2 (P:=λus=>P (a::us)) (h a)
theorem bd4{P:List Value->Prop}(h:∀a b c d,P [a,b,c,d]):∀us:List Value,us.length=4->P us:=bdc λa=>bd3 (P:=λus=>P (a::us)) (h a)
theorem bd5{P:List Value->Prop}(h:∀a b c d e,P [a,b,c,d,e]):∀us:List Value,us.length=5->P us:=bdc λa=>bd4 (P:=λus=>P (a::us)) (h a)
def FK(K:W.Frag)(x:Str)(st:Stmt)(f:Addr):Prop:=W.nsIn K mainGlobals x=some (some (.ref f))/\∃oc od osl kV doc pm an cdv ct,K.lookup f=some ⟨oc,od,.func (W.fnOf x x (dO st) (dz st) (aw st) .none kV doc pm an cdv ct),osl⟩/\W.codeIn K cdv x=true/\W.keepIn K (.ref f)=true
theorem fk_mk{K:W.Frag}{x:Str}{st:Stmt}{f:Addr}{oc:Value}{od an:K6}{osl:Array (Option Value)}{kV doc pm cdv ct:Value}(a:W.nsIn K mainGlobals x=some (some (.ref f)))(l:K.lookup f=some ⟨oc,od,.func (W.fnOf x x (dO st) (dz st) (aw st) .none kV doc pm an cdv ct),osl⟩)(c:W.codeIn K cdv x=true)(k:W.keepIn K (.ref f)=true):FK K x st f:=⟨a,oc,od,osl,kV,doc,pm,an,cdv,ct,l,c,k⟩
def MK(K:W.Frag)(x q:Str)(st:Stmt)(f:Addr):Prop:=∃oc od osl kV doc pm an cdv ct,K.lookup f=some ⟨oc,od,.func (W.fnOf x q (dO st) (dz st) (aw st) .none kV doc pm an cdv ct),osl⟩/\W.codeIn K cdv q=true/\W.keepIn K (.ref f)=true/\W.isFn K (.ref f)=true
theorem mk_mk{K:W.Frag}{x q:Str}{st:Stmt}{f:Addr}{oc:Value}{od an:K6}{osl:Array (Option Value)}{kV doc pm cdv ct:Value}(l:K.lookup f=some ⟨oc,od,.func (W.fnOf x q (dO st) (dz st) (aw st) .none kV doc pm an cdv ct),osl⟩)(c:W.codeIn K cdv q=true)(k:W.keepIn K (.ref f)=true)(i:W.isFn K (.ref f)=true):MK K x q st f:=⟨oc,od,osl,kV,doc,pm,an,cdv,ct,l,c,k,i⟩
theorem FK.cal{K:W.Frag}{x:Str}{st:Stmt}{f:Addr}{h base:Heap}{mg:K0}{P:K2}{w:K5}{CX:j0}{k:Nat}{ps:K3}{sp:Sp}(q:FK K x st f)(X:K.In h)(G:h.Ns mainGlobals mg)
  (ok:∀fd,dw K x x st f fd->mg x=some (.ref f)->W.keepIn K (.ref f)=true->dX K fd ps []->bw P w K mg base CX k f fd ps sp)
  (hb:∀(kV doc pm:Value) (an:K6) (cdv ct:Value) (us:KY),us.length=ps.length->bindArgs (W.fnOf x x (dO st) (dz st) (aw st) .none kV doc pm an cdv ct) ⟨us,[]⟩=pure (ps.zip us)):dF P w K mg base CX k x ps sp:=by
 obtain⟨a,oc,od,osl,kV,doc,pm,an,cdv,ct,l,c,d⟩:=q;have F:=df l c d;have b:=F.binds hb;exact⟨_,_,ok _ F (W.mg_of X G a) d b,W.mg_of X G a,d,b⟩
theorem all_mk{l:W.OpenLaw}{w:K5}{K:W.Frag}{h:Heap}{mg:K0}{fa f1 f2 f3 f4 f5 f6 f7 f8 f9 f10 f11 f12 f13 f14 f15 f16 f17 f18 f19 f20 f21 f22 f23 f24 f25 f26 f27 f28 f29 f30 f31 f32 f33 f34 f35 f36 f37 f38 f39 f40 f41 f42 f43 f44:Addr}(X:K.In h)(G:h.Ns mainGlobals mg)(H_:mg "law"=some (.ref fa))
  (a1:FK K "only_of" kQ f1) (a2:FK K "is_name" k8 f2) (a3:FK K "are_signs" iO f3) (a4:FK K "check_made_of" eU f4) (a5:FK K "numbers_by_name" dW f5) (a6:FK K "mirror" oP f6) (a7:FK K "column_from_below" dv f7) (a8:FK K "quarter" lx f8) (a9:FK K "turned" oM f9) (Go:FK K "after" rR f10) (HC:FK K "back" wj f11) (G7:FK K "shown" rU f12) (Jz:FK K "windows_of" gZ f13) (JC:FK K "cut_out" lG f14) (JN:FK K "cells_then_rows" dN f15) (JF:FK K "seen_in" lL f16) (ID:FK K "parted" oO f17) (Iv:FK K "parted_texts" fS f18) (Hz:FK K "cost_by" kY f19) (Ih:FK K "coming" pd f20) (Hf:FK K "lower" rL f21) (IF:FK K "put_together" fJ f22) (HN:FK K "turn_about" gX f23) (IZ:FK K "enter_turnings" d8 f24) (Hr:FK K "enter_seen" g_ f25) (G_:FK K "table_of" jZ f26) (HP:FK K "_law_cell" n_ f27) (I0:FK K "_law_whole" kK f28) (Hx:FK K "_law_signs" lP f29) (Hj:FK K "_law_names" kP f30) (HY:FK K "_law_grammar" iN f31) (Jy:FK K "_law_text" oR f32) (Jd:FK K "_law_turned" jL f33) (Is:FK K "_law_put" r9 f34) (IE:FK K "_law_grown" kR f35) (Jk:FK K "_law_noise" kH f36) (HX:FK K "_law_amid" nw f37) (IB:FK K "_law_table" lv f38) (IH:FK K "_law_window" jW f39) (HB:FK K "_law_picked" jJ f40) (IJ:FK K "_law_seen" nu f41) (JE:FK K "_law_framed" jR f42) (I8:FK K "_law_any_picture" e_ f43) (JH:FK K "law" qz f44)
  {yac zya zda zna zaa zja zba zla zca zoa zia zza zsa zua zAa zea zpa zKa zBa zCa yaa yaP yau:Addr} {ya8 ybh ya6 ybk ya5 ya9 ybb:Tok}  (yJ:W.nsIn K mainGlobals "CAPITALS"=some (some (.str "ABCDEFGHIJKLMNOPQRSTUVWXYZ" ya8))) (CV:W.nsIn K mainGlobals "SMALLS"=some (some (.str "abcdefghijklmnopqrstuvwxyz" ybh))) (pX:W.nsIn K mainGlobals "LONGEST_NAME"=some (some (.int 4 ya6))) (Fw:W.nsIn K mainGlobals "Rule"=some (some (.ref yac))) (E7:W.specialIn K (.ref yac) "__getattribute__"=some (some (.builtin "type.__getattribute__"))) (Ek:W.readsIn K yac (.type "type")=true) (mB:W.findCls K (.ref yac) (.type "type") "__init__"=some (.val (.ref zya))) (mN:MK K "__init__" "Rule.__init__" gj zya) (yn:W.nsIn K mainGlobals "CellRule"=some (some (.ref zda))) (E_:W.specialIn K (.builtin "object.__class__") "__get__"=some (some (.builtin "getset_descriptor.__get__"))) (Fb:W.takesIn K (.builtin "object.__class__")=some true) (I_:W.plainGet K zda Str.empty=true) (HV:W.hasDictIn K zda=true) (Ji:W.plainOver K zda=true) (Ij:W.findIn K (.ref zda) "__setattr__"=some (some (.builtin "object.__setattr__"))) (Hn:W.findIn K (.ref zda) "__class__"=some (some (.builtin "object.__class__"))) (Hk:W.mroIn K zda (.type "object")=some true) (II:W.findIn K (.ref zda) "name"=some none) (Jo:W.findIn K (.ref zda) "cost"=some none) (Jc:W.findIn K (.ref zda) "part_names"=some none) (JM:W.findIn K (.ref zda) "sign"=some none) (v_:W.makesIn K zda=true) (wc:W.findIn K (.ref zda) "__init__"=some (some (.ref zna))) (jh:MK K "__init__" "CellRule.__init__" gc zna) (v4:W.keepIn K (.ref zda)=true) (Ja:W.kitOne K (.ref zda) (.ref yac)=some true) (G9:W.kitOne K (.ref zda) (.ref zda)=some true) (uV:W.nsIn K mainGlobals "BesideRule"=some (some (.ref zaa))) (HR:W.plainGet K zaa Str.empty=true) (IR:W.hasDictIn K zaa=true) (Im:W.plainOver K zaa=true) (JL:W.findIn K (.ref zaa) "__setattr__"=some (some (.builtin "object.__setattr__"))) (Jq:W.findIn K (.ref zaa) "__class__"=some (some (.builtin "object.__class__"))) (IP:W.mroIn K zaa (.type "object")=some true) (Jh:W.findIn K (.ref zaa) "name"=some none) (Ig:W.findIn K (.ref zaa) "cost"=some none) (IS:W.findIn K (.ref zaa) "part_names"=some none) (Jw:W.findIn K (.ref zaa) "one"=some none) (IT:W.findIn K (.ref zaa) "other"=some none) (sh:W.makesIn K zaa=true) (r_:W.findIn K (.ref zaa) "__init__"=some (some (.ref zja))) (iA:MK K "__init__" "BesideRule.__init__" eD zja) (tL:W.keepIn K (.ref zaa)=true) (Ju:W.kitOne K (.ref zaa) (.ref yac)=some true) (He:W.kitOne K (.ref zaa) (.ref zaa)=some true) (vQ:W.nsIn K mainGlobals "AboveRule"=some (some (.ref zba))) (Je:W.plainGet K zba Str.empty=true) (HL:W.hasDictIn K zba=true) (I9:W.plainOver K zba=true) (Hw:W.findIn K (.ref zba) "__setattr__"=some (some (.builtin "object.__setattr__"))) (Hq:W.findIn K (.ref zba) "__class__"=some (some (.builtin "object.__class__"))) (Hy:W.mroIn K zba (.type "object")=some true) (Ht:W.findIn K (.ref zba) "name"=some none) (IX:W.findIn K (.ref zba) "cost"=some none) (JD:W.findIn K (.ref zba) "part_names"=some none) (Iq:W.findIn K (.ref zba) "one"=some none) (JG:W.findIn K (.ref zba) "other"=some none) (ve:W.makesIn K zba=true) (um:W.findIn K (.ref zba) "__init__"=some (some (.ref zla))) (iU:MK K "__init__" "AboveRule.__init__" fk zla) (vf:W.keepIn K (.ref zba)=true) (HK:W.kitOne K (.ref zba) (.ref yac)=some true) (G8:W.kitOne K (.ref zba) (.ref zba)=some true) (y_:W.nsIn K mainGlobals "TurnRule"=some (some (.ref zca))) (IU:W.plainGet K zca Str.empty=true) (IC:W.hasDictIn K zca=true) (HD:W.plainOver K zca=true) (HM:W.findIn K (.ref zca) "__setattr__"=some (some (.builtin "object.__setattr__"))) (HA:W.findIn K (.ref zca) "__class__"=some (some (.builtin "object.__class__"))) (IG:W.mroIn K zca (.type "object")=some true) (HZ:W.findIn K (.ref zca) "name"=some none) (Ir:W.findIn K (.ref zca) "cost"=some none) (Jt:W.findIn K (.ref zca) "part_names"=some none) (IY:W.findIn K (.ref zca) "part"=some none) (IN:W.findIn K (.ref zca) "turning"=some none) (vN:W.makesIn K zca=true) (wE:W.findIn K (.ref zca) "__init__"=some (some (.ref zoa))) (jg:MK K "__init__" "TurnRule.__init__" fZ zoa) (wg:W.keepIn K (.ref zca)=true) (HJ:W.kitOne K (.ref zca) (.ref yac)=some true) (Hc:W.kitOne K (.ref zca) (.ref zca)=some true) (uL:W.nsIn K mainGlobals "MOST_SIGNS"=some (some (.int 4 ybk))) (uF:W.nsIn K mainGlobals "MOST_RULES"=some (some (.int 24 ya5))) (uY:W.nsIn K mainGlobals "MOST_NAMES"=some (some (.int 8 ya9))) (yP:W.nsIn K mainGlobals "TURNINGS"=some (some (.int 8 ybb))) (IM:W.kitOne K (.ref zda) (.ref zaa)=some false) (HF:W.kitOne K (.ref zda) (.ref zba)=some false) (IW:W.kitOne K (.ref zda) (.ref zca)=some false) (GW:W.kitOne K (.ref zaa) (.ref zda)=some false) (Hu:W.kitOne K (.ref zaa) (.ref zba)=some false) (HQ:W.kitOne K (.ref zaa) (.ref zca)=some false) (HS:W.kitOne K (.ref zba) (.ref zda)=some false) (HE:W.kitOne K (.ref zba) (.ref zaa)=some false) (IQ:W.kitOne K (.ref zba) (.ref zca)=some false) (Jj:W.kitOne K (.ref zca) (.ref zda)=some false) (Io:W.kitOne K (.ref zca) (.ref zaa)=some false) (Jm:W.kitOne K (.ref zca) (.ref zba)=some false) (lO:W.findIn K (.ref zda) "parts"=some (some (.ref zia))) (rP:MK K "parts" "Rule.parts" fm zia) (mO:W.findIn K (.ref zda) "ways"=some (some (.ref zza))) (mJ:MK K "ways" "CellRule.ways" fY zza) (jN:W.findIn K (.ref zaa) "parts"=some (some (.ref zia))) (kF:W.findIn K (.ref zaa) "ways"=some (some (.ref zsa))) (kx:MK K "ways" "BesideRule.ways" eF zsa) (ki:W.findIn K (.ref zba) "parts"=some (some (.ref zia))) (k_:W.findIn K (.ref zba) "ways"=some (some (.ref zua))) (kO:MK K "ways" "AboveRule.ways" fj zua) (lh:W.findIn K (.ref zca) "parts"=some (some (.ref zia))) (mF:W.findIn K (.ref zca) "ways"=some (some (.ref zAa))) (mD:MK K "ways" "TurnRule.ways" fW zAa) (Bx:W.nsIn K mainGlobals "Grammar"=some (some (.ref zea))) (IV:W.plainGet K zea Str.empty=true) (Ik:W.hasDictIn K zea=true) (HI:W.plainOver K zea=true) (Hs:W.findIn K (.ref zea) "__setattr__"=some (some (.builtin "object.__setattr__"))) (Hm:W.findIn K (.ref zea) "__class__"=some (some (.builtin "object.__class__"))) (HG:W.mroIn K zea (.type "object")=some true) (Hl:W.findIn K (.ref zea) "signs"=some none) (Js:W.findIn K (.ref zea) "start"=some none) (JI:W.findIn K (.ref zea) "kept"=some none) (Ho:W.findIn K (.ref zea) "numbers"=some none) (zD:W.makesIn K zea=true) (yG:W.findIn K (.ref zea) "__init__"=some (some (.ref zpa))) (jP:MK K "__init__" "Grammar.__init__" gl zpa) (yQ:W.keepIn K (.ref zea)=true) (nU:W.findIn K (.ref zea) "rule"=some (some (.ref zKa))) (o8:MK K "rule" "Grammar.rule" gg zKa) (mv:W.findIn K (.ref zea) "rules"=some (some (.ref zBa))) (mL:MK K "rules" "Grammar.rules" fw zBa) (mI:W.findIn K (.ref zea) "names"=some (some (.ref zCa))) (mG:MK K "names" "Grammar.names" fB zCa) (FX:W.nsIn K mainGlobals "Cuts"=some (some (.ref yaa))) (EU:W.plainGet K yaa Str.empty=true) (Ey:W.hasDictIn K yaa=true) (EV:W.plainOver K yaa=true) (Es:W.findIn K (.ref yaa) "__setattr__"=some (some (.builtin "object.__setattr__"))) (EH:W.findIn K (.ref yaa) "__class__"=some (some (.builtin "object.__class__"))) (EL:W.mroIn K yaa (.type "object")=some true) (oA:W.findIn K (.ref yaa) "picture"=some none) (tU:W.findIn K (.ref yaa) "text"=some none) (jk:W.findIn K (.ref yaa) "beside_texts"=some none) (jO:W.findIn K (.ref yaa) "above_texts"=some none) (ED:W.makesIn K yaa=true) (E5:W.findIn K (.ref yaa) "__init__"=some (some (.ref yaP))) (mx:MK K "__init__" "Cuts.__init__" gn yaP) (D8:W.keepIn K (.ref yaa)=true) (jD:W.findIn K (.ref yaa) "turned_text"=some (some (.ref yau))) (jI:MK K "turned_text" "Cuts.turned_text" eG yau)
  (z0:W.nsIn K mainGlobals "len"=some none) (z1:W.nsIn K mainGlobals "range"=some none) (z2:W.nsIn K mainGlobals "list"=some none) (z3:W.nsIn K mainGlobals "tuple"=some none) (z4:W.nsIn K mainGlobals "isinstance"=some none) (z5:W.nsIn K mainGlobals "int"=some none) (z6:W.nsIn K mainGlobals "bool"=some none) (z7:W.nsIn K mainGlobals "str"=some none) (z8:W.nsIn K mainGlobals "reversed"=some none) (z9:W.nsIn K mainGlobals "all"=some none) (HW:W.nsIn K mainGlobals "enumerate"=some none) (Ie:W.nsIn K mainGlobals "zip"=some none) (JB:W.nsIn K mainGlobals "sorted"=some none) (JA:W.nsIn K mainGlobals "set"=some none) (Jp:W.nsIn K mainGlobals "dict"=some none) (HH:W.nsIn K mainGlobals "min"=some none) (Jf:W.nsIn K mainGlobals "max"=some none) (Iw:W.nsIn K mainGlobals "sum"=some none) (JJ:W.nsIn K mainGlobals "ValueError"=some none) :
  ∃fd:FuncData,(∀(s:KW) (v:Value),BindsTo s fd ⟨[v],[]⟩ [("_law_script",v)])/\∀base:Heap,K.In base->base.Ns mainGlobals mg->bw l.prog w K mg base bD 11 fa fd ["_law_script"] (rf K):=by
 obtain⟨an,oc,od,osl,kV,doc,pm,ann,cdv,ct,hl,hc,hk⟩:=JH;have e:=H_.symm.trans (W.mg_of X G an);cases e;have FL:=df hl hc hk;have nb:NB mg:=⟨W.mg_none_of X G z0,W.mg_none_of X G z1,W.mg_none_of X G z2,W.mg_none_of X G z3,W.mg_none_of X G z4,W.mg_none_of X G z5,W.mg_none_of X G z6,W.mg_none_of X G z7,W.mg_none_of X G z8,W.mg_none_of X G z9,W.mg_none_of X G HW,W.mg_none_of X G Ie,W.mg_none_of X G JB,W.mg_none_of X G JA,W.mg_none_of X G Jp,W.mg_none_of X G HH,W.mg_none_of X G Jf,W.mg_none_of X G Iw,W.mg_none_of X G JJ⟩;refine⟨W.fnOf "law" "law" (dO qz) (dz qz) (aw qz) .none kV doc pm ann cdv ct,λs v=>.of_eq rfl,λbase _ _=>?_⟩;have yaI:=W.mg_of X G yJ;have yaj:=W.mg_of X G CV;have yaB:=W.mg_of X G pX;have ybj:=W.mg_of X G Fw;obtain⟨_,_,_,_,_,_,_,_,_,mlRule___init__,mcRule___init__,zXa,mfRule___init__⟩:=mN;have zYa:=df (st:=gj) mlRule___init__ mcRule___init__ zXa;have zqc:=zYa.binds (ps:=["self","name","cost","part_names"]) λ_ _ _ _ _ _=>bd4 λ_ _ _ _=>rfl
 have ya2:BX K yac "__init__" zya:=⟨E7,Ek,mB,zXa⟩;have zRa:=W.mg_of X G yn;have zLa:jl K zda:=⟨⟨I_,HV,Ji,Ij⟩,Hn,E_,Fb,Hk⟩;obtain⟨_,_,_,_,_,_,_,_,_,mlCellRule___init__,mcCellRule___init__,zxb,mfCellRule___init__⟩:=jh;have zGa:=df (st:=gc) mlCellRule___init__ mcCellRule___init__ zxb;have zyb:=zGa.binds (ps:=["self","name","cost","sign"]) λ_ _ _ _ _ _=>bd4 λ_ _ _ _=>rfl
 have zRc:Mk K zda zna:=⟨v_,wc,mfCellRule___init__,v4⟩;have zIc:=W.mg_of X G uV;have zta:jl K zaa:=⟨⟨HR,IR,Im,JL⟩,Jq,E_,Fb,IP⟩;obtain⟨_,_,_,_,_,_,_,_,_,mlBesideRule___init__,mcBesideRule___init__,znb,mfBesideRule___init__⟩:=iA;have zva:=df (st:=eD) mlBesideRule___init__ mcBesideRule___init__ znb;have zob:=zva.binds (ps:=["self","name","cost","one","other"]) λ_ _ _ _ _ _=>bd5 λ_ _ _ _ _=>rfl
 have zBc:Mk K zaa zja:=⟨sh,r_,mfBesideRule___init__,tL⟩;have zSc:=W.mg_of X G vQ;have zDa:jl K zba:=⟨⟨Je,HL,I9,Hw⟩,Hq,E_,Fb,Hy⟩;obtain⟨_,_,_,_,_,_,_,_,_,mlAboveRule___init__,mcAboveRule___init__,zvb,mfAboveRule___init__⟩:=iU;have zEa:=df (st:=fk) mlAboveRule___init__ mcAboveRule___init__ zvb;have zwb:=zEa.binds (ps:=["self","name","cost","one","other"]) λ_ _ _ _ _ _=>bd5 λ_ _ _ _ _=>rfl
 have zJc:Mk K zba zla:=⟨ve,um,mfAboveRule___init__,vf⟩;have zwa:=W.mg_of X G y_;have zMa:jl K zca:=⟨⟨IU,IC,HD,HM⟩,HA,E_,Fb,IG⟩;obtain⟨_,_,_,_,_,_,_,_,_,mlTurnRule___init__,mcTurnRule___init__,zzb,mfTurnRule___init__⟩:=jg;have zHa:=df (st:=fZ) mlTurnRule___init__ mcTurnRule___init__ zzb;have zAb:=zHa.binds (ps:=["self","name","cost","part","turning"]) λ_ _ _ _ _ _=>bd5 λ_ _ _ _ _=>rfl
 have zTc:Mk K zca zoa:=⟨vN,wE,mfTurnRule___init__,wg⟩
 let R:RC:=⟨yac,zda,zaa,zba,zca⟩
 have rk:lC K R:=⟨zLa,zta,zDa,zMa,⟨II,Jo,Jc,JM⟩,⟨Jh,Ig,IS,Jw,IT⟩,⟨Ht,IX,JD,Iq,JG⟩,⟨HZ,Ir,Jt,IY,IN⟩,Ja,Ju,HK,HJ,G9,He,G8,Hc⟩;have yaT:=W.mg_of X G uL;have yaO:=W.mg_of X G uF;have yaz:=W.mg_of X G uY;have yak:=W.mg_of X G yP;have rk4:BG K R:=⟨λi j hi hj=>by rcases gY hi with rfl | rfl | rfl | rfl<;>rcases gY hj with rfl | rfl | rfl | rfl;exact G9;exact IM;exact HF;exact IW;exact GW;exact He;exact Hu;exact HQ;exact HS;exact HE;exact G8;exact IQ;exact Jj;exact Io;exact Jm;exact Hc⟩;obtain⟨_,_,_,_,_,_,_,_,_,mlRule_parts,mcRule_parts,zqa,mfRule_parts⟩:=rP;have zra:=df (st:=fm) mlRule_parts mcRule_parts zqa;have zFa:=zra.binds (ps:=["self"]) λ_ _ _ _ _ _=>bd1 λ_=>rfl
 have zRb:iM K zda "parts" zia:=⟨lO,mfRule_parts,zqa⟩;obtain⟨_,_,_,_,_,_,_,_,_,mlCellRule_ways,mcCellRule_ways,zZa,mfCellRule_ways⟩:=mJ;have zab:=df (st:=fY) mlCellRule_ways mcCellRule_ways zZa;have zrc:=zab.binds (ps:=["self","cuts"]) λ_ _ _ _ _ _=>bd2 λ_ _=>rfl
 have zbc:iM K zda "ways" zza:=⟨mO,mfCellRule_ways,zZa⟩;have zBb:iM K zaa "parts" zia:=⟨jN,mfRule_parts,zqa⟩;obtain⟨_,_,_,_,_,_,_,_,_,mlBesideRule_ways,mcBesideRule_ways,zPa,mfBesideRule_ways⟩:=kx;have zQa:=df (st:=eF) mlBesideRule_ways mcBesideRule_ways zPa;have zSb:=zQa.binds (ps:=["self","cuts"]) λ_ _ _ _ _ _=>bd2 λ_ _=>rfl
 have zJb:iM K zaa "ways" zsa:=⟨kF,mfBesideRule_ways,zPa⟩;have zKb:iM K zba "parts" zia:=⟨ki,mfRule_parts,zqa⟩;obtain⟨_,_,_,_,_,_,_,_,_,mlAboveRule_ways,mcAboveRule_ways,zTa,mfAboveRule_ways⟩:=kO;have zUa:=df (st:=fj) mlAboveRule_ways mcAboveRule_ways zTa;have zcc:=zUa.binds (ps:=["self","cuts"]) λ_ _ _ _ _ _=>bd2 λ_ _=>rfl
 have zTb:iM K zba "ways" zua:=⟨k_,mfAboveRule_ways,zTa⟩;have zUb:iM K zca "parts" zia:=⟨lh,mfRule_parts,zqa⟩;obtain⟨_,_,_,_,_,_,_,_,_,mlTurnRule_ways,mcTurnRule_ways,zbb,mfTurnRule_ways⟩:=mD;have zcb:=df (st:=fW) mlTurnRule_ways mcTurnRule_ways zbb;have zsc:=zcb.binds (ps:=["self","cuts"]) λ_ _ _ _ _ _=>bd2 λ_ _=>rfl
 have zdc:iM K zca "ways" zAa:=⟨mF,mfTurnRule_ways,zbb⟩;have zqd:=W.mg_of X G Bx;have zma:jl K zea:=⟨⟨IV,Ik,HI,Hs⟩,Hm,E_,Fb,HG⟩;obtain⟨_,_,_,_,_,_,_,_,_,mlGrammar___init__,mcGrammar___init__,zLb,mfGrammar___init__⟩:=jP;have zNa:=df (st:=gl) mlGrammar___init__ mcGrammar___init__ zLb;have zMb:=zNa.binds (ps:=["self","signs","start","rules"]) λ_ _ _ _ _ _=>bd4 λ_ _ _ _=>rfl
 have zhd:Mk K zea zpa:=⟨zD,yG,mfGrammar___init__,yQ⟩;have gk:Hh K zea:=⟨zma,Hl,Js,JI,Ho⟩;obtain⟨_,_,_,_,_,_,_,_,_,mlGrammar_rule,mcGrammar_rule,zpb,mfGrammar_rule⟩:=o8;have zqb:=df (st:=gg) mlGrammar_rule mcGrammar_rule zpb;have zyc:=zqb.binds (ps:=["self","k"]) λ_ _ _ _ _ _=>bd2 λ_ _=>rfl
 have ztc:iM K zea "rule" zKa:=⟨nU,mfGrammar_rule,zpb⟩;obtain⟨_,_,_,_,_,_,_,_,_,mlGrammar_rules,mcGrammar_rules,zdb,mfGrammar_rules⟩:=mL;have zeb:=df (st:=fw) mlGrammar_rules mcGrammar_rules zdb;have zuc:=zeb.binds (ps:=["self"]) λ_ _ _ _ _ _=>bd1 λ_=>rfl
 have zec:iM K zea "rules" zBa:=⟨mv,mfGrammar_rules,zdb⟩;obtain⟨_,_,_,_,_,_,_,_,_,mlGrammar_names,mcGrammar_names,zfb,mfGrammar_names⟩:=mG;have zgb:=df (st:=fB) mlGrammar_names mcGrammar_names zfb;have zvc:=zgb.binds (ps:=["self"]) λ_ _ _ _ _ _=>bd1 λ_=>rfl
 have zfc:iM K zea "names" zCa:=⟨mI,mfGrammar_names,zfb⟩;have ya7:=W.mg_of X G FX;have yae:jl K yaa:=⟨⟨EU,Ey,EV,Es⟩,EH,E_,Fb,EL⟩;obtain⟨_,_,_,_,_,_,_,_,_,mlCuts___init__,mcCuts___init__,mkCuts___init__,mfCuts___init__⟩:=mx;have ya1:=df (st:=gn) mlCuts___init__ mcCuts___init__ mkCuts___init__;have ybi:=ya1.binds (ps:=["self","picture"]) λ_ _ _ _ _ _=>bd2 λ_ _=>rfl
 have ybf:Mk K yaa yaP:=⟨ED,E5,mfCuts___init__,D8⟩;obtain⟨_,_,_,_,_,_,_,_,_,mlCuts_turned_text,mcCuts_turned_text,mkCuts_turned_text,mfCuts_turned_text⟩:=jI;have yaX:=df (st:=eG) mlCuts_turned_text mcCuts_turned_text mkCuts_turned_text;have ya4:=yaX.binds (ps:=["self","t"]) λ_ _ _ _ _ _=>bd2 λ_ _=>rfl
 have ybe:iM K yaa "turned_text" yau:=⟨jD,mfCuts_turned_text,mkCuts_turned_text⟩;have nc:DN K yaa:=⟨oA,tU,jk,jO⟩;have yad:=a1.cal (P:=l.prog) (w:=w) (base:=base) X G (λ_ F m k b=>wu F nb) (λ_ _ _ _ _ _=>bd2 λ_ _=>rfl);have yah:=a2.cal (P:=l.prog) (w:=w) (base:=base) X G (λ_ F m k b=>wb F nb yaB yaI yad) (λ_ _ _ _ _ _=>bd1 λ_=>rfl);have zfa:yF l.prog w K mg base bD 3 "Rule" "__init__" ["self","name","cost","part_names"] (dr K):=⟨_,_,_,rF zYa nb yah,ybj,ya2,zqc⟩;have zhb:kX l.prog w K mg base bD 4 "CellRule" zda ["self","name","cost","sign"] (ib K):=⟨_,_,sP zGa nb yaj yad zfa,zRa,zRc,zyb⟩;have zOa:kX l.prog w K mg base bD 4 "BesideRule" zaa ["self","name","cost","one","other"] (dt K):=⟨_,_,oY zva nb zfa,zIc,zBc,zob⟩;have zSa:kX l.prog w K mg base bD 4 "AboveRule" zba ["self","name","cost","one","other"] (dt K):=⟨_,_,pW zEa nb zfa,zSc,zJc,zwb⟩;have zib:kX l.prog w K mg base bD 4 "TurnRule" zca ["self","name","cost","part","turning"] (h_ K):=⟨_,_,rj zHa nb zfa,zwa,zTc,zAb⟩;have yaA:vC l.prog w K mg base bD 1 "parts" (oz K R):=DT ⟨_,_,_,eJ zra nb,zLa.cl,zRb,zFa⟩ ⟨_,_,_,eJ zra nb,zta.cl,zBb,zFa⟩ ⟨_,_,_,eJ zra nb,zDa.cl,zKb,zFa⟩ ⟨_,_,_,eJ zra nb,zMa.cl,zUb,zFa⟩;have yaq:=a3.cal (P:=l.prog) (w:=w) (base:=base) X G (λ_ F m k b=>rD F nb yaT yaj yad) (λ_ _ _ _ _ _=>bd1 λ_=>rfl);have yaG:=a4.cal (P:=l.prog) (w:=w) (base:=base) X G (λ_ F m k b=>kN F nb rk rk4 yaO zRa yaq yah) (λ_ _ _ _ _ _=>bd3 λ_ _ _=>rfl);have yaM:=a5.cal (P:=l.prog) (w:=w) (base:=base) X G (λ_ F m k b=>jG F nb rk yaA) (λ_ _ _ _ _ _=>bd2 λ_ _=>rfl);have zrb:kX l.prog w K mg base bD 4 "Grammar" zea ["self","signs","start","rules"] (ig K R):=⟨_,_,rm zNa nb yaz yaG yaM,zqd,zhd,zMb⟩;have yai:ji l.prog w K mg base bD 1 zea "rule" ["self","k"] (fz R zea):=⟨_,_,ri zqb nb zma.cl gk.na,zma.cl,ztc,zyc⟩;have yap:ji l.prog w K mg base bD 1 zea "rules" ["self"] (gq R zea):=⟨_,_,p_ zeb nb zma.cl gk.na,zma.cl,zec,zuc⟩;have yaV:ji l.prog w K mg base bD 1 zea "names" ["self"] (gv R zea):=⟨_,_,pS zgb nb zma.cl gk.na,zma.cl,zfc,zvc⟩;have yaK:=a6.cal (P:=l.prog) (w:=w) (base:=base) X G (λ_ F m k b=>ze F nb) (λ_ _ _ _ _ _=>bd1 λ_=>rfl);have yaD:=a7.cal (P:=l.prog) (w:=w) (base:=base) X G (λ_ F m k b=>yx F nb) (λ_ _ _ _ _ _=>bd2 λ_ _=>rfl);have yaR:=a8.cal (P:=l.prog) (w:=w) (base:=base) X G (λ_ F m k b=>v5 F nb yaD) (λ_ _ _ _ _ _=>bd1 λ_=>rfl);have zka:=a9.cal (P:=l.prog) (w:=w) (base:=base) X G (λ_ F m k b=>yS F nb yaK yaR) (λ_ _ _ _ _ _=>bd2 λ_ _=>rfl);have yaw:=Go.cal (P:=l.prog) (w:=w) (base:=base) X G (λ_ F m k b=>AW F) (λ_ _ _ _ _ _=>bd2 λ_ _=>rfl);have yax:=HC.cal (P:=l.prog) (w:=w) (base:=base) X G (λ_ F m k b=>Cw F) (λ_ _ _ _ _ _=>bd1 λ_=>rfl);have yab:=G7.cal (P:=l.prog) (w:=w) (base:=base) X G (λ_ F m k b=>Al F) (λ_ _ _ _ _ _=>bd1 λ_=>rfl);have yaU:=Jz.cal (P:=l.prog) (w:=w) (base:=base) X G (λ_ F m k b=>pQ F nb) (λ_ _ _ _ _ _=>bd2 λ_ _=>rfl);have yaS:=JC.cal (P:=l.prog) (w:=w) (base:=base) X G (λ_ F m k b=>wC F nb) (λ_ _ _ _ _ _=>bd2 λ_ _=>rfl);have yaL:=JN.cal (P:=l.prog) (w:=w) (base:=base) X G (λ_ F m k b=>jH F nb) (λ_ _ _ _ _ _=>bd1 λ_=>rfl);have yag:=JF.cal (P:=l.prog) (w:=w) (base:=base) X G (λ_ F m k b=>wq F nb yak yaU yaS zka yab yaL) (λ_ _ _ _ _ _=>bd1 λ_=>rfl);have yav:=ID.cal (P:=l.prog) (w:=w) (base:=base) X G (λ_ F m k b=>yO F nb) (λ_ _ _ _ _ _=>bd3 λ_ _ _=>rfl);have yao:=Iv.cal (P:=l.prog) (w:=w) (base:=base) X G (λ_ F m k b=>mH F nb yav yab) (λ_ _ _ _ _ _=>bd3 λ_ _ _=>rfl);have yar:kX l.prog w K mg base bD 3 "Cuts" yaa ["self","picture"] (hV K):=⟨_,_,rp ya1 nb yab yao,ya7,ybf,ybi⟩;have zIa:ji l.prog w K mg base bD 4 yaa "turned_text" ["self","t"] (fF yaa):=⟨_,_,nM yaX nb yae.cl nc zka yab,yae.cl,ybe,ya4⟩;have yaC:vC l.prog w K mg base bD 5 "ways" (oW R yaa):=DT ⟨_,_,_,(tE zab yae.cl nc zLa.cl rk.a0.2.2.2).mono (by decide),zLa.cl,zbc,zrc⟩ ⟨_,_,_,(nZ zQa yae.cl nc zta.cl ⟨rk.a1.2.2.2.1,rk.a1.2.2.2.2⟩).mono (by decide),zta.cl,zJb,zSb⟩ ⟨_,_,_,(pY zUa yae.cl nc zDa.cl ⟨rk.a2.2.2.2.1,rk.a2.2.2.2.2⟩).mono (by decide),zDa.cl,zTb,zcc⟩ ⟨_,_,_,tf zcb yae zMa.cl ⟨rk.a3.2.2.2.1,rk.a3.2.2.2.2⟩ zIa yax,zMa.cl,zdc,zsc⟩;have yaF:=Hz.cal (P:=l.prog) (w:=w) (base:=base) X G (λ_ F m k b=>wP F nb rk) (λ_ _ _ _ _ _=>bd3 λ_ _ _=>rfl);have yaJ:=Ih.cal (P:=l.prog) (w:=w) (base:=base) X G (λ_ F m k b=>y4 F nb yai yaC yaF) (λ_ _ _ _ _ _=>bd4 λ_ _ _ _=>rfl);have yaf:=Hf.cal (P:=l.prog) (w:=w) (base:=base) X G (λ_ F m k b=>zV F nb) (λ_ _ _ _ _ _=>bd3 λ_ _ _=>rfl);have yat:=IF.cal (P:=l.prog) (w:=w) (base:=base) X G (λ_ F m k b=>mK F nb rk yae.cl nc yai yaJ yaf) (λ_ _ _ _ _ _=>bd4 λ_ _ _ _=>rfl);have yaH:=HN.cal (P:=l.prog) (w:=w) (base:=base) X G (λ_ F m k b=>pU F nb rk yaw yaf) (λ_ _ _ _ _ _=>bd4 λ_ _ _ _=>rfl);have yaE:=IZ.cal (P:=l.prog) (w:=w) (base:=base) X G (λ_ F m k b=>kG F nb rk rk4 yae nc yak zwa yap yaV yar zka yat yaH) (λ_ _ _ _ _ _=>bd3 λ_ _ _=>rfl);have yaN:=Hr.cal (P:=l.prog) (w:=w) (base:=base) X G (λ_ F m k b=>pZ F nb yag yab yaE) (λ_ _ _ _ _ _=>bd4 λ_ _ _ _=>rfl);have yal:=G_.cal (P:=l.prog) (w:=w) (base:=base) X G (λ_ F m k b=>uk F nb yaN) (λ_ _ _ _ _ _=>bd2 λ_ _=>rfl);have zga:=HP.cal (P:=l.prog) (w:=w) (base:=base) X G (λ_ F m k b=>yp F nb) (λ_ _ _ _ _ _=>bd2 λ_ _=>rfl);have zCb:=I0.cal (P:=l.prog) (w:=w) (base:=base) X G (λ_ F m k b=>wO F nb) (λ_ _ _ _ _ _=>bd1 λ_=>rfl);have zDb:=Hx.cal (P:=l.prog) (w:=w) (base:=base) X G (λ_ F m k b=>wx F nb) (λ_ _ _ _ _ _=>bd1 λ_=>rfl);have zEb:=Hj.cal (P:=l.prog) (w:=w) (base:=base) X G (λ_ F m k b=>vH F nb) (λ_ _ _ _ _ _=>bd1 λ_=>rfl);have zjb:=HY.cal (P:=l.prog) (w:=w) (base:=base) X G (λ_ F m k b=>sO F nb rk gk zhb zOa zSa zib zrb) (λ_ _ _ _ _ _=>bd3 λ_ _ _=>rfl)
 have zJa:=Jy.cal (P:=l.prog) (w:=w) (base:=base) X G (λ_ F m k b=>zC F nb) (λ_ _ _ _ _ _=>bd1 λ_=>rfl);have zha:=Jd.cal (P:=l.prog) (w:=w) (base:=base) X G (λ_ F m k b=>t_ F nb) (λ_ _ _ _ _ _=>bd2 λ_ _=>rfl);have zwc:=Is.cal (P:=l.prog) (w:=w) (base:=base) X G (λ_ F m k b=>AV F nb) (λ_ _ _ _ _ _=>bd3 λ_ _ _=>rfl);have zFb:=IE.cal (P:=l.prog) (w:=w) (base:=base) X G (λ_ F m k b=>wD F nb zwc zha) (λ_ _ _ _ _ _=>bd4 λ_ _ _ _=>rfl);have zGb:=Jk.cal (P:=l.prog) (w:=w) (base:=base) X G (λ_ F m k b=>v8 F nb) (λ_ _ _ _ _ _=>bd3 λ_ _ _=>rfl);have zWb:=HX.cal (P:=l.prog) (w:=w) (base:=base) X G (λ_ F m k b=>zr F nb) (λ_ _ _ _ _ _=>bd3 λ_ _ _=>rfl);have zWa:=IB.cal (P:=l.prog) (w:=w) (base:=base) X G (λ_ F m k b=>wm F nb zCb) (λ_ _ _ _ _ _=>bd1 λ_=>rfl);have zub:=IH.cal (P:=l.prog) (w:=w) (base:=base) X G (λ_ F m k b=>uM F nb zga zha) (λ_ _ _ _ _ _=>bd3 λ_ _ _=>rfl);have zsb:=HB.cal (P:=l.prog) (w:=w) (base:=base) X G (λ_ F m k b=>tV F nb) (λ_ _ _ _ _ _=>bd2 λ_ _=>rfl);have zXb:=IJ.cal (P:=l.prog) (w:=w) (base:=base) X G (λ_ F m k b=>yr F nb zha zJa) (λ_ _ _ _ _ _=>bd1 λ_=>rfl);have ztb:=JE.cal (P:=l.prog) (w:=w) (base:=base) X G (λ_ F m k b=>ug F nb zga) (λ_ _ _ _ _ _=>bd3 λ_ _ _=>rfl);have zxa:=I8.cal (P:=l.prog) (w:=w) (base:=base) X G (λ_ F m k b=>lF F nb) (λ_ _ _ _ _ _=>bd3 λ_ _ _=>rfl);exact Ef FL nb zga zDb zEb zFb zGb zWb zsb ztb zxa zub zjb yal zXb zWa zJa yag zha
theorem walk{l:W.OpenLaw}{q:K2}{loose:K3}{XP:(Str->Option Value)->Heap->Prop}{YP:World->Heap->Prop}{d:DefRec}{K:Params->W.Frag}(hn:l.most=some 63)(hdf:d.params.defaults=[])
  (hY:∀(w:K5) (h:Heap),YP w h->(K w.params).In h)
  (F:∀(w:K5) (mg:K0) (fa:Addr) (h:Heap),(K w.params).In h->h.Ns mainGlobals mg->mg d.name=some (.ref fa) ->
   ∃fd:FuncData,(∀(s:KW) (u:Value),BindsTo s fd ⟨[u],[]⟩ [("_law_script",u)])/\∀base:Heap,(K w.params).In base->base.Ns mainGlobals mg->bw l.prog w (K w.params) mg base bD 11 fa fd ["_law_script"] (rf (K w.params))) :
  W.WalkO q loose XP YP l.row.toRowW d [] (λf vs=>PySem.call f vs):=
 L2.walk_of (n:=63) (k:=11) (x:="_law_script") (CX:=λ_=>bD) (sp:=λw=>rf (K w.params)) hn (by decide) hdf ⟨rfl,by decide,by decide⟩ hY F (λ_ _ a ns hl _ hS=>⟨a,ns,rfl,hS,λ_=>rfl⟩) λ_ _ _ _ _ z=>z
end Q56
open PySem PySem.W PyProof.Rows
local macro_rules | `(tactic| walk_at "kk")=>`(tactic| first | (refine' Q56.fk_mk ?p ?q ?r ?s;(case p=>k_is);(case q=>k_is);(case r=>k_is);(case s=>k_is)) | (refine' Q56.mk_mk ?p ?q ?r ?s;(case p=>k_is);(case q=>k_is);(case r=>k_is);(case s=>k_is)) | k_is | kernel_rfl | rfl | decide +kernel)
set_option maxRecDepth 100000 in
set_option maxHeartbeats 0 in
theorem PySem.Challenge.cw_quiltlaw_k56_whole_table_in_a_table_holds : PySem.Challenge.rw_quiltlaw_k56_whole_table_in_a_table.Holds := by
 w_on;o_law;k_head;(case hw=>w_witness2)
 k_fill
 refine Q56.walk (l:=PySem.Challenge.rw_quiltlaw_k56_whole_table_in_a_table) rfl rfl (λw h Y=>PySem.W.kIn_of Y) ?F
 case F=>
  intro w mg fa h KX G hmg
  refine' Q56.all_mk KX G hmg ?_ ?_ ?_ ?_ ?_ ?_ ?_ ?_ ?_ ?_ ?_ ?_ ?_ ?_ ?_ ?_ ?_ ?_ ?_ ?_ ?_ ?_ ?_ ?_ ?_ ?_ ?_ ?_ ?_ ?_ ?_ ?_ ?_ ?_ ?_ ?_ ?_ ?_ ?_ ?_ ?_ ?_ ?_ ?_ ?_ ?_ ?_ ?_ ?_ ?_ ?_ ?_ ?_ ?_ ?_ ?_ ?_ ?_ ?_ ?_ ?_ ?_ ?_ ?_ ?_ ?_ ?_ ?_ ?_ ?_ ?_ ?_ ?_ ?_ ?_ ?_ ?_ ?_ ?_ ?_ ?_ ?_ ?_ ?_ ?_ ?_ ?_ ?_ ?_ ?_ ?_ ?_ ?_ ?_ ?_ ?_ ?_ ?_ ?_ ?_ ?_ ?_ ?_ ?_ ?_ ?_ ?_ ?_ ?_ ?_ ?_ ?_ ?_ ?_ ?_ ?_ ?_ ?_ ?_ ?_ ?_ ?_ ?_ ?_ ?_ ?_ ?_ ?_ ?_ ?_ ?_ ?_ ?_ ?_ ?_ ?_ ?_ ?_ ?_ ?_ ?_ ?_ ?_ ?_ ?_ ?_ ?_ ?_ ?_ ?_ ?_ ?_ ?_ ?_ ?_ ?_ ?_ ?_ ?_ ?_ ?_ ?_ ?_ ?_ ?_ ?_ ?_ ?_ ?_ ?_ ?_ ?_ ?_ ?_ ?_ ?_ ?_ ?_ ?_ ?_ ?_ ?_ ?_ ?_ ?_ ?_ ?_ ?_ ?_ ?_ ?_ ?_ ?_ ?_ ?_ ?_ ?_ ?_ ?_ ?_ ?_ ?_ ?_ ?_ ?_ ?_ ?_ ?_ ?_ ?_ ?_
  all_goals (try walk_at "kk")
