import PyProof.Rows.All
import Wide.All
import OpenK.AllK
import Wide.FinOn
import KE.KStateDown
import KE.KOpsOwn
import KE.KIsAll
import KE.KSuper
import KE.KExcSuper
import KE.KExcIs
import KE.KEqNest
import KE.DataEq
import PyProof.TwoTypes
import PyProof.DictUpdate
import HandS.ForMost
import HandS.Set
import HandS.SetBool
import HandS.Strs
import HandS.More
import HandS.Words
import HandS.WordsExc
import HandS.Defaults
import HandS.Codes
import HandS.Deep
import HandS.DeepEq
import HandS.IsInst
import HandS.Style
import HandS.Property
import HandS.Flow
import HandS.Evl
import HandS.DictTup
import HandS.Conv
import HandS.Iter
import KE.GoesEnum
import KE.GoesMore
import HandS.Head0
import HandS.Head1
import HandS.Head2
import HandS.HeadEnd
import HandS.HeadHook1
import HandS.HeadHook2
import HandS.Walk
import HandS.DictComp
import HandS.OwnEq
import PyProof.InstEq
import PyProof.InstNe
import HandS.SortKw
import HandS.TupAny
import HandS.Finally
import PyProof.StrBlock2
import PyProof.Rows.SetFrom
import HandS.SetKeys
import PyProof.EqAt
import HandS.Exc
import HandS.ExcInit
import HandS.ExcField
import HandS.ExcOwn
import HandS.CallSlots
import PySem.Challenge.RW_leastguards_k08_whole_view_history
set_option Elab.async false
set_option linter.all false
set_option maxRecDepth 100000
set_option maxHeartbeats 4000000
/-! Sets of texts: filled, asked, walked, sorted. -/
namespace Txs
open PySem PySem.Spec PyProof.Rows L2

def txOf (e : Int × Value) : Str := match e.2 with | .str x _ => x | _ => Str.empty
def TxE (P : Program) (w : World) (e : Int × Value) : Prop := ∃ x t, e = ((PySem.strKind P w).hash x, Value.str x t)

/-- the entries es under the table t are the texts S -/
structure Tab (P : Program) (w : World) (es : Array (Int × Value)) (t : SetTable) (S : Str → Bool) : Prop where
  all : ∀ e ∈ es.toList, TxE P w e
  once : (es.toList.map txOf).Nodup
  just : ∀ x, S x = true ↔ x ∈ es.toList.map txOf
  few : es.size < scanBound
  fits : t.fits es.size = true
  rises : Ris t.place.toList
  known : w.params.followText "set-order" = true ∨ t.led = true
def SetT (P : Program) (w : World) (h : Heap) (a : Addr) (S : Str → Bool) (n : Nat) : Prop :=
  ∃ ob es ep t, h.get? a = some ob ∧ ob.ExactSet ∧ ob.data = .set es ep t ∧ Tab P w es t S ∧ es.size = n

section
variable {P : Program} {w : World} {h h' : Heap} {a : Addr} {S S' : Str → Bool} {n : Nat} {es : Array (Int × Value)} {t : SetTable}
theorem SetT.stay (z : SetT P w h a S n) (k : ∀ ob, h.get? a = some ob → h'.get? a = some ob) : SetT P w h' a S n :=
  let ⟨ob, es, ep, t, e, r⟩ := z
  ⟨ob, es, ep, t, k ob e, r⟩
theorem SetT.same (z : SetT P w h a S n) (q : ∀ x, S' x = S x) : SetT P w h a S' n := by
  rw [show S' = S from funext q]; exact z
theorem tx_is (x : Str) (tk : Tok) (k : Str) : (PySem.strKind P w).is k (.str x tk) = true ↔ x = k := by
  simp [PySem.strKind, Value.isStrOf]
theorem Tab.elems (T : Tab P w es t S) : ElemsOf (PySem.strKind P w) es.toList := fun e he => by
  obtain ⟨x, tk, rfl⟩ := T.all e he
  exact ⟨⟨x, (tx_is x tk x).2 rfl, rfl⟩, rfl⟩
theorem Tab.has (T : Tab P w es t S) (k : Str) : S k = true ↔ ∃ e ∈ es.toList, (PySem.strKind P w).is k e.2 = true := by
  rw [T.just k, List.mem_map]
  refine exists_congr fun e => and_congr_right fun he => ?_
  obtain ⟨x, tk, rfl⟩ := T.all e he
  exact (tx_is x tk k).symm
theorem SetT.plainSet (z : SetT P w h a S n) : h.SetOf (PySem.strKind P w) a S n :=
  let ⟨ob, es, ep, t, e, ex, d, T, c⟩ := z
  ⟨ob, es, ep, t, e, ex, d, T.elems, T.has, T.few, T.fits, c⟩
/-- the entries in another order, under another table -/
theorem Tab.turn (T : Tab P w es t S) {fs : Array (Int × Value)} {t' : SetTable} (p : fs.toList.Perm es.toList) (hf : t'.fits fs.size = true) (hr : Ris t'.place.toList) (hl : t'.led = t.led) : Tab P w fs t' S where
  all := fun e he => T.all e (p.mem_iff.mp he)
  once := (p.map txOf).nodup_iff.mpr T.once
  just := fun x => (T.just x).trans (p.map txOf).mem_iff.symm
  few := by rw [← Array.length_toList, p.length_eq, Array.length_toList]; exact T.few
  fits := hf
  rises := hr
  known := T.known.imp id fun q => hl.trans q
/-- one text more -/
theorem Tab.more (T : Tab P w es t S) {x : Str} {tk : Tok} (hx : S x = false) {fs : Array (Int × Value)} {t' : SetTable} (p : fs.toList.Perm (es.push ((PySem.strKind P w).hash x, .str x tk)).toList)
    (hb : es.size + 1 < scanBound) (hf : t'.fits fs.size = true) (hr : Ris t'.place.toList) (hl : t'.led = t.led) : Tab P w fs t' (fun y => S y || decide (y = x)) := by
  rw [Array.toList_push] at p
  have p : fs.toList.Perm (((PySem.strKind P w).hash x, Value.str x tk) :: es.toList) := p.trans (List.perm_append_singleton _ _)
  have pm : (fs.toList.map txOf).Perm (x :: es.toList.map txOf) := p.map txOf
  have nx : ¬ x ∈ es.toList.map txOf := fun q => by rw [(T.just x).2 q] at hx; cases hx
  exact {
    all := fun e he => (List.mem_cons.mp (p.mem_iff.mp he)).elim (fun z => ⟨x, tk, z⟩) (T.all e)
    once := pm.nodup_iff.mpr (List.nodup_cons.mpr ⟨nx, T.once⟩)
    just := fun y => by rw [Bool.or_eq_true, decide_eq_true_eq, T.just y, pm.mem_iff, List.mem_cons, or_comm]
    few := by rw [← Array.length_toList, p.length_eq, List.length_cons, Array.length_toList]; exact hb
    fits := hf
    rises := hr
    known := T.known.imp id fun q => hl.trans q }
end

section
variable {P : Program} {w : World} {A : Around} {E : Value → Shared → Prop} {s : Shared} {a : Addr} {S : Str → Bool} {n : Nat}
theorem put_get {h : Heap} {ob : Obj} {es fs : Array (Int × Value)} {ep : Nat} {t t' : SetTable} (e : h.get? a = some ob) (d : ob.data = .set es ep t) :
    (h.update a (Obj.putSet fs t')).get? a = some { ob with data := .set fs (ep + 1) t' } :=
  (Heap.get?_update_self (Obj.putSet fs t') e (by rw [putSet_of fs t' d]; rfl)).trans (by rw [putSet_of fs t' d])
/-- the table is stored, and laid anew where it is full -/
theorem lay_tail {g : Bool → Sem Unit} (hg : ∀ (b : Bool) (s' : Shared) (R : Unit → Shared → Prop), R () s' → wpAny (model P w) A (g b) R E s') {ob : Obj} {es fs : Array (Int × Value)} {ep : Nat} {t t' : SetTable}
    (e : s.heap.get? a = some ob) (ex : ob.ExactSet) (d : ob.data = .set es ep t) (T : Tab P w fs t' S) {dummy : Bool} {R : Option Bool → Shared → Prop}
    (k : ∀ h', Heap.SameBut a s.heap h' → SetT P w h' a S fs.size → R (some true) { s with heap := h' }) :
    wpAny (model P w) A (do
      storeSet a fs t'
      if (!dummy && t'.tooFull) = true then do
        g (relayAll t' fs (SetTable.grown fs.size)).2.2
        storeSet a (relayAll t' fs (SetTable.grown fs.size)).1 (relayAll t' fs (SetTable.grown fs.size)).2.1
        pure (some true)
      else pure (some true)) R E s := by
  have g1 := put_get (fs := fs) (t' := t') e d
  have b1 := Heap.SameBut.update s.heap a (Obj.putSet fs t')
  refine wpAny_bind (wpAny_storeSet_of e d ?_ (fits_of_scanBound T.few))
  split
  · obtain ⟨p, f, r, l⟩ : _ ∧ _ ∧ _ ∧ _ := ⟨relayAll_perm t' fs (SetTable.grown fs.size), relayAll_fits t' fs (SetTable.grown fs.size), relayAll_ris t' fs (SetTable.grown fs.size), relayAll_led t' fs (SetTable.grown fs.size)⟩
    generalize relayAll t' fs (SetTable.grown fs.size) = Y at p f r l ⊢
    obtain ⟨gs, u, b⟩ := Y
    have T2 : Tab P w gs u S := T.turn p f r l
    have sz : gs.size = fs.size := by rw [← Array.length_toList, p.length_eq, Array.length_toList]
    have d1 : ({ ob with data := .set fs (ep + 1) t' } : Obj).data = .set fs (ep + 1) t' := rfl
    refine wpAny_bind (hg _ _ _ ?_)
    refine wpAny_bind (wpAny_storeSet_of g1 d1 ?_ (fits_of_scanBound T2.few))
    exact wpAny_pure (k _ (b1.trans (Heap.SameBut.update _ a _)) ⟨_, gs, _, u, put_get g1 d1, ex, rfl, T2, sz⟩)
  · exact wpAny_pure (k _ b1 ⟨_, fs, _, t', g1, ex, rfl, T, rfl⟩)
theorem gave {b : Bool} {s' : Shared} {R : Unit → Shared → Prop} (r : R () s') : wpAny (model P w) A (match b with | true => rule "set.scan.the-table-gave-way" | false => pure ()) R E s' := by
  cases b
  · exact wpAny_pure r
  · exact wpAny_rule r
theorem add_hashed {x : Str} {tk : Tok} {R : Bool → Shared → Prop} (z : SetT P w s.heap a S n) (room : n + 1 < scanBound)
    (k : ∀ h', Heap.SameBut a s.heap h' → SetT P w h' a (fun y => S y || decide (y = x)) (if S x = true then n else n + 1) → R (!S x) { s with heap := h' }) :
    wpAny (model P w) A (setAddHashed a (.str x tk) ((PySem.strKind P w).hash x)) R E s := by
  obtain ⟨ob, es, ep, t, e, ex, d, T, rfl⟩ := z
  have kx : (PySem.strKind P w).is x (.str x tk) = true := (tx_is x tk x).2 rfl
  unfold setAddHashed setAddHashedIn
  refine wpAny_holding (wpAny_bind (wpAny_setState_of e d T.fits ?_))
  dsimp only
  rw [show byScan (Value.str x tk) es = true from byScan_of rfl T.few T.elems]
  simp only [if_true]
  unfold setAddByScan
  refine wpAny_bind (wpAny_bind (wpAny_rule (wpAny_bind (wpAny_setScan_of kx e d T.fits T.elems ?_))))
  cases fnd : es.toList.findIdx? (fun e => (PySem.strKind P w).is x e.2) with
  | some j =>
    have sx : S x = true := by
      obtain ⟨lt, at_, _⟩ := List.findIdx?_eq_some_iff_getElem.mp fnd
      exact (T.has x).2 ⟨_, List.getElem_mem lt, at_⟩
    have js : ∀ y, (S y || decide (y = x)) = true ↔ y ∈ es.toList.map txOf := fun y => by
      rw [Bool.or_eq_true, decide_eq_true_eq, ← T.just y]
      exact ⟨fun q => q.elim id fun q => q ▸ sx, .inl⟩
    have k' := k s.heap (Heap.SameBut.refl a s.heap) ⟨ob, es, ep, t, e, ex, d, ⟨T.all, T.once, js, T.few, T.fits, T.rises, T.known⟩, by rw [if_pos sx]⟩
    rw [sx] at k'
    exact wpAny_pure (wpAny_pure k')
  | none =>
    have sx : S x = false := by
      cases q : S x with
      | false => rfl
      | true =>
        obtain ⟨e', he, p⟩ := (T.has x).1 q
        have := List.findIdx?_eq_none_iff.mp fnd e' he
        rw [p] at this; cases this
    obtain ⟨p, f, r, l⟩ : _ ∧ _ ∧ _ ∧ _ := ⟨layNew_perm t es ((PySem.strKind P w).hash x) (.str x tk), layNew_fits t es ((PySem.strKind P w).hash x) (.str x tk), layNew_ris t es ((PySem.strKind P w).hash x) (.str x tk) T.rises, layNew_led t es ((PySem.strKind P w).hash x) (.str x tk)⟩
    dsimp only
    generalize layNew t es ((PySem.strKind P w).hash x) (.str x tk) = Y at p f r l ⊢
    obtain ⟨fs, u, dm, gv⟩ := Y
    dsimp only at p f r l ⊢
    have sz : fs.size = es.size + 1 := by rw [← Array.length_toList, p.length_eq, Array.length_toList, Array.size_push]
    have T2 : ∀ u' : SetTable, u'.fits fs.size = true → Ris u'.place.toList → u'.led = t.led → Tab P w fs u' (fun y => S y || decide (y = x)) := fun u' => T.more sx p room
    have fin : ∀ h', Heap.SameBut a s.heap h' → SetT P w h' a (fun y => S y || decide (y = x)) fs.size → R true { s with heap := h' } := fun h' b q => by
      have := k h' b
      rw [sx, if_neg Bool.false_ne_true, ← sz] at this
      exact this q
    refine wpAny_bind (gave ?_)
    split
    · refine wpAny_bind ?_
      rw [hashByValue_scannable 8 (x := Value.str x tk) rfl]
      refine wpAny_pure (lay_tail (fun b s' R q => gave q) e ex d ?_ fun h' b q => wpAny_pure (fin h' b q))
      first
        | exact T2 _ f r l
        | (split
           · exact T2 _ f r l
           · exact T2 _ (SetTable.fits_plain_off f) r l)
    · refine wpAny_bind (wpAny_pure ?_)
      simp only [if_true]
      exact lay_tail (fun b s' R q => gave q) e ex d (T2 _ f r l) fun h' b q => wpAny_pure (fin h' b q)
/-- a.add(x) -/
theorem add_call {x : Str} {tk : Tok} {R : Value → Shared → Prop} (z : SetT P w s.heap a S n) (room : n + 1 < scanBound)
    (k : ∀ h', Heap.SameBut a s.heap h' → SetT P w h' a (fun y => S y || decide (y = x)) (if S x = true then n else n + 1) → R .none { s with heap := h', toks := s.toks + 1 }) :
    wpAny (model P w) A (call (.builtin "set.add") [.ref a, .str x tk]) R E s := by
  refine wpAny_call_entry F.slot_set_add z.plainSet.typeIs F.entry_set_add ?_ (F.args_set_add_2 _ _)
  unfold Builtin.«set.add» Builtin.Frozenset.oneOther Builtin.Frozenset.addrOf setAdd
  simp only [List.isEmpty_nil, bind_assoc]
  refine wpAny_bind (wpAny_pure ?_)
  try dsimp only
  refine wpAny_bind (wpAny_pure ?_)
  try dsimp only
  refine wpAny_bind (wpAny_holding (wpAny_bind ((PySem.strKind P w).pyHash ((tx_is x tk x).2 rfl) ?_)))
  exact add_hashed (s := { s with toks := s.toks + 1 }) z room fun h' b q => (show wpAny _ _ (ret Value.none) _ _ _ from wpAny_pure ⟨_, rfl, k h' b q⟩)
end
end Txs


namespace Txs
open PySem PySem.Spec PyProof.Rows L2
/-- a new set's object -/
abbrev eSet (w : World) : Obj := { cls := .type "set", dict := none, data := .set #[] 0 (.fresh 0 0 (!w.params.followText "set-order")) }
theorem eSet_ok {P : Program} (w : World) {h : Heap} : SetT P w (h.push (eSet w)) h.objs.size (fun _ => false) 0 := by
  refine ⟨_, #[], 0, _, Heap.get?_push_size _ rfl, ⟨rfl, rfl, rfl⟩, rfl, ⟨by simp, by simp, by simp, by decide, rfl, List.Pairwise.nil, ?_⟩, rfl⟩
  show _ ∨ (!w.params.followText "set-order") = true
  cases w.params.followText "set-order" <;> simp
section
variable {P : Program} {w : World} {A : Around} {E : Value → Shared → Prop} {s : Shared}
/-- type(set) makes one, its one argument not looked at -/
theorem new_one (u : Value) {R : Value → Shared → Prop} (k : R (.ref s.heap.objs.size) { s with heap := s.heap.push (eSet w) }) : codeAny (model P w) A (.call (.builtin "set.__new__") ⟨[.type "set", u], []⟩) (wants R E) s := by
  refine codeAny_of_tree (show wpAny _ A.in1 (do checkBuiltinCall "set.__new__" ⟨[.type "set", u], []⟩; again (.builtin "set.__new__" ⟨[.type "set", u], []⟩)) _ _ s from wpAny_bind (wpAny_of_eq (PySem.F.newCall_set_1 u) (wpAny_pure ⟨plainId_quiet F.plain_set_new _, codeAny_builtin F.entry_set_new ?_⟩)))
  rw [Around.under_plainId F.plain_set_new _]
  have sub_ := sub_set_self
  unfold Builtin.«set.__new__» Builtin.Frozenset.newClass
  cases s
  dsimp only
  wp_walk
  refine wpAny_askSetting (wpAny_pure ?_)
  simp only [newObj]
  exact wpAny_bind (wpAny_alloc (wpAny_pure (wpAny_pure k)))
end
section
variable {P : Program} {w : World} {A : Around} {R : Result → Shared → Prop} {I : Addr} {fp wr : List Addr} {G : Array GenState → Array GenState → Prop} {n : Nat} {Y : Nat → Value → Prop} {St : Nat → Shared → Prop}
/-- the loop that fills it -/
theorem fill_loop (W : WalksS P w A.in1 I fp wr G n Y St) (D : Addr) (nf : D ∉ fp) (xs : List Str) (len : xs.length = n) (room : n + 1 < scanBound) (hv : ∀ i v, Y i v → ∃ t, v = .str (xs.getD i Str.empty) t) :
    ∀ (m i c : Nat) (s : Shared), n - i = m → i ≤ n → c ≤ i → St i s → SetT P w s.heap D (fun x => decide (x ∈ xs.take i)) c →
      (∀ s' c', c' ≤ n → Moved (D :: wr) G s s' → SetT P w s'.heap D (fun x => decide (x ∈ xs.take n)) c' → R (.ok (.ret .none)) s') → codeAny (model P w) A (.builtin "set.update.loop" ⟨[.ref D, .ref I], []⟩) R s := by
  have nw : D ∉ wr := fun z => nf (W.sub _ z)
  intro m
  induction m with
  | zero =>
    intro i c s e hi hc st T fin
    obtain rfl : i = n := by omega
    refine codeAny_builtin PyProof.Rows.F.entry_set_update_loop ?_
    rw [Around.under_plainId PyProof.Rows.F.plain_set_update_loop _]
    refine (show wpAny _ A.in1 (pyNext (.ref I) >>= _) _ _ s from wpAny_bind (W.done s _ _ st fun s' mv => ?_))
    exact (show wpAny _ A.in1 (ret Value.none) _ _ s' from wpAny_pure (fin s' c hc (mv.mono fun b z => List.mem_cons_of_mem _ z) (T.stay fun ob q => mv.heap D _ nw q)))
  | succ m ih =>
    intro i c s e hi hc st T fin
    have lt : i < n := by omega
    have li : i < xs.length := by omega
    refine codeAny_builtin PyProof.Rows.F.entry_set_update_loop ?_
    rw [Around.under_plainId PyProof.Rows.F.plain_set_update_loop _]
    refine (show wpAny _ A.in1 (pyNext (.ref I) >>= _) _ _ s from wpAny_bind (W.item i s _ _ lt st fun v s' y st' mv => ?_))
    obtain ⟨tk, rfl⟩ := hv i v y
    have T1 : SetT P w s'.heap D (fun x => decide (x ∈ xs.take i)) c := T.stay fun ob q => mv.heap D _ nw q
    generalize hx : xs.getD i Str.empty = x
    have tk1 : xs.take (i + 1) = xs.take i ++ [x] := by
      rw [List.take_succ, ← hx]; simp [List.getD, li]
    refine (show wpAny _ A.in1 (holding [Value.str x tk] (setAdd D (.str x tk)) >>= _) _ _ s' from wpAny_bind (wpAny_holding ?_))
    unfold setAdd
    refine wpAny_holding (wpAny_bind ((PySem.strKind P w).pyHash ((tx_is x tk x).2 rfl) (add_hashed (s := { s' with toks := s'.toks + 1 }) T1 (by omega) fun h' b q => ?_)))
    have q' : SetT P w h' D (fun y => decide (y ∈ xs.take (i + 1))) (if decide (x ∈ xs.take i) = true then c else c + 1) := q.same fun y => by
      rw [tk1, ← Bool.decide_or]
      exact decide_eq_decide.mpr (by simp)
    refine wpAny_pure ⟨plainId_quiet PyProof.Rows.F.plain_set_update_loop _, ih (i + 1) _ _ (by omega) lt (by split <;> omega) (W.frame _ s' _ _ st' (Nat.le_succ _) fun z hz o g => ?_) q' fun s2 c2 h2 mv2 T2 => ?_⟩
    · exact (b.2 z fun e : z = D => nf (e ▸ hz)).trans g
    · refine fin s2 c2 h2 (Moved.trans W.gtrans ((mv.mono fun b z => List.mem_cons_of_mem _ z).then_heap (Nat.le_succ _) fun z o hz g => ?_) mv2) T2
      exact (b.2 z fun e : z = D => hz (e ▸ List.mem_cons_self)).trans g
end
section
variable {P : Program} {w : World} {A : Around} {E : Value → Shared → Prop} {s : Shared}

set_option maxHeartbeats 8000000 in
theorem set_list {l : Addr} {items : Array Value} {xs : List Str} {R : Value → Shared → Prop} (hh : A.handled = none) (hl : s.heap.IsList l items) (ht : StrsAre items.toList xs) (room : xs.length + 1 < scanBound)
    (k : ∀ (h' : Heap) (tk c : Nat), c ≤ xs.length → SetT P w h' s.heap.objs.size (fun x => decide (x ∈ xs)) c → (∀ b o, s.heap.get? b = some o → h'.get? b = some o) → R (.ref s.heap.objs.size) { s with heap := h', toks := tk }) :
    wpAny (model P w) A (call (.type "set") [.ref l]) R E s := by
  obtain ⟨_, _, mro_⟩ := PySem.F.called_set.mro
  obtain ⟨made_, sub_, nt_, can_, tc_⟩ : _ ∧ _ ∧ _ ∧ _ ∧ _ := ⟨PySem.F.called_set.made, PySem.F.called_set.sub, PySem.F.called_set.notType, PySem.F.called_set.canCreate, PySem.F.typeCall_set_1 (.ref l)⟩
  have atS := Heap.get?_push_size (h := s.heap) (o := eSet w) rfl
  have newS : Shared.TypeIs { s with heap := s.heap.push (eSet w) } (.ref s.heap.objs.size) "set" := ⟨_, atS, rfl⟩
  refine wpAny_call (codeAny_of_tree (show wpAny _ _ (callAny (.type "set") _) _ _ _ from wpAny_pure ⟨Code.quiet_builtin _ (by decide +kernel), codeAny_builtin PySem.F.entry_type_call ?_⟩))
  rw [Around.under_plain (weight_type_call_type "set" [.ref l] []) rfl]
  repeat (any_goals (first | assumption | wp_step))
  refine codeAny_mono (new_one (.ref l) (E := E) (R := fun u s1 => u = .ref s.heap.objs.size ∧ s1 = { s with heap := s.heap.push (eSet w) }) ⟨rfl, rfl⟩) fun r s1 z => ?_
  rcases r with _ | (_ | _ | _ | u)
  all_goals first | exact z | exact z.elim | skip
  obtain ⟨rfl, rfl⟩ := z
  have ini_ := PySem.F.called_set.init.lookup
  have bnd_ := PySem.F.called_set.init.bind (.ref s.heap.objs.size)
  repeat (any_goals (first | assumption | wp_step))
  refine codeAny_mono (codeAny_call_builtin (R := wants (fun u s2 => u = .none ∧ ∃ h' tk c, s2 = { s with heap := h', toks := tk } ∧ c ≤ xs.length ∧ SetT P w h' s.heap.objs.size (fun x => decide (x ∈ xs)) c ∧
    ∀ b o, s.heap.get? b = some o → h'.get? b = some o) E) PySem.F.called_set.init.plain PySem.F.entry_set_init (check_set_init_1 newS ?_)) fun r s2 z => ?_
  · obtain ⟨⟨oc, od, dt, sl⟩, ol, ec, nl, ed⟩ := hl
    dsimp only at ec ed
    subst ec ed
    have ol' : (s.heap.push (eSet w)).get? l = some { cls := .type "list", dict := od, data := .seq items nl, slots := sl } := Heap.get?_push_of_some _ ol
    obtain ⟨s1_, s2_⟩ := And.intro PySem.F.sub_list_set PySem.F.sub_list_frozenset
    have nd_ : (Value.type "list" == Value.type "dict") = false := by decide
    have il : (s.heap.push (eSet w)).IsList l items := ⟨_, ol', rfl, nl, rfl⟩
    have ll : l < s.heap.objs.size := Heap.lt_size ol
    unfold Builtin.«set.__init__» noKeywords Builtin.Frozenset.updateFrom
    generalize hPI : pyIter = PI
    wp_walk
    subst hPI
    refine wpAny_pyIter_list il (wpAny_bind (wpAny_runValue ?_))
    have sz1 : (s.heap.push (eSet w)).objs.size = s.heap.objs.size + 1 := size_push' _ _
    have ne1 : l ≠ (s.heap.push (eSet w)).objs.size := by rw [sz1]; exact Nat.ne_of_lt (Nat.lt_succ_of_lt ll)
    have nf : s.heap.objs.size ∉ [(s.heap.push (eSet w)).objs.size, l] := fun z => by
      rcases List.mem_cons.mp z with z | z
      · rw [sz1] at z; exact absurd z (Nat.ne_of_lt (Nat.lt_succ_self _))
      · exact absurd (List.mem_singleton.mp z) (Nat.ne_of_gt ll)
    have len : xs.length = items.size := by rw [← StrsAre.len_eq ht, Array.length_toList]
    refine fill_loop ((Walks.list (show A.in1.in1.in1.handled = none by simp [hh]) _ l ne1 items).toS) s.heap.objs.size nf xs len (by rw [← len]; exact room)
      (fun i v e => SS.strs_at ht i v (by rw [Array.getElem?_toList]; exact e)) (items.size - 0) 0 0 _ (by omega) (Nat.zero_le _) (Nat.zero_le _) ⟨⟨_, Heap.get?_push_size _ rfl, rfl, rfl⟩, il.push _⟩ ?z0 ?z1
    case z0 => exact ((eSet_ok (P := P) w).stay fun ob e => Heap.get?_push_of_some _ e).same fun x => by simp
    case z1 =>
      intro s3 c hc mv T
      obtain ⟨h3, g3, d3, t3, o3⟩ := s3
      obtain ⟨rfl, rfl, rfl⟩ : g3 = s.gens ∧ d3 = s.drawn ∧ o3 = s.os := ⟨mv.gens, mv.drawn, mv.os⟩
      refine wpAny_pure (show wpAny _ _ (ret Value.none) _ _ _ from wpAny_pure ⟨rfl, h3, t3, c, rfl, by rw [len]; exact hc, ?_, fun b o e => ?_⟩)
      · rw [← len, List.take_length] at T; exact T
      · have lb := Heap.lt_size e
        refine mv.heap b o (fun z => ?_) (Heap.get?_push_of_some _ (Heap.get?_push_of_some _ e))
        rcases List.mem_cons.mp z with z | z
        · exact absurd z (Nat.ne_of_lt lb)
        · have z := List.mem_singleton.mp z
          rw [sz1] at z
          exact absurd z (Nat.ne_of_lt (Nat.lt_succ_of_lt lb))
  · rcases r with _ | (_ | _ | _ | u)
    all_goals first | exact z | exact z.elim | skip
    obtain ⟨rfl, h', tk, c, rfl, hc, T, kp⟩ := z
    repeat (any_goals (first | assumption | wp_step))
    exact k h' _ c hc T kp

set_option maxHeartbeats 8000000 in
theorem set_tuple {l : Addr} {items : Array Value} {xs : List Str} {R : Value → Shared → Prop} (hh : A.handled = none) (hl : s.heap.IsTuple l items) (ht : StrsAre items.toList xs) (room : xs.length + 1 < scanBound)
    (k : ∀ (h' : Heap) (tk c : Nat), c ≤ xs.length → SetT P w h' s.heap.objs.size (fun x => decide (x ∈ xs)) c → (∀ b o, s.heap.get? b = some o → h'.get? b = some o) → R (.ref s.heap.objs.size) { s with heap := h', toks := tk }) :
    wpAny (model P w) A (call (.type "set") [.ref l]) R E s := by
  obtain ⟨_, _, mro_⟩ := PySem.F.called_set.mro
  obtain ⟨made_, sub_, nt_, can_, tc_⟩ : _ ∧ _ ∧ _ ∧ _ ∧ _ := ⟨PySem.F.called_set.made, PySem.F.called_set.sub, PySem.F.called_set.notType, PySem.F.called_set.canCreate, PySem.F.typeCall_set_1 (.ref l)⟩
  have atS := Heap.get?_push_size (h := s.heap) (o := eSet w) rfl
  have newS : Shared.TypeIs { s with heap := s.heap.push (eSet w) } (.ref s.heap.objs.size) "set" := ⟨_, atS, rfl⟩
  refine wpAny_call (codeAny_of_tree (show wpAny _ _ (callAny (.type "set") _) _ _ _ from wpAny_pure ⟨Code.quiet_builtin _ (by decide +kernel), codeAny_builtin PySem.F.entry_type_call ?_⟩))
  rw [Around.under_plain (weight_type_call_type "set" [.ref l] []) rfl]
  repeat (any_goals (first | assumption | wp_step))
  refine codeAny_mono (new_one (.ref l) (E := E) (R := fun u s1 => u = .ref s.heap.objs.size ∧ s1 = { s with heap := s.heap.push (eSet w) }) ⟨rfl, rfl⟩) fun r s1 z => ?_
  rcases r with _ | (_ | _ | _ | u)
  all_goals first | exact z | exact z.elim | skip
  obtain ⟨rfl, rfl⟩ := z
  have ini_ := PySem.F.called_set.init.lookup
  have bnd_ := PySem.F.called_set.init.bind (.ref s.heap.objs.size)
  repeat (any_goals (first | assumption | wp_step))
  refine codeAny_mono (codeAny_call_builtin (R := wants (fun u s2 => u = .none ∧ ∃ h' tk c, s2 = { s with heap := h', toks := tk } ∧ c ≤ xs.length ∧ SetT P w h' s.heap.objs.size (fun x => decide (x ∈ xs)) c ∧
    ∀ b o, s.heap.get? b = some o → h'.get? b = some o) E) PySem.F.called_set.init.plain PySem.F.entry_set_init (check_set_init_1 newS ?_)) fun r s2 z => ?_
  · obtain ⟨⟨oc, od, dt, sl⟩, ol, ec, nl, ed⟩ := hl
    dsimp only at ec ed
    subst ec ed
    have ol' : (s.heap.push (eSet w)).get? l = some { cls := .type "tuple", dict := od, data := .seq items nl, slots := sl } := Heap.get?_push_of_some _ ol
    obtain ⟨s1_, s2_⟩ := And.intro PySem.F.sub_tuple_set PySem.F.sub_tuple_frozenset
    have nd_ : (Value.type "tuple" == Value.type "dict") = false := by decide
    have il : (s.heap.push (eSet w)).IsTuple l items := ⟨_, ol', rfl, nl, rfl⟩
    have ll : l < s.heap.objs.size := Heap.lt_size ol
    unfold Builtin.«set.__init__» noKeywords Builtin.Frozenset.updateFrom
    generalize hPI : pyIter = PI
    wp_walk
    subst hPI
    refine wpAny_pyIter_tuple il (wpAny_bind (wpAny_runValue ?_))
    have sz1 : (s.heap.push (eSet w)).objs.size = s.heap.objs.size + 1 := size_push' _ _
    have ne1 : l ≠ (s.heap.push (eSet w)).objs.size := by rw [sz1]; exact Nat.ne_of_lt (Nat.lt_succ_of_lt ll)
    have nf : s.heap.objs.size ∉ [(s.heap.push (eSet w)).objs.size, l] := fun z => by
      rcases List.mem_cons.mp z with z | z
      · rw [sz1] at z; exact absurd z (Nat.ne_of_lt (Nat.lt_succ_self _))
      · exact absurd (List.mem_singleton.mp z) (Nat.ne_of_gt ll)
    have len : xs.length = items.size := by rw [← StrsAre.len_eq ht, Array.length_toList]
    refine fill_loop ((Walks.tuple (show A.in1.in1.in1.handled = none by simp [hh]) _ l ne1 items).toS) s.heap.objs.size nf xs len (by rw [← len]; exact room)
      (fun i v e => SS.strs_at ht i v (by rw [Array.getElem?_toList]; exact e)) (items.size - 0) 0 0 _ (by omega) (Nat.zero_le _) (Nat.zero_le _) ⟨⟨_, Heap.get?_push_size _ rfl, rfl, rfl⟩, il.push _⟩ ?z0 ?z1
    case z0 => exact ((eSet_ok (P := P) w).stay fun ob e => Heap.get?_push_of_some _ e).same fun x => by simp
    case z1 =>
      intro s3 c hc mv T
      obtain ⟨h3, g3, d3, t3, o3⟩ := s3
      obtain ⟨rfl, rfl, rfl⟩ : g3 = s.gens ∧ d3 = s.drawn ∧ o3 = s.os := ⟨mv.gens, mv.drawn, mv.os⟩
      refine wpAny_pure (show wpAny _ _ (ret Value.none) _ _ _ from wpAny_pure ⟨rfl, h3, t3, c, rfl, by rw [len]; exact hc, ?_, fun b o e => ?_⟩)
      · rw [← len, List.take_length] at T; exact T
      · have lb := Heap.lt_size e
        refine mv.heap b o (fun z => ?_) (Heap.get?_push_of_some _ (Heap.get?_push_of_some _ e))
        rcases List.mem_cons.mp z with z | z
        · exact absurd z (Nat.ne_of_lt lb)
        · have z := List.mem_singleton.mp z
          rw [sz1] at z
          exact absurd z (Nat.ne_of_lt (Nat.lt_succ_of_lt lb))
  · rcases r with _ | (_ | _ | _ | u)
    all_goals first | exact z | exact z.elim | skip
    obtain ⟨rfl, h', tk, c, rfl, hc, T, kp⟩ := z
    repeat (any_goals (first | assumption | wp_step))
    exact k h' _ c hc T kp
end
end Txs


namespace Txs
open PySem PySem.Spec PyProof.Rows L2
/-! the set of texts as a tracked thing -/
def SetX (P : Program) (w : World) (a : Addr) (S : Str → Bool) (n : Nat) : HO := .ext fun h => SetT P w h a S n
theorem setX_new {P : Program} {w : World} {H : Hp} {h : Heap} {a : Addr} {S : Str → Bool} {n : Nat} (z : SetT P w h a S n) : ObjOk P w H h a (SetX P w a S n) :=
  ⟨z, let ⟨ob, _, _, _, e, _⟩ := z; ⟨ob, e⟩, fun _ _ q k => SetT.stay q k⟩

/-! order of texts -/
theorem lt_tri (a b : List Nat) : a < b ∨ a = b ∨ b < a := by
  rcases Decidable.em (a < b) with h | h
  · exact .inl h
  · rcases Decidable.em (b < a) with g | g
    · exact .inr (.inr g)
    · exact .inr (.inl (List.le_antisymm (List.not_lt.mp g) (List.not_lt.mp h)))
abbrev leS (a b : Str) : Prop := ¬ b.cps.toList < a.cps.toList
theorem str_ext {a b : Str} (h : a.cps.toList = b.cps.toList) : a = b := by
  cases a; cases b
  congr 1
  exact Array.toList_inj.mp h
theorem leS_anti {a b : Str} (h : leS a b) (g : leS b a) : a = b := by
  rcases lt_tri a.cps.toList b.cps.toList with z | z | z
  · exact absurd z g
  · exact str_ext z
  · exact absurd z h
theorem leS_trans {a b c : Str} (h : leS a b) (g : leS b c) : leS a c := by
  have h' : a.cps.toList ≤ b.cps.toList := List.not_lt.mp h
  have g' : b.cps.toList ≤ c.cps.toList := List.not_lt.mp g
  exact List.not_lt.mpr (List.le_trans h' g')
theorem sorted_pair : ∀ {l : List Str}, sortedS l = true → l.Pairwise leS
  | [], _ => .nil
  | [a], _ => List.pairwise_singleton _ _
  | a :: b :: l, h => by
    have h : (!ltCps b.cps.toList a.cps.toList && sortedS (b :: l)) = true := h
    rw [Bool.and_eq_true] at h
    have ih := sorted_pair h.2
    have hab : leS a b := by
      have := h.1
      rw [ltCps_eq] at this
      simpa using this
    refine List.pairwise_cons.mpr ⟨fun x hx => ?_, ih⟩
    rcases List.mem_cons.mp hx with rfl | hx
    · exact hab
    · exact leS_trans hab ((List.pairwise_cons.mp ih).1 x hx)
theorem perm_pair_eq : ∀ {l r : List Str}, l.Pairwise leS → r.Pairwise leS → l.Perm r → l = r
  | [], r, _, _, p => (List.Perm.nil_eq p)
  | a :: l, [], _, _, p => by simpa using p.length_eq
  | a :: l, b :: r, hl, hr, p => by
    obtain ⟨l1, l2⟩ := List.pairwise_cons.mp hl
    obtain ⟨r1, r2⟩ := List.pairwise_cons.mp hr
    have e : a = b := by
      rcases List.mem_cons.mp (p.mem_iff.mp (List.mem_cons_self (a := a) (l := l))) with z | z
      · exact z
      · rcases List.mem_cons.mp (p.mem_iff.mpr (List.mem_cons_self (a := b) (l := r))) with y | y
        · exact y.symm
        · exact leS_anti (l1 _ y) (r1 _ z)
    subst e
    rw [perm_pair_eq l2 r2 ((List.perm_cons a).mp p)]
/-- ascending, each once: one list alone has just these members -/
def Asc (l : List Str) : Prop := sortedS l = true ∧ l.Nodup
theorem Asc.one {l r : List Str} (h : Asc l) (g : Asc r) (e : ∀ x, x ∈ l ↔ x ∈ r) : l = r :=
  perm_pair_eq (sorted_pair h.1) (sorted_pair g.1) ((List.perm_ext_iff_of_nodup h.2 g.2).mpr e)

section
variable {X : Cx}
theorem setX_get {pins : List (Addr × Obj)} {σ : L2.St} {H : Hp} {s : Shared} {a : Addr} {S : Str → Bool} {n : Nat} (I : Inv X pins σ H s) (ha : H a = some (SetX X.prog X.w a S n)) : SetT X.prog X.w s.heap a S n := (I.hok a _ ha).1

/-! set(xs) -/
def rSetL (K : PySem.W.Frag) (P : Program) (w : World) : List V → Hp → VK → Prop := fun vs H Q => ∃ (l : Addr) (xs : List Str), vs = [.ref l] ∧ (SqL K H l (xs.map V.str) ∨ SqT K H l (xs.map V.str)) ∧ xs.length + 1 < scanBound ∧
  ∀ p c, H p = none → c ≤ xs.length → Q (.ref p) (upd H p (SetX P w p (fun x => decide (x ∈ xs)) c))
theorem cr_setL (hc : X.calm = true) : CallR X (.type "set") (rSetL X.K X.prog X.w) := by
  intro pins s σ H vs us Q I r h
  obtain ⟨l, xs, rfl, hs, room, q⟩ := h
  rw [Vals.ref1 r]
  have fin : ∀ (h' : Heap) (tk c : Nat), c ≤ xs.length → SetT X.prog X.w h' s.heap.objs.size (fun x => decide (x ∈ xs)) c → (∀ b o, s.heap.get? b = some o → h'.get? b = some o) →
      EP X pins σ Q (.ref s.heap.objs.size) { s with heap := h', toks := tk } := fun h' tk c hcn T k =>
    ⟨.ref _, upd H s.heap.objs.size (SetX X.prog X.w s.heap.objs.size (fun x => decide (x ∈ xs)) c), I.laid k (Nat.le_refl _) (setX_new T), rfl, q _ c (I.hok.fresh (Nat.le_refl _)) hcn⟩
  rcases hs with hs | hs
  · obtain ⟨its, rv, pl, _⟩ := I.list hs
    exact set_list (I.ok.hd hc) pl.isList (by simpa using strsAre_of rv) room fin
  · obtain ⟨its, rv, pl, _⟩ := I.tuple hs
    exact set_tuple (I.ok.hd hc) pl (by simpa using strsAre_of rv) room fin

/-! x in found -/
def rInX (P : Program) (w : World) (neg : Bool) : V → V → Hp → VK → Prop := fun x y H Q => ∃ z a S n, x = V.str z ∧ y = V.ref a ∧ H a = some (SetX P w a S n) ∧ Q (.bl (if neg then !S z else S z)) H
theorem op_inX : OpR X (compareOp .In) (rInX X.prog X.w false) := by
  intro pins s σ H x y v u Q I rx ry h
  obtain ⟨z, a, S, n, rfl, rfl, ha, q⟩ := h
  cases ry
  obtain ⟨tk, rfl⟩ := rx
  exact wpAny_inSet_of ((tx_is z tk z).2 rfl) rfl (setX_get I ha).plainSet ⟨.bl (S z), H, I.tok _, rfl, q⟩
theorem op_notInX : OpR X (compareOp .NotIn) (rInX X.prog X.w true) := by
  intro pins s σ H x y v u Q I rx ry h
  obtain ⟨z, a, S, n, rfl, rfl, ha, q⟩ := h
  cases ry
  obtain ⟨tk, rfl⟩ := rx
  exact wpAny_notInSet_of ((tx_is z tk z).2 rfl) rfl (setX_get I ha).plainSet ⟨.bl (!S z), H, I.tok _, rfl, q⟩

/-! sorted(found) -/
def rSortedX (P : Program) (w : World) : List V → Hp → VK → Prop := fun vs H Q => ∃ (a : Addr) (S : Str → Bool) (n : Nat), vs = [V.ref a] ∧ H a = some (SetX P w a S n) ∧ n < 64 ∧
  ∀ (ys : List Str) (p : Addr), Asc ys → (∀ x, x ∈ ys ↔ S x = true) → ys.length = n → H p = none → Q (.ref p) (upd H p (.lst (ys.map V.str)))
theorem txs_of {P : Program} {w : World} : ∀ {l : List (Int × Value)}, (∀ e ∈ l, TxE P w e) → ∀ {vs : List Value}, vs.Perm (l.map (·.2)) → ∃ xs, StrsAre vs xs ∧ xs.Perm (l.map txOf) := fun {l} h {vs} p => by
  have all : ∀ v ∈ vs, ∃ x t, v = Value.str x t := fun v hv => by
    obtain ⟨e, he, q⟩ := List.mem_map.mp (p.mem_iff.mp hv)
    obtain ⟨x, t, rfl⟩ := h e he
    exact ⟨x, t, q.symm⟩
  have g : ∀ (vs : List Value), (∀ v ∈ vs, ∃ x t, v = Value.str x t) → StrsAre vs (vs.map fun v => txOf (0, v)) := by
    intro vs
    induction vs with
    | nil => intro _; exact .nil
    | cons v vs ih =>
      intro k
      obtain ⟨x, t, rfl⟩ := k v List.mem_cons_self
      exact .cons x t (ih fun u hu => k u (List.mem_cons_of_mem _ hu))
  refine ⟨_, g vs all, ?_⟩
  have q := p.map fun v => txOf (0, v)
  rw [List.map_map] at q
  exact q
theorem cr_sortedX (hc : X.calm = true) : CallR X (.builtin "sorted") (rSortedX X.prog X.w) := by
  intro pins s σ H vs us Q I r h
  obtain ⟨a, S, n, rfl, ha, small, q⟩ := h
  obtain ⟨ob, es, ep, t, e, ex, d, T, rfl⟩ := setX_get I ha
  rw [Vals.ref1 r]
  refine Calls.call_function_entry kind_sorted plain_sorted entry_sorted (args_sorted1 _) ?_
  unfold Builtin.«sorted»
  refine wpAny_bind (m := checkCount "sorted" 1 1 _) (wpAny_pure (wpAny_bind (collect_set (A := X.A.in1) (I.ok.hd hc) ⟨ob, e, ex.1, d⟩ T.fits T.few T.rises T.known fun s1 out kp sz gs os pm => ?_)))
  obtain ⟨xs, tx, px⟩ := txs_of T.all pm
  have ol : out.length = es.size := by rw [pm.length_eq, List.length_map, Array.length_toList]
  refine wpAny_bind (wpAny_newList ?_ (by rw [ol, sizeLine_eq]; omega))
  have at1 : (s1.heap.push (seqObj "list" out.toArray 0)).get? s1.heap.objs.size = some (seqObj "list" out.toArray 0) := Heap.get?_push_size _ rfl
  refine wpAny_bind (wpAny_holding (wpAny_call_entry slot_list_sort ⟨_, at1, rfl⟩ entry_list_sort (list_sort_treeK strKind_oneLt at1 tx.keysOf (fun v₁ v₂ rest e' => keyKind_strs (by rw [← e']; exact tx)) (by rw [ol]; exact small) fun st pp so => ⟨_, rfl, ?_⟩) (args_list_sort _)))
  obtain ⟨ys, ty, py, sy⟩ := sorted_out_str tx pp so
  obtain ⟨c, at2⟩ := sortedHeap_at (vs := out) (out := (arrOf st).map (·.2)) at1
  have pk : ys.Perm (es.toList.map txOf) := py.trans px
  have yl : ys.length = es.size := by rw [pk.length_eq, List.length_map, Array.length_toList]
  have kp2 : ∀ b u, s.heap.get? b = some u → (sortedHeap (s1.heap.push (seqObj "list" out.toArray 0)) s1.heap.objs.size out ((arrOf st).map (·.2))).get? b = some u := fun b u z => by
    have z1 := kp b u z
    have lt := Heap.lt_size z1
    rw [sortedHeap_old (Nat.ne_of_lt lt) (by rw [size_push']; exact Nat.lt_succ_of_lt lt)]
    exact Heap.get?_push_of_some _ z1
  have hn : H s1.heap.objs.size = none := I.hok.fresh sz
  refine wpAny_pure ⟨_, rfl, ⟨.ref s1.heap.objs.size, upd H s1.heap.objs.size (.lst (ys.map V.str)), ?_, rfl, q ys _ ⟨sy, pk.nodup_iff.mpr T.once⟩ (fun x => by rw [pk.mem_iff, ← T.just x]) yl hn⟩⟩
  have ok : ObjOk X.prog X.w (upd H s1.heap.objs.size (.lst (ys.map V.str))) (sortedHeap (s1.heap.push (seqObj "list" out.toArray 0)) s1.heap.objs.size out ((arrOf st).map (·.2))) s1.heap.objs.size (.lst (ys.map V.str)) :=
    ⟨by rw [List.length_map, yl, sizeLine_eq]; omega, ((arrOf st).map (·.2)).toList, c, vals_of_strs ty, at2⟩
  exact I.call' (ch := []) os (Un.laid kp2 sz hn) (I.hok.laid kp2 sz ok) (by show AllBare s1.gens; rw [gs]; exact I.bare) (fun _ z => nomatch z)
end
end Txs


namespace Txs
open PySem PySem.Spec PyProof.Rows L2
/-! {elt for target in iter if ..} whose elements are texts -/
/-- how a turn hands its text on: D the set, Nx what follows -/
def inTo (P : Program) (w : World) (D : Addr) (Nx : Hp → Prop) : VK := fun y H => ∃ (x : Str) (S : Str → Bool) (n : Nat), y = .str x ∧ H D = some (SetX P w D S n) ∧ n + 1 < scanBound ∧
  Nx (upd H D (SetX P w D (fun z => S z || decide (z = x)) (if S x = true then n else n + 1)))
def turnX (P : Program) (w : World) (g : TG) (tt : TT) (te : TE) (σ : L2.St) (vs : List Nat) (D : Addr) (Nx : Hp → Prop) (x : V) (H : Hp) : Prop :=
  g x (wipe σ vs) H fun σ2 H2 => wipe σ2 vs = wipe σ vs ∧ tt σ2 H2 fun b H3 => if b = true then te σ2 H3 (inTo P w D Nx) else Nx H3
def tScX (P : Program) (w : World) (wi : TI) (g : TG) (tt : TT) (te : TE) (vs : List Nat) : TE := fun σ H Q => wi σ H fun J H1 => ∀ D, H1 D = none → ∃ W : Nat → Nat → Hp → Prop, (∃ m, W 0 m (upd H1 D (SetX P w D (fun _ => false) 0))) ∧
  ∀ i m H, W i m H → (J.stop i H ∧ Q (.ref D) H) ∨ (J.go i H ∧ ∃ Nx : Hp → Prop, (∀ H', Nx H' → ∃ m', m' < m ∧ W (i + 1) m' H') ∧ ∀ x H', J.yld i H x H' → turnX P w g tt te σ vs D Nx x H')
section
variable {X : Cx}
theorem add_in {pins : List (Addr × Obj)} {σ : L2.St} {H : Hp} {s : Shared} {E : Value → Shared → Prop} {D : Addr} {u : Value} {v : V} {Nx : Hp → Prop} {R : Value → Shared → Prop} (I : Inv X pins σ H s) (r : RelV v u) (h : inTo X.prog X.w D Nx v H)
    (k : ∀ s' H', Inv X pins σ H' s' → Nx H' → R .none s') : wpAny (model X.prog X.w) X.A (call (.builtin "set.add") [.ref D, u]) R E s := by
  obtain ⟨x, S, n, rfl, hD, room, nx⟩ := h
  obtain ⟨tk, rfl⟩ := r
  refine add_call (setX_get I hD) room fun h' sb T => k _ _ (I.write (e := D) (t' := s.toks + 1) (by rw [hD]; trivial) (.inl rfl) (fun b ob ne z => (sb.2 b ne).trans z) ?_ (setX_new T)) nx
  obtain ⟨ob, _, _, _, z, _⟩ := T
  exact ⟨ob, z⟩
theorem pe_scX {elt tg iter : Expr} {ifs : List Expr} {scope : Scope} {own : List (PySem.Str × Nat)} {pos : Pos} {wi : TI} {g : TG} {tt : TT} {te : TE} (hc : X.calm = true) (hN : X.N.Nodup) (hi : PI X tg iter wi) (ok : BlkOk X.N X.env.scope scope own)
    (hg : ∀ s H C cl fp, PG (X.blk s H scope (compEnvC scope cl C X.env) fp) tg g) (ht : ∀ s H C cl fp, PTs (X.blk s H scope (compEnvC scope cl C X.env) fp) ifs tt)
    (he : ∀ s H C cl fp, PE (X.blk s H scope (compEnvC scope cl C X.env) fp) elt te) (hs : ∀ x, foldedSetIterable iter X.env x = pure x := by intro _; rfl) :
    PE X (.SetComp elt [⟨tg, iter, ifs, 0⟩] scope pos) (tScX X.prog X.w wi g tt te (own.map (·.2))) := by
  refine ⟨fun pins s σ H Q I h => ?_⟩
  have frees : ∀ y ∈ scope.names, y.2 = .free → ∃ c, X.env.cells.lookup y.1 = some c := fun y hy e => (ok.free y hy e).elim (fun k => I.ok.has _ (.inl k)) fun k => I.ok.has _ (.inr k)
  rw [PpSet.eval_SetComp]
  refine wpAny_comprehension_free rfl hs (closure_ok frees) ok.kind (fun y hy e => by rw [ok.uniq y hy, e]) (thn (hi.run pins s σ H _ I h) fun xv s1 hx => thn hx fun itv s2 ⟨it, fp, tn, J, H2, e, I2, T, st2, f2, q⟩ => ?_)
  subst e
  refine PpSet.newSet_ok (newEnv_comp ?_)
  generalize hD : s2.heap.objs.size = D
  have Dn : H2 D = none := I2.hok.fresh (Nat.le_of_eq hD)
  obtain ⟨W, ⟨m0, w0⟩, turn⟩ := q D Dn
  -- the state with the new, empty set
  generalize es3 : ({ s2 with heap := s2.heap.push (eSet X.w) } : Shared) = s3
  have hp3 : s3.heap = s2.heap.push (eSet X.w) := by rw [← es3]
  have I3 : Inv X pins σ (upd H2 D (SetX X.prog X.w D (fun _ => false) 0)) s3 := by
    rw [← es3]
    exact I2.laid (t' := s2.toks) (fun b o z => Heap.get?_push_of_some _ z) (Nat.le_of_eq hD) (by rw [← hD]; exact setX_new (eSet_ok X.w))
  have f3 : ∀ b ∈ fp, FpOk X pins (upd H2 D (SetX X.prog X.w D (fun _ => false) 0)) b ∧ b < s3.heap.objs.size := fun b hb => by
    obtain ⟨o, z, _⟩ := T.obj _ _ st2 b hb
    have lt := Heap.lt_size z
    exact ⟨⟨(upd_ne (by rw [← hD]; exact Nat.ne_of_lt lt)).trans (f2 b hb).1, (f2 b hb).2⟩, by rw [hp3, Heap.size_push]; exact Nat.lt_succ_of_lt lt⟩
  have st3 : tn 0 s3.heap := T.keep _ _ _ st2 fun b _ o z => by rw [hp3]; exact Heap.get?_push_of_some _ z
  -- the block's own context
  have I4 := block_start I3 ok hN f3
  generalize hH3 : upd H2 D (SetX X.prog X.w D (fun _ => false) 0) = H3 at I3 I4 w0 f3
  have n3 : ∀ b ∈ fp, H3 b = none := fun b hb => (f3 b hb).1.1
  show codeAny _ _ (.compStart (.SetComp elt [⟨tg, iter, ifs, 0⟩] scope pos) 0 (.ref it) (.ref D) (compEnvC scope (cellsFrom (s3.heap.objs.size + 1) scope.names (cloFrom X.env.cells scope.names [])) s3.heap.objs.size X.env)) (compPost (model X.prog X.w) X.A X.xe none (EP X pins σ Q) (.ref D) s3.heap.objs.size)
    { s3 with heap := pushCells (s3.heap.push { cls := .type "dict", data := .dict #[] }) scope.names }
  have pg := hg s3 H3 s3.heap.objs.size (cellsFrom (s3.heap.objs.size + 1) scope.names (cloFrom X.env.cells scope.names [])) fp
  have pt := ht s3 H3 s3.heap.objs.size (cellsFrom (s3.heap.objs.size + 1) scope.names (cloFrom X.env.cells scope.names [])) fp
  have pe := he s3 H3 s3.heap.objs.size (cellsFrom (s3.heap.objs.size + 1) scope.names (cloFrom X.env.cells scope.names [])) fp
  generalize hce : compEnvC scope (cellsFrom (s3.heap.objs.size + 1) scope.names (cloFrom X.env.cells scope.names [])) s3.heap.objs.size X.env = ce at I4 pg pt pe ⊢
  have cL : ce.locals = s3.heap.objs.size := by rw [← hce]; rfl
  generalize es4 : ({ s3 with heap := pushCells (s3.heap.push { cls := .type "dict", data := .dict #[] }) scope.names } : Shared) = s4 at I4 ⊢
  have st4 : tn 0 s4.heap := T.keep _ _ _ st3 fun b _ o z => by rw [← es4]; exact pushCells_keeps _ _ _ _ (Heap.get?_push_of_some _ z)
  let B : Cx := X.blk s3 H3 scope ce fp
  have fpk : ∀ {σ' : L2.St} {H' : Hp} {s' : Shared}, Inv B [] σ' H' s' → (∀ b ∈ fp, H' b = none) → ∀ b ∈ fp, FpOk B [] H' b := fun I' hn b hb =>
    ⟨hn b hb, (I'.ok.exf b hb).1, I'.ok.exfs b hb, .inl hb, fun x c z => (I'.ok.exf b hb).2 x c z, fun p hp => absurd (show p ∈ ([] : List (Addr × Obj)) ++ [] from hp) (by simp)⟩
  let Z : Nat → Shared → Prop := fun n s' => ∃ i H', Inv B [] (wipe σ (own.map (·.2))) H' s' ∧ tn i s'.heap ∧ (∀ b ∈ fp, H' b = none) ∧ W i n H'
  have loop : codeAny (model X.prog X.w) X.A (.compLoop (.SetComp elt [⟨tg, iter, ifs, 0⟩] scope pos) 0 (.ref it) (.ref D) ce) (compPost (model X.prog X.w) X.A X.xe none (EP X pins σ Q) (.ref D) s3.heap.objs.size) s4 := by
    refine PpSet.compLoopS_any Z ?_ m0 ⟨0, H3, I4, st4, n3, w0⟩
    rintro n s5 ⟨i, H5, I5, st5, n5, w5⟩
    rcases turn i n H5 w5 with ⟨stop, qq⟩ | ⟨go, Nx, hNx, step⟩
    · refine thnF (T.done B rfl rfl rfl hc i [] s5 _ H5 (fun _ _ => False) I5 (fpk I5 n5) st5 stop) fun r s6 ⟨hr, I6⟩ => ?_
      subst hr
      have I7 : Inv X pins σ H5 s6 := I3.call' (ch := fp) I6.os I6.base I6.hok I6.bare fun b hb => let ⟨_, u1, _, u3, u4, u5⟩ := (f3 b hb).1; ⟨u3, u1, u4, u5⟩
      have nC : H5 s3.heap.objs.size = none := by
        rw [← cL]; exact I6.free
      obtain ⟨m, hn, _⟩ := I6.loc
      have hn : s6.heap.Ns s3.heap.objs.size m := by
        rw [← cL]; exact hn
      obtain ⟨k0, k1, k2, k3, k4, k5⟩ := I3.fpOk (Nat.le_refl _) nC
      exact ⟨m, hn, fun h'' sb => ⟨.ref D, H5, I7.turned (t' := s6.toks) (fun b o hb z => (sb.2 b hb).trans z) k0 k1 k3 k4 k5, rfl, qq⟩⟩
    · refine thnF (T.item B rfl rfl rfl hc i [] s5 _ H5 (fun _ _ => False) I5 (fpk I5 n5) st5 go) fun r s6 ⟨u, hr, h6⟩ => ?_
      subst hr
      refine thnF h6 fun _ s7 ⟨x, H7, I7, r7, y7, st7, n7⟩ => ?_
      refine thnF (pg.run _ s7 _ H7 x u _ (I7.pinned (fpk I7 n7) (T.obj _ _ st7)) r7 (step x H7 y7)) fun _ s8 ⟨σ8, H8, I8, w8, q8⟩ => ?_
      refine thnF (pt.run _ s8 σ8 H8 _ I8 q8) fun b s9 ⟨H9, I9, q9⟩ => ?_
      have fin : ∀ (s' : Shared) (H' : Hp), Inv B ([] ++ pinsAt fp s7.heap) σ8 H' s' → Nx H' → ∃ m, m < n ∧ Z m s' := fun s' H' I' nx => by
        obtain ⟨m', lt, w'⟩ := hNx H' nx
        have still : ∀ b ∈ fp, ∀ o, s7.heap.get? b = some o → s'.heap.get? b = some o ∧ H' b = none := fun b hb o z => by
          have y := I'.pin (b, o) (List.mem_append_right _ (List.mem_append_right _ (mem_pinsAt hb z)))
          exact ⟨y.1, y.2.1⟩
        refine ⟨m', lt, i + 1, H', (I'.unpinned (pins := [])).weak (by rw [← w8, wipe_length]) (fun j v z => ?_), T.keep _ _ _ st7 fun b hb o z => (still b hb o z).1, fun b hb => ?_, w'⟩
        · rw [← w8] at z
          exact (wipe_some z).1
        · obtain ⟨o, z, _⟩ := T.obj _ _ st7 b hb
          exact (still b hb o z).2
      cases b
      · exact fin _ _ I9 q9
      · exact thnF (pe.run _ s9 σ8 H9 _ I9 q9) fun z s10 ⟨v, H10, I10, r10, q10⟩ => add_in (X := B) I10 r10 q10 fin
  exact PpSet.codeAny_compStart_set loop (T.self X.A 0 _ _ _ st4 loop)
end
end Txs


/-! A row that is a list or a tuple: walked, numbered, sorted, copied. -/
namespace Txs
open PySem PySem.Spec PyProof.Rows L2
/-- a list or a tuple of xs stands at a -/
def Sq (K : PySem.W.Frag) (H : Hp) (a : Addr) (xs : List V) : Prop := SqL K H a xs ∨ SqT K H a xs
theorem sqL_keep {K : PySem.W.Frag} {H H' : Hp} {a : Addr} {xs : List V} (h : SqL K H a xs) (k : ∀ o, H a = some o → H' a = some o) : SqL K H' a xs := by
  rcases h with (h | ⟨o, h⟩) | h
  · exact .inl (.inl (k _ h))
  · exact .inl (.inr ⟨o, k _ h⟩)
  · exact .inr h
theorem sqT_keep {K : PySem.W.Frag} {H H' : Hp} {a : Addr} {xs : List V} (h : SqT K H a xs) (k : ∀ o, H a = some o → H' a = some o) : SqT K H' a xs := by
  rcases h with (h | ⟨o, h⟩) | h
  · exact .inl (.inl (k _ h))
  · exact .inl (.inr ⟨o, k _ h⟩)
  · exact .inr h
theorem Sq.keep {K : PySem.W.Frag} {H H' : Hp} {a : Addr} {xs : List V} (h : Sq K H a xs) (k : ∀ o, H a = some o → H' a = some o) : Sq K H' a xs := h.imp (fun h => sqL_keep h k) fun h => sqT_keep h k
theorem Sq.same {K : PySem.W.Frag} {H H' : Hp} {a : Addr} {xs : List V} (h : Sq K H a xs) (k : Same H H') : Sq K H' a xs := h.keep fun o e => k _ _ e
/-! ### for x in xs -/
def iSeq (K : PySem.W.Frag) (tl : TE) : TI := fun σ H R => tl σ H fun x H1 => ∃ a, x = .ref a ∧ (((∃ xs, SqL K H1 a xs) ∧ R (Itl K a) H1) ∨ ((∃ xs, SqT K H1 a xs) ∧ R (Itt K a) H1))
section
variable {X : Cx} {tg : Expr}
theorem pi_seq {l : Expr} {tl : TE} (hl : PE X l tl) : PI X tg l (iSeq X.K tl) := by
  refine ⟨fun pins s σ H R I h => thn (hl.run pins s σ H _ I h) fun v s1 ⟨x, H1, I1, r1, a, ex, q⟩ => ?_⟩
  subst ex
  cases r1
  have fp : ∀ b ∈ [s1.heap.objs.size], FpOk X pins H1 b := fun b hb => by
    rw [List.mem_singleton.mp hb]
    exact I1.fpOk (Nat.le_refl _) (I1.hok.fresh (Nat.le_refl _))
  rcases q with ⟨⟨xs, hq⟩, q⟩ | ⟨⟨xs, hq⟩, q⟩
  · obtain ⟨its, _, pl, _⟩ := I1.list hq
    exact wpAny_pyIter_list pl.isList ⟨_, [_], _, _, H1, rfl, I1.kept (t' := s1.toks) fun b o e => Heap.get?_push_of_some _ e, turn_list a _, ⟨_, Heap.get?_push_size _ rfl, rfl, rfl⟩, fp, q⟩
  · obtain ⟨its, _, pl, _⟩ := I1.tuple hq
    exact wpAny_pyIter_tuple (show s1.heap.IsTuple a its.toArray from pl) ⟨_, [_], _, _, H1, rfl, I1.kept (t' := s1.toks) fun b o e => Heap.get?_push_of_some _ e, turn_tuple a _, ⟨_, Heap.get?_push_size _ rfl, rfl, rfl⟩, fp, q⟩
end
/-! ### for i, x in enumerate(tuple) -/
def ItE (K : PySem.W.Frag) (a : Addr) : It :=
  ⟨fun i H => ∃ xs x, SqT K H a xs ∧ xs[i]? = some x, fun i H v H' => ∃ T x, v = .ref T ∧ H T = none ∧ H' = upd H T (.tup [.int (i : Nat), x]) ∧ ∀ xs, SqT K H a xs → xs[i]? = some x, fun i H => ∃ xs, SqT K H a xs ∧ xs.length = i⟩
set_option maxHeartbeats 1000000 in
theorem meets_enum1 {v : Value} {o : Obj} {Z : Heap → Prop} (B : Begins v o Z) : Meets (Builtin.«enumerate.__new__» ⟨[.type "enumerate", v], []⟩) (fun _ R s => Z s.heap ∧
    R (.ok (.ret (.ref (s.heap.push o).objs.size))) { s with heap := (s.heap.push o).push { cls := .type "enumerate", data := .fields #[.none, .bool false, .ref s.heap.objs.size, rawInt 0, .none, .none] } }) :=
  .of_wp fun prog w A R s ⟨z, h⟩ => by
    obtain ⟨hp, g, d, tk, os⟩ := s
    have sub_ := sub_enumerate
    have it_ : ∀ {A' : Around} {E : Value → Shared → Prop} {Q : Value → Shared → Prop}, Q (.ref hp.objs.size) ⟨hp.push o, g, d, tk, os⟩ → wpAny (model prog w) A' (pyIter v) Q E ⟨hp, g, d, tk, os⟩ := fun q => B.iter prog w _ _ ⟨hp, g, d, tk, os⟩ _ z q
    wp_walk using it_
    refine wpAny_stack_any fun st => wpAny_pure ?_
    split
    · rename_i c _ _ _ _ _
      cases (c == Value.type "enumerate") <;>
      · wp_walk using it_
        exact ⟨_, rfl, h⟩
    · wp_walk using it_
      exact ⟨_, rfl, h⟩
section
variable {P : Program} {w : World} {A : Around} {E : Value → Shared → Prop} {s : Shared}
theorem call_enum1 {v : Value} {o : Obj} {Z : Heap → Prop} {Q : Value → Shared → Prop} (B : Begins v o Z) (z : Z s.heap)
    (k : ∀ h', IsEnum h' (s.heap.objs.size + 1) s.heap.objs.size 0 .none → h'.get? s.heap.objs.size = some o → (∀ b u, s.heap.get? b = some u → h'.get? b = some u) → Q (.ref (s.heap.objs.size + 1)) { s with heap := h' }) :
    wpAny (model P w) A (call (.type "enumerate") [v]) Q E s := by
  have sz : (s.heap.push o).objs.size = s.heap.objs.size + 1 := Heap.size_push ..
  refine callType_new F.called_enumerate (by decide) (F.typeCall_enumerate_1 _) (F.newCall_enumerate_1 _) (fun obj => F.args_object_init_2 obj _) F.entry_enumerate_new (meets_enum1 B) ⟨z, show _ ∧ _ from ?_⟩
  have he : IsEnum ((s.heap.push o).push { cls := .type "enumerate", data := .fields #[.none, .bool false, .ref s.heap.objs.size, rawInt 0, .none, .none] }) (s.heap.objs.size + 1) s.heap.objs.size 0 .none := by
    rw [← sz]
    exact Heap.get?_push_size _ rfl
  rw [sz]
  exact ⟨⟨_, he, rfl⟩, k _ he (Heap.get?_push_of_some _ (Heap.get?_push_size _ B.free)) fun b u e => Heap.get?_push_of_some _ (Heap.get?_push_of_some _ e)⟩
end
theorem turn_enumT {P : Program} {w : World} {K : PySem.W.Frag} {elts : List Expr} {kk : Nat} {tpos : Pos} (a e it : Addr) :
    Turn P w K (.Tuple elts kk tpos) (ItE K a) [e, it] e (fun i h => (∃ old, IsEnum h e it ((i : Nat) : Int) old) ∧ h.IsTupleIter it a i ∧ e ≠ it ∧ a ≠ it ∧ e ≠ a) where
  mem := by simp
  obj := fun i h ⟨⟨old, he⟩, ⟨o, ho, _, hd⟩, _⟩ b hb => by
    rcases List.mem_cons.mp hb with rfl | hb
    · exact ⟨_, he, fun v q => nomatch q⟩
    · rw [List.mem_singleton.mp hb]
      exact ⟨o, ho, fun v q => by rw [hd] at q; cases q⟩
  keep := fun i h h' ⟨⟨old, he⟩, hi, n⟩ k => ⟨⟨old, k e (by simp) _ he⟩, hi.at fun o q => k it (by simp) o q, n⟩
  item := by
    rintro X rfl rfl rfl hc i pins s σ H E I hf ⟨⟨old, he⟩, hit, n1, n2, n3⟩ ⟨xs, x, hq, hx⟩
    obtain ⟨its, rv, pt, _⟩ := I.tuple hq
    obtain ⟨u, hu, ru⟩ := rv.get hx
    have ht : s.heap.IsTuple a its.toArray := pt
    have lt : i < its.toArray.size := by
      have := (List.getElem?_eq_some_iff.mp hu).1
      simpa using this
    have W := WalksT.enumFrom (prog := X.prog) (w := X.w) (A := X.A) 0 (Draws.tuple (show X.A.in1.handled = none from I.ok.hd hc) it a n2 its.toArray) e n1 (by simp [n1, n3]) (by simp)
    refine W.item i s _ _ lt ⟨⟨old, by rw [Int.zero_add]; exact he⟩, hit, ht⟩ fun T vals h' tk ⟨t, y, hy, ev⟩ sz isT mid kp => ⟨_, rfl, W.go elts kk tpos i T _ _ _ mid fun h2 ⟨⟨old2, he2⟩, hit2, _⟩ kp2 => ?_⟩
    subst ev
    have ey : y = u := by
      have hy : its.toArray[i]? = some y := hy
      rw [List.getElem?_toArray, hu] at hy
      exact (Option.some.inj hy).symm
    subst ey
    have kk2 : ∀ b o, b ∉ [e, it] → s.heap.get? b = some o → h2.get? b = some o := fun b o nb q => kp2 b o nb (kp b o nb q)
    have isT2 : IsTup h2 T #[.int (0 + (i : Int)) t, y] := isT.at fun o q => kp2 T o (W.apart i T h' mid) q
    have new : ObjOk X.prog X.w (upd H T (.tup [.int (i : Nat), x])) h2 T (.tup [.int (i : Nat), x]) :=
      ⟨by show 2 ≤ sizeLine; decide, [.int (0 + (i : Int)) t, y], .cons ⟨t, by rw [Int.zero_add]⟩ (.cons ru .nil), isT2⟩
    have I2 := I.turnedNew (t' := tk) (ch := [e, it]) kk2 hf sz new
    have lts : ∀ b ∈ [e, it], b < s.heap.objs.size := fun b hb => by
      rcases List.mem_cons.mp hb with rfl | hb
      · exact Heap.lt_size he
      · rw [List.mem_singleton.mp hb]
        obtain ⟨_, q, _⟩ := hit
        exact Heap.lt_size q
    refine ⟨.ref T, _, I2, rfl, ⟨T, x, rfl, I.hok.fresh sz, rfl, fun ys hy => by rw [I.tuple_inj hy hq]; exact hx⟩, ⟨⟨old2, ?_⟩, hit2, n1, n2, n3⟩, fun b hb => ?_⟩
    · have e1 : ((i + 1 : Nat) : Int) = 0 + ((i + 1 : Nat) : Int) := by omega
      rw [e1]; exact he2
    · rw [upd_ne (Nat.ne_of_lt (Nat.lt_of_lt_of_le (lts b hb) sz))]
      exact (hf b hb).1
  done := by
    rintro X rfl rfl rfl hc i pins s σ H E I hf ⟨⟨old, he⟩, hit, n1, n2, n3⟩ ⟨xs, hq, hx⟩
    obtain ⟨its, rv, pt, _⟩ := I.tuple hq
    have ht : s.heap.IsTuple a its.toArray := pt
    have n : i = its.toArray.size := by rw [← hx, rv.length, List.size_toArray]
    have W := WalksT.enumFrom (prog := X.prog) (w := X.w) (A := X.A) 0 (Draws.tuple (show X.A.in1.handled = none from I.ok.hd hc) it a n2 its.toArray) e n1 (by simp [n1, n3]) (by simp)
    refine W.done s _ _ ⟨⟨old, by rw [Int.zero_add, ← n]; exact he⟩, by rw [← n]; exact hit, ht⟩ fun h' tk kp => ⟨rfl, I.turnedL (t' := tk) (ch := [e, it]) kp hf⟩
  self := fun A i s Q E ⟨⟨_, he⟩, _⟩ h => wpAny_pyIter_enum he h
def iEnS (K : PySem.W.Frag) (ta : TA) : TI := fun σ H R => ta σ H fun vs H1 => ∃ a, vs = [.ref a] ∧ (((∃ xs, SqL K H1 a xs) ∧ R (Ite K a) H1) ∨ ((∃ xs, SqT K H1 a xs) ∧ R (ItE K a) H1))
theorem pi_enumS {X : Cx} {e : Expr} {ta : TA} {p pos tpos : Pos} {elts : List Expr} {kk : Nat} (hg : Gl X "enumerate") (hm : X.mg "enumerate" = none) (ha : PA X [e] ta) (hs : starEach [e] X.env = [(false, eval e X.env)] := by rfl) :
    PI X (.Tuple elts kk tpos) (.Call (.Name "enumerate" p) [e] [] pos) (iEnS X.K ta) := by
  refine ⟨fun pins s σ H R I h => Call_ (ld_blt I hg hm boot_enumerate (PyProof.Rows.callWith_type1 (thn (ha.run pos pins s σ H _ I h) fun us s1 ⟨vs, H1, I1, r1, a, ex, q⟩ => ?_) hs rfl))⟩
  subst ex
  rw [Vals.ref1 r1]
  have fp : ∀ b ∈ [s1.heap.objs.size + 1, s1.heap.objs.size], FpOk X pins H1 b := fun b hb => by
    have le : s1.heap.objs.size ≤ b := by
      rcases List.mem_cons.mp hb with rfl | hb
      · exact Nat.le_add_right _ _
      · rw [List.mem_singleton.mp hb]; exact Nat.le_refl _
    exact I1.fpOk le (I1.hok.fresh le)
  rcases q with ⟨⟨xs, hq⟩, q⟩ | ⟨⟨xs, hq⟩, q⟩
  · obtain ⟨its, _, pl, _⟩ := I1.list hq
    exact call_enumerate_list pl.isList fun h' he hit _ kp => wpAny_pyIter_enum he ⟨_, [_, _], _, _, H1, rfl, I1.kept (t' := s1.toks) kp, turn_enum a _ _, ⟨⟨.none, he⟩, hit, Nat.succ_ne_self _⟩, fp, q⟩
  · obtain ⟨its, _, pt, _⟩ := I1.tuple hq
    have ht : s1.heap.IsTuple a its.toArray := pt
    have lt : a < s1.heap.objs.size := by
      obtain ⟨o, e, _⟩ := id ht
      exact Heap.lt_size e
    exact call_enum1 (begins_tuple a its.toArray) ht fun h' he hit kp => wpAny_pyIter_enum he ⟨_, [_, _], _, _, H1, rfl, I1.kept (t' := s1.toks) kp, turn_enumT a _ _,
      ⟨⟨.none, he⟩, ⟨_, hit, rfl, rfl⟩, Nat.succ_ne_self _, Nat.ne_of_lt lt, Nat.ne_of_gt (Nat.lt_succ_of_lt lt)⟩, fp, q⟩
/-! ### the loops -/
section
variable {K : PySem.W.Frag} {a : Addr} {xs : List V} {g : TG} {tb : TS} {D : Ends} {σ : L2.St} {H H0 : Hp}
/-- what a for over the walk J asks -/
def Loop (J : It) (g : TG) (tb : TS) (D : Ends) (σ : L2.St) (H : Hp) : Prop := ∃ W : Nat → Nat → L2.St → Hp → Prop, (∃ m, W 0 m σ H) ∧ ∀ i m σ H, W i m σ H →
  (J.stop i H ∧ D.nx σ H) ∨ (J.go i H ∧ ∃ N : L2.St → Hp → Prop, (∀ σ' H', N σ' H' → ∃ m', m' < m ∧ W (i + 1) m' σ' H') ∧ ∀ x H', J.yld i H x H' → g x σ H' fun σ2 H2 => tb { D with nx := N, ct := N, bk := D.nx } σ2 H2)
theorem for_seq (k : Sq K H0 a xs) (Pv : Nat → L2.St → Hp → Prop) (h0 : Pv 0 σ H) (hl : ∀ i σ' H', i ≤ xs.length → Pv i σ' H' → ∀ o, H0 a = some o → H' a = some o)
    (hs : ∀ i x σ H, xs[i]? = some x → Pv i σ H → g x σ H fun σ2 H2 => tb { D with nx := Pv (i + 1), ct := Pv (i + 1), bk := D.nx } σ2 H2) (hd : ∀ σ H, Pv xs.length σ H → D.nx σ H) :
    ((∃ xs, SqL K H a xs) ∧ Loop (Itl K a) g tb D σ H) ∨ ((∃ xs, SqT K H a xs) ∧ Loop (Itt K a) g tb D σ H) := by
  rcases k with k | k
  · exact .inl ⟨⟨_, sqL_keep k (hl 0 σ H (Nat.zero_le _) h0)⟩, for_list Pv h0 (fun i σ' H' hi p => sqL_keep k (hl i σ' H' hi p)) hs hd⟩
  · exact .inr ⟨⟨_, sqT_keep k (hl 0 σ H (Nat.zero_le _) h0)⟩, for_tup Pv h0 (fun i σ' H' hi p => sqT_keep k (hl i σ' H' hi p)) hs hd⟩
theorem for_enum (k : Sq K H0 a xs) (Pv : Nat → L2.St → Hp → Prop) (h0 : Pv 0 σ H) (hl : ∀ i σ' H', i ≤ xs.length → Pv i σ' H' → ∀ o, H0 a = some o → H' a = some o)
    (hs : ∀ i x σ H T, xs[i]? = some x → Pv i σ H → H T = none → g (.ref T) σ (upd H T (.tup [.int (i : Nat), x])) fun σ2 H2 => tb { D with nx := Pv (i + 1), ct := Pv (i + 1), bk := D.nx } σ2 H2) (hd : ∀ σ H, Pv xs.length σ H → D.nx σ H) :
    ((∃ xs, SqL K H a xs) ∧ Loop (Ite K a) g tb D σ H) ∨ ((∃ xs, SqT K H a xs) ∧ Loop (ItE K a) g tb D σ H) := by
  rcases k with k | k
  · refine .inl ⟨⟨_, sqL_keep k (hl 0 σ H (Nat.zero_le _) h0)⟩, fun i m σ H => m = xs.length - i ∧ i ≤ xs.length ∧ Pv i σ H, ⟨xs.length, by simp, Nat.zero_le _, h0⟩, ?_⟩
    rintro i m σ H ⟨rfl, hi, p⟩
    have q := sqL_keep k (hl i σ H hi p)
    by_cases lt : i < xs.length
    · refine .inr ⟨⟨xs, xs[i], q, by simp [lt]⟩, Pv (i + 1), fun σ' H' p' => ⟨_, by omega, rfl, lt, p'⟩, ?_⟩
      rintro x H' ⟨T, y, rfl, n, rfl, e⟩
      exact hs i y σ H T (e xs q) p n
    · obtain rfl : i = xs.length := by omega
      exact .inl ⟨⟨xs, q, Nat.le_refl _⟩, hd σ H p⟩
  · refine .inr ⟨⟨_, sqT_keep k (hl 0 σ H (Nat.zero_le _) h0)⟩, fun i m σ H => m = xs.length - i ∧ i ≤ xs.length ∧ Pv i σ H, ⟨xs.length, by simp, Nat.zero_le _, h0⟩, ?_⟩
    rintro i m σ H ⟨rfl, hi, p⟩
    have q := sqT_keep k (hl i σ H hi p)
    by_cases lt : i < xs.length
    · refine .inr ⟨⟨xs, xs[i], q, by simp [lt]⟩, Pv (i + 1), fun σ' H' p' => ⟨_, by omega, rfl, lt, p'⟩, ?_⟩
      rintro x H' ⟨T, y, rfl, n, rfl, e⟩
      exact hs i y σ H T (e xs q) p n
    · obtain rfl : i = xs.length := by omega
      exact .inl ⟨⟨xs, q, rfl⟩, hd σ H p⟩
end
section
variable {K : PySem.W.Frag} {a : Addr} {xs : List V} {g : TG} {tt : TT} {te : TE} {vs : List Nat} {σ : L2.St} {H H0 : Hp} {Q : Addr → Hp → Prop}
def LcOf (J : It) (g : TG) (tt : TT) (te : TE) (vs : List Nat) (σ : L2.St) (H : Hp) (Q : Addr → Hp → Prop) : Prop := ∀ D, H D = none → ∃ W : Nat → Nat → Hp → Prop, (∃ m, W 0 m (upd H D (.lst []))) ∧ ∀ i m H, W i m H →
  (J.stop i H ∧ Q D H) ∨ (J.go i H ∧ ∃ Nx : Hp → Prop, (∀ H', Nx H' → ∃ m', m' < m ∧ W (i + 1) m' H') ∧ ∀ x H', J.yld i H x H' → g x (wipe σ vs) H' fun σ2 H2 => wipe σ2 vs = wipe σ vs ∧ tt σ2 H2 fun b H3 =>
    if b = true then te σ2 H3 fun y H4 => ∃ acc, H4 D = some (.lst acc) ∧ acc.length < sizeLine ∧ Nx (upd H4 D (.lst (acc ++ [y]))) else Nx H3)
theorem lc_seq (k : Sq K H0 a xs) (hb : ∀ o, H0 a = some o → H a = some o) (Pv : Addr → Nat → Hp → Prop) (h0 : ∀ D, H D = none → Pv D 0 (upd H D (.lst []))) (hl : ∀ D i H', H D = none → i ≤ xs.length → Pv D i H' → ∀ o, H0 a = some o → H' a = some o)
    (hs : ∀ D i x H', H D = none → xs[i]? = some x → Pv D i H' → g x (wipe σ vs) H' fun σ2 H2 => wipe σ2 vs = wipe σ vs ∧ tt σ2 H2 fun b H3 =>
      if b = true then te σ2 H3 fun y H4 => ∃ acc, H4 D = some (.lst acc) ∧ acc.length < sizeLine ∧ Pv D (i + 1) (upd H4 D (.lst (acc ++ [y]))) else Pv D (i + 1) H3) (hd : ∀ D H', H D = none → Pv D xs.length H' → Q D H') :
    ((∃ xs, SqL K H a xs) ∧ LcOf (Itl K a) g tt te vs σ H Q) ∨ ((∃ xs, SqT K H a xs) ∧ LcOf (Itt K a) g tt te vs σ H Q) := by
  rcases k with k | k
  · exact .inl ⟨⟨_, sqL_keep k hb⟩, fun D hD => lc_list (Pv D) (h0 D hD) (fun i H' hi p => sqL_keep k (hl D i H' hD hi p)) (fun i x H' e p => hs D i x H' hD e p) fun H' p => hd D H' hD p⟩
  · exact .inr ⟨⟨_, sqT_keep k hb⟩, fun D hD => lc_tup (Pv D) (h0 D hD) (fun i H' hi p => sqT_keep k (hl D i H' hD hi p)) (fun i x H' e p => hs D i x H' hD e p) fun H' p => hd D H' hD p⟩
def ScOf (P : Program) (w : World) (J : It) (g : TG) (tt : TT) (te : TE) (vs : List Nat) (σ : L2.St) (H : Hp) (Q : Addr → Hp → Prop) : Prop := ∀ D, H D = none → ∃ W : Nat → Nat → Hp → Prop, (∃ m, W 0 m (upd H D (SetX P w D (fun _ => false) 0))) ∧
  ∀ i m H, W i m H → (J.stop i H ∧ Q D H) ∨ (J.go i H ∧ ∃ Nx : Hp → Prop, (∀ H', Nx H' → ∃ m', m' < m ∧ W (i + 1) m' H') ∧ ∀ x H', J.yld i H x H' → turnX P w g tt te σ vs D Nx x H')
theorem sc_seq {P : Program} {w : World} (k : Sq K H0 a xs) (hb : ∀ o, H0 a = some o → H a = some o) (Pv : Addr → Nat → Hp → Prop) (h0 : ∀ D, H D = none → Pv D 0 (upd H D (SetX P w D (fun _ => false) 0))) (hl : ∀ D i H', H D = none → i ≤ xs.length → Pv D i H' → ∀ o, H0 a = some o → H' a = some o)
    (hs : ∀ D i x H', H D = none → xs[i]? = some x → Pv D i H' → turnX P w g tt te σ vs D (Pv D (i + 1)) x H') (hd : ∀ D H', H D = none → Pv D xs.length H' → Q D H') :
    ((∃ xs, SqL K H a xs) ∧ ScOf P w (Itl K a) g tt te vs σ H Q) ∨ ((∃ xs, SqT K H a xs) ∧ ScOf P w (Itt K a) g tt te vs σ H Q) := by
  rcases k with k | k
  · refine .inl ⟨⟨_, sqL_keep k hb⟩, fun D hD => ⟨fun i m H' => m = xs.length - i ∧ i ≤ xs.length ∧ Pv D i H', ⟨xs.length, by simp, Nat.zero_le _, h0 D hD⟩, ?_⟩⟩
    rintro i m H' ⟨rfl, hi, p⟩
    have q := sqL_keep k (hl D i H' hD hi p)
    by_cases lt : i < xs.length
    · refine .inr ⟨⟨xs, xs[i], q, by simp [lt]⟩, Pv D (i + 1), fun H'' p' => ⟨_, by omega, rfl, lt, p'⟩, ?_⟩
      rintro x _ ⟨rfl, e⟩
      exact hs D i x _ hD (e xs q) p
    · obtain rfl : i = xs.length := by omega
      exact .inl ⟨⟨xs, q, Nat.le_refl _⟩, hd D H' hD p⟩
  · refine .inr ⟨⟨_, sqT_keep k hb⟩, fun D hD => ⟨fun i m H' => m = xs.length - i ∧ i ≤ xs.length ∧ Pv D i H', ⟨xs.length, by simp, Nat.zero_le _, h0 D hD⟩, ?_⟩⟩
    rintro i m H' ⟨rfl, hi, p⟩
    have q := sqT_keep k (hl D i H' hD hi p)
    by_cases lt : i < xs.length
    · refine .inr ⟨⟨xs, xs[i], q, by simp [lt]⟩, Pv D (i + 1), fun H'' p' => ⟨_, by omega, rfl, lt, p'⟩, ?_⟩
      rintro x _ ⟨rfl, e⟩
      exact hs D i x _ hD (e xs q) p
    · obtain rfl : i = xs.length := by omega
      exact .inl ⟨⟨xs, q, Nat.le_refl _⟩, hd D H' hD p⟩
end
end Txs


namespace Txs
open PySem PySem.Spec PyProof.Rows L2
section
variable {P : Program} {w : World} {A : Around} {E : Value → Shared → Prop} {s : Shared}
/-- a tuple's items, collected -/
theorem collect_tup {l : Addr} {vs : List Value} {Q : List Value → Shared → Prop} (hl : s.heap.IsTuple l vs.toArray) (sz : vs.length ≤ sizeLine)
    (k : Q vs { s with heap := (s.heap.push (seqObj "list" #[] 0)).update s.heap.objs.size (Obj.mapSeq (· ++ vs.toArray)) }) : wpAny (model P w) A (collect (.ref l)) Q E s := by
  obtain ⟨ob, e, c, n, d⟩ := hl
  have e1 : (s.heap.push (seqObj "list" #[] 0)).get? l = some ob := Heap.get?_push_of_some _ e
  have eN := Heap.get?_push_size (h := s.heap) (o := seqObj "list" #[] 0) rfl
  unfold collect
  refine wpAny_bind (wpAny_runValue (codeAny_builtin entry_proto_collect' (show wpAny _ _ (do again (.builtin "list.__iadd__" ⟨[← newList [], .ref l], []⟩)) _ _ s from wpAny_bind (wpAny_newList (wpAny_pure ⟨Code.quiet_builtin _ (by decide +kernel), codeAny_builtin entry_list_iadd' ?_⟩)))))
  show wpAny _ _ (Builtin.List.listExtendWith (.ref s.heap.objs.size) (.ref l) (.ref s.heap.objs.size)) _ _ { s with heap := s.heap.push (seqObj "list" #[] 0) }
  unfold Builtin.List.listExtendWith
  refine wpAny_bind (wpAny_typeOf (T := "tuple") ⟨ob, e1, c⟩ ?_)
  rw [if_pos (by rw [show (Value.type "tuple" == Value.type "tuple") = true from rfl]; simp)]
  refine wpAny_bind (listItems_at e1 d (wpAny_bind (listItems_at (xs := #[]) (n := 0) eN rfl ?_)))
  rw [if_neg (by simp)]
  refine wpAny_bind (listUpdate_at (xs := #[]) (n := 0) eN rfl (wpAny_pure ?_) (Nat.zero_le _) (by show (#[] ++ vs.toArray).size ≤ sizeLine + 1; simp only [Array.size_append, List.size_toArray, List.length_nil]; omega))
  refine (show wpAny (model P w) A (do
    let o ← load s.heap.objs.size
    match o.data with
    | .seq xs _ => pure xs.toList
    | _ => unsupported "internal:collect") Q E { s with heap := (s.heap.push (seqObj "list" #[] 0)).update s.heap.objs.size (Obj.mapSeq (· ++ vs.toArray)) } from wpAny_bind (wpAny_load (get?_update_seq eN _) ?_))
  refine (show wpAny _ _ (pure ((#[] : Array Value) ++ vs.toArray).toList) Q E _ from ?_)
  rw [show ((#[] : Array Value) ++ vs.toArray).toList = vs by simp]
  exact wpAny_pure k
theorem sorted_tup {l : Addr} {vs : List Value} {ns : List Int} {Q : Value → Shared → Prop} (hl : s.heap.IsTuple l vs.toArray) (hI : IntsAre vs ns) (small : vs.length < 64)
    (k : ∀ (out : Array Value) (ns' : List Int), IntsAre out.toList ns' → ns'.Perm ns → ns'.Pairwise (· ≤ ·) → Q (.ref (s.heap.objs.size + 1)) { s with heap := sortedAll s.heap vs out }) :
    wpAny (model P w) A (call (.builtin "sorted") [.ref l]) Q E s := by
  refine Calls.call_function_entry kind_sorted plain_sorted entry_sorted (args_sorted1 _) ?_
  unfold Builtin.«sorted»
  refine wpAny_bind (m := checkCount "sorted" 1 1 _) (wpAny_pure (wpAny_bind (collect_tup hl (by rw [sizeLine_eq]; omega) (wpAny_bind (wpAny_newList ?_)))))
  have sz : ((s.heap.push (seqObj "list" #[] 0)).update s.heap.objs.size (Obj.mapSeq (· ++ vs.toArray))).objs.size = s.heap.objs.size + 1 := by rw [Heap.size_update, size_push']
  have eN : (((s.heap.push (seqObj "list" #[] 0)).update s.heap.objs.size (Obj.mapSeq (· ++ vs.toArray))).push (seqObj "list" vs.toArray 0)).get? (s.heap.objs.size + 1) = some (seqObj "list" vs.toArray 0) := by
    rw [← sz]; exact Heap.get?_push_size _ rfl
  refine (show wpAny _ _ _ _ _ { s with heap := ((s.heap.push (seqObj "list" #[] 0)).update s.heap.objs.size (Obj.mapSeq (· ++ vs.toArray))).push (seqObj "list" vs.toArray 0) } from ?_)
  rw [sz]
  exact wpAny_bind (wpAny_holding (wpAny_call_entry slot_list_sort ⟨_, eN, rfl⟩ entry_list_sort (list_sort_tree eN hI small fun out ns' a1 a2 a3 => ⟨_, rfl, wpAny_pure ⟨_, rfl, k out ns' a1 a2 a3⟩⟩) (args_list_sort _)))
end
/-- sorted(xs): ints, a list or a tuple -/
def rSortQ (K : PySem.W.Frag) : List V → Hp → VK → Prop := fun vs H Q => ∃ (a : Addr) (ns : List Int), vs = [V.ref a] ∧ Sq K H a (ns.map V.int) ∧ ns.length < 64 ∧
  ∀ (ns' : List Int) (p : Addr), ns'.Perm ns → ns'.Pairwise (· ≤ ·) → H p = none → Q (.ref p) (upd H p (.lst (ns'.map V.int)))
theorem cr_sortQ {X : Cx} : CallR X (.builtin "sorted") (rSortQ X.K) := by
  intro pins s σ H vs us Q I r h
  obtain ⟨a, ns, rfl, hs | hs, small, q⟩ := h
  · exact cr_sorted pins s σ H [.ref a] us Q I r ⟨a, ns, rfl, hs, small, q⟩
  · obtain ⟨its, rv, pt, _⟩ := I.tuple hs
    rw [Vals.ref1 r]
    have len := rv.length
    rw [List.length_map] at len
    refine sorted_tup (show s.heap.IsTuple a its.toArray from pt) rv.ints (by rw [← len]; exact small) fun out ns' h1 h2 h3 => ?_
    obtain ⟨ep, he⟩ := sortedAll_at s.heap its out
    have hlen : (ns'.map V.int).length ≤ sizeLine := by rw [List.length_map, h2.length_eq, sizeLine_eq]; omega
    exact ⟨.ref _, upd H (s.heap.objs.size + 1) (.lst (ns'.map V.int)), I.laid (t' := s.toks) (fun _ _ => sortedAll_old) (Nat.le_succ _) ⟨hlen, out.toList, ep, vals_of_ints h1, he⟩, rfl, q ns' _ h2 h3 (I.hok.fresh (Nat.le_succ _))⟩
/-- for c in text -/
theorem for_strN {x : PySem.Str} {g : TG} {tb : TS} {D : Ends} {σ : L2.St} {H : Hp} (Pv : Nat → L2.St → Hp → Prop) (h0 : Pv 0 σ H)
    (hs : ∀ i c σ H, x.cps.toList[i]? = some c → Pv i σ H → g (.str ⟨#[c]⟩) σ H fun σ2 H2 => tb { D with nx := Pv (i + 1), ct := Pv (i + 1), bk := D.nx } σ2 H2) (hd : ∀ σ H, Pv x.cps.toList.length σ H → D.nx σ H) : Loop (Its x) g tb D σ H := by
  refine ⟨fun i m σ H => m = x.cps.toList.length - i ∧ i ≤ x.cps.toList.length ∧ Pv i σ H, ⟨x.cps.toList.length, (Nat.sub_zero _).symm, Nat.zero_le _, h0⟩, ?_⟩
  rintro i m σ H ⟨rfl, hi, p⟩
  by_cases lt : i < x.cps.toList.length
  · refine .inr ⟨(show i < x.cps.size by simpa using lt), Pv (i + 1), fun σ' H' p' => ⟨_, by omega, rfl, lt, p'⟩, ?_⟩
    rintro v H' ⟨rfl, c, e, rfl⟩
    exact hs i c σ _ (by rw [Array.getElem?_toList]; exact e) p
  · obtain rfl : i = x.cps.toList.length := by omega
    exact .inl ⟨by show x.cps.size ≤ _; simp, hd σ H p⟩
/-- for a, b in zip(xs, ys): two lists of one length -/
theorem for_zip {K : PySem.W.Frag} {a b : Addr} {xs ys : List V} {g : TG} {tb : TS} {D : Ends} {σ : L2.St} {H H0 : Hp} (ka : SqL K H0 a xs) (kb : SqL K H0 b ys) (len : xs.length = ys.length) (Pv : Nat → L2.St → Hp → Prop) (h0 : Pv 0 σ H)
    (hl : ∀ i σ' H', i ≤ xs.length → Pv i σ' H' → Same H0 H')
    (hs : ∀ i x y σ H T, xs[i]? = some x → ys[i]? = some y → Pv i σ H → H T = none → g (.ref T) σ (upd H T (.tup [x, y])) fun σ2 H2 => tb { D with nx := Pv (i + 1), ct := Pv (i + 1), bk := D.nx } σ2 H2) (hd : ∀ σ H, Pv xs.length σ H → D.nx σ H) : Loop (Itz K a b) g tb D σ H := by
  refine ⟨fun i m σ H => m = xs.length - i ∧ i ≤ xs.length ∧ Pv i σ H, ⟨xs.length, (Nat.sub_zero _).symm, Nat.zero_le _, h0⟩, ?_⟩
  rintro i m σ H ⟨rfl, hi, p⟩
  have qa := sqL_keep ka fun o e => hl i σ H hi p _ _ e
  have qb := sqL_keep kb fun o e => hl i σ H hi p _ _ e
  by_cases lt : i < xs.length
  · refine .inr ⟨⟨xs, ys, xs[i], ys[i]'(len ▸ lt), qa, qb, by simp [lt], by simp [len ▸ lt]⟩, Pv (i + 1), fun σ' H' p' => ⟨_, by omega, rfl, lt, p'⟩, ?_⟩
    rintro v H' ⟨T, x, y, rfl, n, rfl, e1, e2⟩
    exact hs i x y σ H T (e1 xs qa) (e2 ys qb) p n
  · obtain rfl : i = xs.length := by omega
    exact .inl ⟨⟨xs, ys, qa, qb, .inl (Nat.le_refl _)⟩, hd σ H p⟩
/-- two ascending lists of the same ints, each once -/
theorem asc_perm {l r : List Int} (h : l.Pairwise (· ≤ ·)) (g : r.Pairwise (· ≤ ·)) (p : l.Perm r) : l = r := p.eq_of_pairwise (fun _ _ _ _ a b => Int.le_antisymm a b) h g
end Txs


/-! What the top leaves, read off by addresses: defs, methods, getters of properties. -/
namespace Hd
open PySem PySem.Spec PyProof.Rows L2 He
/-- one def: where it stands, its text -/
structure DefP where
  at_ : PySem.W.Frag → Addr
  name : PySem.Str
  qual : PySem.Str
  params : Arguments
  body : List Stmt
  scope : Scope
  dfl : List Dv := []
def fnP (K : PySem.W.Frag) (a : Addr) : FnW := match K.lookup a with
  | some ⟨_, _, .func fd, _⟩ => some (fd.name, fd.qualname, fd.params, fd.body, fd.scope, fd.globals, fd.closure, fd.builtins)
  | _ => none
def DefP.val (d : DefP) : FnW := some (d.name, d.qual, d.params, .stmts d.body, d.scope, mainGlobals, [], builtinsNs)
def DefP.dvs (K : PySem.W.Frag) (d : DefP) : List V := d.dfl.map (Dv.v K)
def DefP.ok (K : PySem.W.Frag) (d : DefP) : Bool := PySem.W.keepIn K (.ref (d.at_ K)) && match K.lookup (d.at_ K) with
  | some ⟨_, _, .func fd, _⟩ => PySem.W.codeIn K fd.code d.qual && dflB K fd.defaults (d.dvs K)
  | _ => false
theorem DefP.funD {K : PySem.W.Frag} {d : DefP} (e : fnP K (d.at_ K) = d.val) (c : d.ok K = true) : ∃ fd, FunD K d.name d.qual d.params d.body d.scope (d.dvs K) [] (d.at_ K) fd := by
  obtain ⟨kp, c⟩ := ba c
  unfold fnP at e
  rcases q : K.lookup (d.at_ K) with _ | ⟨oc, od, dt, osl⟩
  · rw [q] at c; cases c
  · rw [q] at c e
    cases dt
    case func fd =>
      obtain ⟨n1, n2, n3, n4, n5, n6, n7, n8, n9, n10, n11, n12, n13, n14, n15⟩ := fd
      have e : (some (n1, n2, n3, n4, n5, n6, n7, n15) : FnW) = some (d.name, d.qual, d.params, .stmts d.body, d.scope, mainGlobals, [], builtinsNs) := e
      simp only [Option.some.injEq, Prod.mk.injEq] at e
      obtain ⟨rfl, rfl, rfl, rfl, rfl, rfl, rfl, rfl⟩ := e
      obtain ⟨k1, k2⟩ := ba (show (PySem.W.codeIn K n13 d.qual && dflB K n8 (d.dvs K)) = true from c)
      exact ⟨_, ⟨oc, od, n8, n9, n10, n11, n12, n13, n14, osl, rfl, q, k1, dflB_ok k2, .inl rfl⟩, kp⟩
    all_goals cases c
/-- a property's object, its getter -/
def pAt (K : PySem.W.Frag) (C : Addr) (f : PySem.Str) : Addr := match PySem.W.findIn K (.ref C) f with
  | some (some (.ref p)) => p
  | _ => 0
def gAt (K : PySem.W.Frag) (C : Addr) (f : PySem.Str) : Addr := match PySem.W.recIn K (pAt K C f) "property" with
  | some (.ref g :: _) => g
  | _ => 0
def propB (K : PySem.W.Frag) (C : Addr) (f : PySem.Str) : Bool := eqO (PySem.W.findIn K (.ref C) f) (some (some (.ref (pAt K C f)))) && (eqO (PySem.W.specialIn K (.ref (pAt K C f)) "__get__") (some (some (.builtin "property.__get__"))) &&
  (decide (PySem.W.takesIn K (.ref (pAt K C f)) = some true) && match PySem.W.recIn K (pAt K C f) "property" with
    | some (.ref _ :: _) => true
    | _ => false))
theorem propB_ok {K : PySem.W.Frag} {C : Addr} {f : PySem.Str} (h : propB K C f = true) : PropOf K C f (pAt K C f) (gAt K C f) := by
  obtain ⟨h1, h⟩ := ba h
  obtain ⟨h2, h⟩ := ba h
  obtain ⟨h3, h4⟩ := ba h
  refine ⟨eqO_ok h1, eqO_ok h2, of_decide_eq_true h3, ?_⟩
  unfold gAt
  split at h4
  · rename_i g r e
    rw [e]
    exact ⟨r, rfl⟩
  · cases h4
abbrev Obs : Type := Bool × List FnW
def obsP (fa : List Fa) (ex : PySem.W.Frag → Bool) (fn : List DefP) (K : PySem.W.Frag) : Obs := ((fa.all fun f => f.ok K) && (ex K && fn.all fun d => d.ok K), fn.map fun d => fnP K (d.at_ K))
def valP (fn : List DefP) : Obs := (true, fn.map DefP.val)
def Says (fa : List Fa) (ex : PySem.W.Frag → Bool) (fn : List DefP) (K : PySem.W.Frag) : Prop := obsP fa ex fn K = valP fn
def obsG (n : Nat) (fa : List Fa) (ex : PySem.W.Frag → Bool) (fn : List DefP) (g : Addr → Option Obj) : Obs := obsP fa ex fn (frG g (asD g n))
def hook (n : Nat) (fa : List Fa) (ex : PySem.W.Frag → Bool) (fn : List DefP) : PySem.W.Hook where
  α := Obs
  obs := fun s => obsG n fa ex fn s.heap.get?
  val := fun _ => valP fn
  says := fun _ h => ∃ K : PySem.W.Frag, K.In h ∧ Says fa ex fn K
  of := fun _ _ e => ⟨_, frG_in, e⟩
  keeps := fun _ _ _ ⟨K, i, c⟩ k => ⟨K, PySem.W.Frag.In.keeps i k, c⟩
theorem obsG_eq {n : Nat} {fa : List Fa} {ex : PySem.W.Frag → Bool} {fn : List DefP} {g : Addr → Option Obj} {s : Shared} (h : ∀ a, g a = s.heap.get? a) : obsG n fa ex fn g = (hook n fa ex fn).obs s := by
  rw [show g = s.heap.get? from funext h]
  rfl
section
variable {fa : List Fa} {ex : PySem.W.Frag → Bool} {fn : List DefP} {K : PySem.W.Frag}
theorem Says.all (c : Says fa ex fn K) : (∀ f ∈ fa, f.ok K = true) ∧ ex K = true ∧ ∀ d ∈ fn, d.ok K = true := by
  obtain ⟨h1, h⟩ := ba (show ((fa.all fun f => f.ok K) && (ex K && fn.all fun d => d.ok K)) = true from congrArg (fun z : Obs => z.1) c)
  obtain ⟨h2, h3⟩ := ba h
  exact ⟨List.all_eq_true.mp h1, h2, List.all_eq_true.mp h3⟩
theorem Says.fact (c : Says fa ex fn K) (i : Nat) {f : Fa} (h : fa[i]? = some f := by rfl) : f.ok K = true := c.all.1 f (List.mem_of_getElem? h)
theorem Says.def_ (c : Says fa ex fn K) (i : Nat) {d : DefP} (h : fn[i]? = some d := by rfl) : ∃ fd, FunD K d.name d.qual d.params d.body d.scope (d.dvs K) [] (d.at_ K) fd := by
  have e : fn.map (fun d => fnP K (d.at_ K)) = fn.map DefP.val := congrArg (fun z : Obs => z.2) c
  have e2 : (fn.map fun d => fnP K (d.at_ K))[i]? = (fn.map DefP.val)[i]? := by rw [e]
  rw [List.getElem?_map, List.getElem?_map, h] at e2
  exact DefP.funD (Option.some.inj e2) (c.all.2.2 d (List.mem_of_getElem? h))
end
end Hd


/-! x = {k: v for ..}: the comprehension gives its dict to the name ahead of its own end. -/
namespace Txs
open PySem PySem.Spec PyProof.Rows L2
abbrev one1 (tg iter : Expr) (ifs : List Expr) : List Comprehension := [⟨tg, iter, ifs, 0⟩]
section
variable {X : Cx}
/-- the name stands on the comprehension's row, and the comprehension has none of this name -/
theorem used_dc {kx vx : Expr} {gs : List Comprehension} {sc : Scope} {p q : Pos} {x : PySem.Str} {n : Nat} {env : Env} (fn : env.scope.kind = .function) (lx : env.scope.names.lookup x = some .local) (same : (q.line == p.line) = true)
    (no : (sc.names.any fun (y, k) => y == x && (k == .local || k == .cell)) = false) : swapsWith (.DictComp kx vx gs sc p) (some (.Name x q)) n env = pure true := by
  have h1 : env.kindOf x = some .local := lx
  have h2 : env.blockKind = .function := by
    unfold Env.blockKind
    rw [fn]
    rfl
  unfold swapsWith
  simp only [h1, h2, no, same, Expr.pos]
  rfl
theorem ps_setDc {i : Nat} {x : PySem.Str} {q : Pos} {kx vx tg iter : Expr} {ifs : List Expr} {sc : Scope} {own : List (PySem.Str × Nat)} {p p' : Pos} {wi : TI} {g : TG} {tt : TT} {tk tv : TE} (calm : X.calm = true) (nd : X.N.Nodup) (at_ : X.N[i]? = some x)
    (loc : X.env.scope.names.lookup x = some .local) (us : swapsWith (.DictComp kx vx (one1 tg iter ifs) sc p) (some (.Name x q)) p'.line X.env = pure true) (hi : PI X tg iter wi) (ok : BlkOk X.N X.env.scope sc own)
    (hg : ∀ s H C cl fp, PG (X.blk s H sc (compEnvC sc cl C X.env) fp) tg g) (ht : ∀ s H C cl fp, PTs (X.blk s H sc (compEnvC sc cl C X.env) fp) ifs tt)
    (hk : ∀ s H C cl fp, PE (X.blk s H sc (compEnvC sc cl C X.env) fp) kx tk) (hv : ∀ s H C cl fp, PE (X.blk s H sc (compEnvC sc cl C X.env) fp) vx tv) (fs : ∀ z, foldedSetIterable iter X.env z = pure z := by intro _; rfl) :
    PS X (.Assign [.Name x q] (.DictComp kx vx (one1 tg iter ifs) sc p) p') (tAsg (tDc wi g tt tk tv (own.map (·.2))) (gName i)) := by
  refine ⟨fun pins s σ H D I h => ?_⟩
  have h : tDc wi g tt tk tv (own.map (·.2)) σ H (fun z H1 => gName i z σ H1 D.nx) := h
  rw [exec_Assign_Name_used _ _ _ _ us]
  refine wpAny_bind (wpAny_standAt (wpAny_bind ?_))
  refine wpAny_bind (thn (dc_core (use := some (assign (.Name x q) X.env)) (Qf := fun _ s1 => SP X pins D .next s1) calm nd I hi ok hg ht hk hv fs h fun L C s1 m H1 I1 nx ns fp => ?_) fun _ s1 z => wpAny_pure (wpAny_pure z))
  obtain ⟨a0, a1, a2, a3, a4, a5⟩ := fp
  refine wpAny_assign_Name (store_ok2 (v := V.ref L) I1 nd at_ (.inl loc) rfl (fun s2 I2 st => ?_) (.inr loc))
  obtain ⟨b, but, wh⟩ := st
  have ne : C ≠ b := by
    rcases wh with z | z
    · intro e
      exact a1 (e.trans z)
    · intro e
      exact a4 x b z e.symm
  exact ⟨m, ns.sameBut but ne, fun h3 b3 => ⟨_, H1, I2.turned (t' := s2.toks) (fun c hc o e => (b3.2 c o).trans e) a0 a1 a3 a4 a5, nx⟩⟩
end
end Txs


/-! == and != of an instance by its class's own ==, whatever stands on the right; what it answers is what its promise says. -/
namespace Cmps
open PySem PySem.Spec PyProof.Rows L2
/-- a class with its own ==, and with no own != -/
structure Own (K : PySem.W.Frag) (C f : Addr) : Prop where
  eq : PySem.W.findIn K (.ref C) "__eq__" = some (some (.ref f))
  fn : PySem.W.isFn K (.ref f) = true
  ne : PySem.W.findIn K (.ref C) "__ne__" = some (some (.builtin "object.__ne__"))
  ob : PySem.W.subIn K (.ref C) (.type "object") = some true
theorem ne_bind (self : Value) : bindSpecial (.builtin "object.__ne__") self = pure (.builtin "object.__ne__", [self]) :=
  (Slot.of (T := "object") (name := "__ne__") (owner := "object") (n := "__ne__") (by rw [typeLookup_type, builtinLookup_eq_fast]; kernel_rfl) (by decide +kernel) (by decide +kernel) (by decide +kernel)
    (.inl (by decide +kernel)) (by rw [isSubtype_type]; kernel_rfl)).bind self
section
variable {prog : Program} {w : World} {A : Around} {E : Value → Shared → Prop} {s : Shared} {K : PySem.W.Frag} {x C f : Addr} {ox : Obj} {od : Option Obj} {b tb : Value}
theorem ifBound_ne {M : Model} {args : List Value} {Q : Option Value → Shared → Prop} (X : K.In s.heap) (I : PySem.W.InstAt s.heap x ox C od) (hs : PySem.W.findIn K (.ref C) "__ne__" = some (some (.builtin "object.__ne__")))
    (h : wpAny M A (call (.builtin "object.__ne__") (.ref x :: args)) (fun v => Q (some v)) E s) : wpAny M A (callSpecialIfBound? (.ref x) "__ne__" args) Q E s := by
  simp only [callSpecialIfBound?, bindSpecialIfBound?]
  refine wpAny_holding (wpAny_bind (wpAny_bind (wpAny_bind (I.type.here ((PySem.W.looks_findIn X hs).here ?_)))))
  refine wpAny_bind (wpAny_askSetting (wpAny_ite ?_))
  have fin : wpAny M A (call (.builtin "object.__ne__") ([.ref x] ++ args) >>= fun v => pure (some v)) Q E s := wpAny_bind (wpAny_mono h (fun v s' h' => wpAny_pure h') fun _ _ h' => h')
  rw [ne_bind]
  split
  · exact wpAny_bind (wpAny_pure (wpAny_pure (by exact fin)))
  · exact wpAny_tryCatch (wpAny_bind (wpAny_pure (wpAny_pure (by exact fin))))
/-- !=: the own == asked, its answer turned -/
theorem ne_K {Q : Value → Shared → Prop} (hu : A.units + 1 < cLine) (X : K.In s.heap) (O : Own K C f) (I : PySem.W.InstAt s.heap x ox C od) (hb : PySem.W.Looks (model prog w) s.heap (typeOf b) tb) (hn : PySem.W.notFirst K C tb = true)
    (h : wpAny (model prog w) A.in1 (call (.ref f) [.ref x, b]) (fun v s' => ∃ r, v = .bool r ∧ Q (.bool (!r)) s') E s) : wpAny (model prog w) A (richCompare .NotEq (.ref x) b) Q E s := by
  have obj : PySem.W.Looks (model prog w) s.heap (isInstance (.ref x) (.type "object")) true := I.type.andThen (PySem.W.looks_subIn X O.ob)
  have body : wpAny (model prog w) A (call (.builtin "object.__ne__") [.ref x, b]) (fun v s' => ∃ r, v = .bool r ∧ Q (.bool r) s') E s := by
    refine wpAny_call (codeAny_call_builtin (by decide +kernel) F.cmpEntry_ne (PySem.W.check_slot F.cmpKind_ne F.cmpSplit_ne obj (F.cmpArgs_ne _ _) ?_))
    unfold Builtin.«object.__ne__»
    refine wpAny_bind (m := slotArgs "__ne__" 1 _) (wpAny_pure ?_)
    refine wpAny_bind (wpAny_cRoomFor (show A.in1.units < cLine from hu) ?_)
    refine wpAny_bind (PySem.W.ifBound_K X I O.eq O.fn (wpAny_mono h (fun v s' hv => ?_) fun _ _ e => e))
    obtain ⟨r, rfl, q⟩ := hv
    exact wpAny_bind (wpAny_truthy_bool (wpAny_pure ⟨_, rfl, q⟩))
  have one : wpAny (model prog w) A (tryCompare (.ref x) "__ne__" b) (fun r s' => ∃ v, r = some (.bool v) ∧ Q (.bool v) s') E s := by
    unfold tryCompare
    refine wpAny_bind (ifBound_ne X I O.ne (wpAny_mono body (fun v s' hv => ?_) fun _ _ e => e))
    obtain ⟨r, rfl, q⟩ := hv
    exact wpAny_pure ⟨_, rfl, q⟩
  unfold richCompare
  simp only [oneThing_ref]
  refine wpAny_holding (wpAny_bind (wpAny_cRoomFor (Nat.lt_of_succ_lt hu) ?_))
  refine wpAny_bind (I.type.here (wpAny_bind (hb.here ?_)))
  split
  · rename_i q
    have e : PySem.W.subIn K tb (.ref C) = some false := by
      rcases Bool.or_eq_true_iff.mp hn with e | e
      · rw [beq_iff_eq.mp e] at q; simp at q
      · exact beq_iff_eq.mp e
    refine wpAny_bind ((PySem.W.looks_subIn X e).here ?_)
    simp only [Bool.false_eq_true, if_false]
    refine wpAny_bind (wpAny_mono one (fun r s' z => ?_) fun _ _ e => e)
    obtain ⟨v, rfl, hq⟩ := z
    exact wpAny_pure hq
  · refine wpAny_bind (wpAny_pure ?_)
    simp only [Bool.false_eq_true, if_false]
    refine wpAny_bind (wpAny_mono one (fun r s' z => ?_) fun _ _ e => e)
    obtain ⟨v, rfl, hq⟩ := z
    exact wpAny_pure hq
end
section
variable {X : Cx} {k : Nat} {C f : Addr} {fd : FuncData} {ps : List Str} {sp : Sp}
/-- the own == called, at the running body or below it -/
theorem own_call (F : FnOk X.prog X.w X.K X.mg X.base CX0 k f fd ps sp) (hb : Binds X.K fd ps []) {A : Around} (sb : Sub X k A) {pins : List (Addr × Obj)} {σ : L2.St} {H : Hp} {s : Shared} {a : Addr} {y : V} {u : Value} {Q : VK}
    (I : Inv X pins σ H s) (ry : RelV y u) (h : sp [.ref a, y] H (fun v H' => ∃ b, v = .bl b ∧ Q v H') E0) :
    wpAny (model X.prog X.w) A (call (.ref f) [.ref a, u]) (fun v s' => ∃ b H', v = .bool b ∧ Inv X pins σ H' s' ∧ Q (.bl b) H') X.xe s := by
  have e0 : Env0 X.prog X.w X.K X.mg X.base A X.stack s H := by
    have e := I.env0
    exact ⟨by rw [sb.fr]; exact e.frames, e.mod, e.bs, e.bsz, e.funs, e.frf, e.hok, e.bare⟩
  have hl := F.len _ _ _ _ h
  have r2 : Vals [V.ref a, y] [Value.ref a, u] := .cons rfl (.cons ry .nil)
  refine wpAny_call (codeAny_mono (F.run A X.stack s H ⟨[.ref a, u], []⟩ [.ref a, u] [.ref a, y] _ E0 sb.room e0 (by
    have := hb s [.ref a, u] I.kIn (by simpa using hl)
    simpa using this) r2 h) fun r s' hq => ?_)
  cases r with
  | error e => exact L2.pass0 pins σ H s e s' I hq
  | ok fl =>
    cases fl with
    | ret w =>
      obtain ⟨z, H', I', rz, b, ez, q⟩ := I.after hq
      subst ez
      cases (show w = .bool b from rz)
      exact ⟨b, H', rfl, I', q⟩
    | next => exact False.elim hq
    | brk => exact False.elim hq
    | cont => exact False.elim hq
/-- what x == y and x != y ask: x an instance of the class, y of a type that does not come first -/
def rEqI (K : PySem.W.Frag) (C : Addr) (sp : Sp) (neg : Bool) : R2 := fun x y H Q => ∃ a dx fs t, x = .ref a ∧ H a = some (.ins C dx fs) ∧ TyX K H y t ∧ PySem.W.notFirst K C t = true ∧ sp [.ref a, y] H (fun v H' => ∃ b, v = .bl b ∧ Q (.bl (if neg then !b else b)) H') E0
theorem op_eqI (F : FnOk X.prog X.w X.K X.mg X.base CX0 k f fd ps sp) (hb : Binds X.K fd ps []) (O : Own X.K C f) (hr : Room k X.A) : OpR X (compareOp .Eq) (rEqI X.K C sp false) := by
  intro pins s σ H x y v u Q I rx ry hq
  obtain ⟨a, dx, fs, t, rfl, ha, ty, nf, h⟩ := hq
  cases rx
  obtain ⟨mA, J, _⟩ := ins_get I.hok ha
  obtain ⟨od, J, _⟩ := J.look
  obtain ⟨m, hF⟩ := I.fr
  obtain ⟨T, KX, hT, _⟩ := kit_of I ry ty
  show wpAny (model X.prog X.w) X.A (richCompare .Eq (.ref a) u) (EP X pins σ Q) X.xe s
  refine PySem.W.cmp_K (op := .Eq) (tb := t) hr.units0 hF I.ok.mod.kin J (KX.ty _ _ I.kIn hT) nf O.eq O.fn ?_
  have h' : sp [.ref a, y] H (fun v H' => ∃ b, v = .bl b ∧ Q v H') E0 := by
    have e : (fun v H' => ∃ b, v = V.bl b ∧ Q (.bl (if false = true then !b else b)) H') = (fun v H' => ∃ b, v = V.bl b ∧ Q v H') := by
      funext v H'
      exact propext ⟨fun ⟨b, e, q⟩ => ⟨b, e, by subst e; exact q⟩, fun ⟨b, e, q⟩ => ⟨b, e, by subst e; exact q⟩⟩
    rw [← e]; exact h
  refine wpAny_mono (own_call F hb (A := X.A) ⟨hr, rfl⟩ I ry h') (fun r s' z => ?_) fun _ _ e => e
  obtain ⟨b, H', rfl, I', q⟩ := z
  exact ⟨.bl b, H', I', rfl, q⟩
theorem op_neI (F : FnOk X.prog X.w X.K X.mg X.base CX0 k f fd ps sp) (hb : Binds X.K fd ps []) (O : Own X.K C f) (hr : Room (k + 1) X.A) : OpR X (compareOp .NotEq) (rEqI X.K C sp true) := by
  intro pins s σ H x y v u Q I rx ry hq
  obtain ⟨a, dx, fs, t, rfl, ha, ty, nf, h⟩ := hq
  cases rx
  obtain ⟨mA, J, _⟩ := ins_get I.hok ha
  obtain ⟨od, J, _⟩ := J.look
  obtain ⟨T, KX, hT, _⟩ := kit_of I ry ty
  show wpAny (model X.prog X.w) X.A (richCompare .NotEq (.ref a) u) (EP X pins σ Q) X.xe s
  refine ne_K (tb := t) (by have := hr.un; omega) I.kIn O J (KX.ty _ _ I.kIn hT) nf ?_
  have h' : sp [.ref a, y] H (fun v H' => ∃ b, v = .bl b ∧ (fun v H' => ∃ b, v = .bl b ∧ Q (.bl (!b)) H') v H') E0 := by
    have e : (fun v H' => ∃ b, v = V.bl b ∧ Q (.bl (if true = true then !b else b)) H') = (fun v H' => ∃ b, v = .bl b ∧ (fun v H' => ∃ b, v = V.bl b ∧ Q (.bl (!b)) H') v H') := by
      funext v H'
      exact propext ⟨fun ⟨b, e, q⟩ => ⟨b, e, b, e, q⟩, fun ⟨b, e, b', e', q⟩ => ⟨b', e', q⟩⟩
    rw [← e]; exact h
  refine wpAny_mono (own_call F hb (A := X.A.in1) (Sub.in1 ⟨hr, rfl⟩) I ry h') (fun r s' z => ?_) fun _ _ e => e
  obtain ⟨b, H', rfl, I', b', eb, q⟩ := z
  cases eb
  exact ⟨b, rfl, .bl (!b), H', I', rfl, q⟩
end
end Cmps


/-! == with a built-in value on the left and an instance with its own == on the right: the built-in's == declines, then the instance's is asked. -/
namespace Cmps
open PySem PySem.Spec PyProof.Rows L2
section
variable {prog : Program} {w : World} {A : Around} {E : Value → Shared → Prop} {s : Shared} {K : PySem.W.Frag} {x C f dx : Addr} {ox : Obj} {od : Option Obj} {v : Value} {T ida : String}
/-- the built-in's own == declines an instance -/
def Declines (prog : Program) (w : World) (s : Shared) (v : Value) (x : Addr) (T ida : String) : Prop := s.TypeIs v T ∧ Slot T "__eq__" ida ∧ ∀ (A : Around) (E : Value → Shared → Prop) (Q : Value → Shared → Prop), Q .notImplemented s → wpAny (model prog w) A (call (.builtin ida) [v, .ref x]) Q E s
theorem eq_right {Q : Value → Shared → Prop} (hu : A.units < cLine) (X : K.In s.heap) (O : Own K C f) (I : PySem.W.InstAt s.heap x ox C od) (D : Declines prog w s v x T ida) (nb : PySem.W.subIn K (.ref C) (.type T) = some false)
    (h : wpAny (model prog w) A (call (.ref f) [.ref x, v]) (PySem.W.CmpBack Q) E s) : wpAny (model prog w) A (richCompare .Eq v (.ref x)) Q E s := by
  obtain ⟨hT, hs, hd⟩ := D
  have one : wpAny (model prog w) A (tryCompare (.ref x) "__eq__" v) (fun r s' => ∃ v, r = some v ∧ Q v s') E s := by
    unfold tryCompare
    refine wpAny_bind (PySem.W.ifBound_K X I O.eq O.fn (wpAny_mono h (fun v s' hv => ?_) fun _ _ e => e))
    cases v <;> first | exact hv.elim | exact wpAny_pure ⟨_, rfl, hv⟩
  unfold richCompare
  simp only [hT.oneThing_none]
  refine wpAny_holding (wpAny_bind (wpAny_cRoomFor hu ?_))
  refine wpAny_bind (wpAny_typeOf hT (wpAny_bind (I.type.here ?_)))
  have ne : (Value.type T != Value.ref C) = true := by simp
  simp only [ne, if_true]
  refine wpAny_bind ((PySem.W.looks_subIn X nb).here ?_)
  simp only [Bool.false_eq_true, if_false, Bool.not_false, if_true]
  refine wpAny_bind (m := tryCompare v _ (.ref x)) (wpAny_tryCompare_declines hT hs (hd _ _ _ ⟨rfl, ?_⟩))
  refine wpAny_bind (wpAny_mono one (fun r s' z => ?_) fun _ _ e => e)
  obtain ⟨v, rfl, hq⟩ := z
  exact wpAny_pure hq
theorem dec_none : Declines prog w s .none x "NoneType" "NoneType.__eq__" :=
  ⟨rfl, F.slot_NoneType_eq, fun A E Q q => GQ.call_here F.slot_NoneType_eq rfl F.entry_NoneType_eq (F.args_NoneType_eq_2 _ _) (by
    unfold Builtin.«NoneType.__eq__»
    exact wpAny_bind (m := slotArgs "__eq__" 1 _) (wpAny_pure (wpAny_pure q)))⟩
theorem asInt_none {M : Model} {Q : Option Int → Shared → Prop} (hx : s.heap.get? x = some ox) (hp : ox.data = .plain) (q : Q none s) : wpAny M A (asInt? (.ref x)) Q E s := by
  unfold asInt?
  refine wpAny_bind (wpAny_load hx ?_)
  rw [hp]
  exact wpAny_pure q
theorem asStr_none {M : Model} {Q : Option PySem.Str → Shared → Prop} (hx : s.heap.get? x = some ox) (hp : ox.data = .plain) (q : Q none s) : wpAny M A (asStr? (.ref x)) Q E s := by
  unfold asStr?
  refine wpAny_bind (wpAny_load hx ?_)
  rw [hp]
  exact wpAny_pure q
theorem dec_int {i : Int} {t : Tok} (hx : s.heap.get? x = some ox) (hp : ox.data = .plain) : Declines prog w s (.int i t) x "int" "int.__eq__" :=
  ⟨rfl, F.slot_int_eq, fun A E Q q => GQ.call_here F.slot_int_eq rfl F.entry_int_eq (F.args_int_eq_2 _ _) (by
    show wpAny _ _ (Builtin.Int.intBinary "__eq__" _ false ⟨[.int i t, .ref x], []⟩) _ _ _
    unfold Builtin.Int.intBinary
    refine wpAny_bind (m := slotArgs "__eq__" 1 _) (wpAny_pure ?_)
    refine wpAny_bind (m := Builtin.Int.intOfSelf _) (wpAny_pure ?_)
    refine wpAny_bind (asInt_none hx hp ?_)
    exact wpAny_bind (wpAny_rule (wpAny_pure q)))⟩
theorem dec_bool {b : Bool} (hx : s.heap.get? x = some ox) (hp : ox.data = .plain) : Declines prog w s (.bool b) x "bool" "int.__eq__" :=
  ⟨rfl, F.slot_bool_eq, fun A E Q q => GQ.call_here F.slot_bool_eq rfl F.entry_int_eq (F.args_int_eq_2 _ _) (by
    show wpAny _ _ (Builtin.Int.intBinary "__eq__" _ false ⟨[.bool b, .ref x], []⟩) _ _ _
    unfold Builtin.Int.intBinary
    refine wpAny_bind (m := slotArgs "__eq__" 1 _) (wpAny_pure ?_)
    refine wpAny_bind (m := Builtin.Int.intOfSelf _) (wpAny_pure ?_)
    refine wpAny_bind (asInt_none hx hp ?_)
    exact wpAny_bind (wpAny_rule (wpAny_pure q)))⟩
theorem dec_str {z : PySem.Str} {t : Tok} (hx : s.heap.get? x = some ox) (hp : ox.data = .plain) : Declines prog w s (.str z t) x "str" "str.__eq__" :=
  ⟨rfl, F.slot_str_eq, fun A E Q q => GQ.call_here F.slot_str_eq rfl F.entry_str_eq (F.args_str_eq_2 _ _) (by
    show wpAny _ _ (Builtin.Str.strCompare "__eq__" _ ⟨[.str z t, .ref x], []⟩) _ _ _
    unfold Builtin.Str.strCompare
    refine wpAny_bind (m := Builtin.Str.strSlot "__eq__" 1 _) (wpAny_pure ?_)
    refine wpAny_bind (asStr_none hx hp ?_)
    exact wpAny_bind (wpAny_rule (wpAny_pure q)))⟩
theorem dec_list {l : Addr} (hl : s.TypeIs (.ref l) "list") (X : K.In s.heap) (I : PySem.W.InstAt s.heap x ox C od) (nb : PySem.W.subIn K (.ref C) (.type "list") = some false) : Declines prog w s (.ref l) x "list" "list.__eq__" :=
  ⟨hl, F.slot_list_eq, fun A E Q q => GQ.call_here F.slot_list_eq hl F.entry_list_eq (F.args_list_eq_2 _ _) (by
    unfold Builtin.«list.__eq__»
    refine wpAny_bind (m := slotArgs "__eq__" 1 _) (wpAny_pure ?_)
    have ob : PySem.W.Looks (model prog w) s.heap (isInstance (.ref x) (.type "list")) false := I.type.andThen (PySem.W.looks_subIn X nb)
    refine wpAny_bind (ob.here ?_)
    rw [if_pos (show (!false) = true from rfl)]
    exact wpAny_pure q)⟩
theorem dec_tup {l : Addr} (hl : s.TypeIs (.ref l) "tuple") (X : K.In s.heap) (I : PySem.W.InstAt s.heap x ox C od) (nb : PySem.W.subIn K (.ref C) (.type "tuple") = some false) : Declines prog w s (.ref l) x "tuple" "tuple.__eq__" :=
  ⟨hl, F.slot_tuple_eq, fun A E Q q => GQ.call_here F.slot_tuple_eq hl F.entry_tuple_eq (F.args_tuple_eq_2 _ _) (by
    unfold Builtin.«tuple.__eq__»
    refine wpAny_bind (m := slotArgs "__eq__" 1 _) (wpAny_pure ?_)
    have ob : PySem.W.Looks (model prog w) s.heap (isInstance (.ref x) (.type "tuple")) false := I.type.andThen (PySem.W.looks_subIn X nb)
    refine wpAny_bind (ob.here ?_)
    rw [if_pos (show (!false) = true from rfl)]
    exact wpAny_pure q)⟩
theorem dec_dict {l : Addr} (hl : s.TypeIs (.ref l) "dict") (X : K.In s.heap) (I : PySem.W.InstAt s.heap x ox C od) (nb : PySem.W.subIn K (.ref C) (.type "dict") = some false) : Declines prog w s (.ref l) x "dict" "dict.__eq__" :=
  ⟨hl, F.slot_dict_eq, fun A E Q q => GQ.call_here F.slot_dict_eq hl F.entry_dict_eq (F.args_dict_eq_2 _ _) (by
    unfold Builtin.«dict.__eq__»
    refine wpAny_bind (m := Builtin.Dict.dictSlotArgs "__eq__" _) (wpAny_pure ?_)
    have ob : PySem.W.Looks (model prog w) s.heap (isInstance (.ref x) (.type "dict")) false := I.type.andThen (PySem.W.looks_subIn X nb)
    refine wpAny_bind (ob.here ?_)
    rw [if_pos (show (!false) = true from rfl)]
    exact wpAny_bind (wpAny_rule (wpAny_pure q)))⟩
end
theorem OpR.or {X : Cx} {o : Value → Value → Sem Value} {r1 r2 : R2} (h1 : OpR X o r1) (h2 : OpR X o r2) : OpR X o (fun x y H Q => r1 x y H Q ∨ r2 x y H Q) := fun pins s σ H x y v u Q I rx ry h => h.elim (fun h => h1 pins s σ H x y v u Q I rx ry h) fun h => h2 pins s σ H x y v u Q I rx ry h
/-- what x == y asks: y an instance with its own ==, x a built-in value -/
def rEqL (K : PySem.W.Frag) (C : Addr) (sp : Sp) : R2 := fun x y H Q => ∃ a dx fs T, y = .ref a ∧ H a = some (.ins C dx fs) ∧ TyOf K H x (.type T) ∧ T ≠ "float" ∧ PySem.W.subIn K (.ref C) (.type T) = some false ∧ sp [.ref a, x] H (fun v H' => ∃ b, v = .bl b ∧ Q (.bl b) H') E0
section
variable {X : Cx} {k : Nat} {C f : Addr} {fd : FuncData} {ps : List Str} {sp : Sp}
theorem op_eqL (F : FnOk X.prog X.w X.K X.mg X.base CX0 k f fd ps sp) (hb : Binds X.K fd ps []) (O : Own X.K C f) (hr : Room k X.A) : OpR X (compareOp .Eq) (rEqL X.K C sp) := by
  intro pins s σ H x y v u Q I rx ry hq
  obtain ⟨a, dx, fs, T, rfl, ha, ty, nf, nb, h⟩ := hq
  cases ry
  obtain ⟨mA, J, _⟩ := ins_get I.hok ha
  obtain ⟨od, J, _⟩ := J.look
  show wpAny (model X.prog X.w) X.A (richCompare .Eq v (.ref a)) (EP X pins σ Q) X.xe s
  have h' : sp [.ref a, x] H (fun v H' => ∃ b, v = .bl b ∧ Q v H') E0 := by
    have e : (fun v H' => ∃ b, v = V.bl b ∧ Q (.bl b) H') = (fun v H' => ∃ b, v = V.bl b ∧ Q v H') := by
      funext v H'
      exact propext ⟨fun ⟨b, e, q⟩ => ⟨b, e, by subst e; exact q⟩, fun ⟨b, e, q⟩ => ⟨b, e, by subst e; exact q⟩⟩
    rw [← e]; exact h
  have fin : wpAny (model X.prog X.w) X.A (call (.ref f) [.ref a, v]) (PySem.W.CmpBack (EP X pins σ Q)) X.xe s := by
    refine wpAny_mono (own_call F hb (A := X.A) ⟨hr, rfl⟩ I rx h') (fun r s' z => ?_) fun _ _ e => e
    obtain ⟨b, H', rfl, I', q⟩ := z
    exact ⟨.bl b, H', I', rfl, q⟩
  have go : ∀ {ida : String}, Declines X.prog X.w s v a T ida → wpAny (model X.prog X.w) X.A (richCompare .Eq v (.ref a)) (EP X pins σ Q) X.xe s := fun D => eq_right hr.units0 I.kIn O J D nb fin
  cases ty with
  | non => cases (show v = Value.none from rx); exact go dec_none
  | bl y => cases (show v = Value.bool y from rx); exact go (dec_bool J.at_ rfl)
  | int i => obtain ⟨t, q⟩ := (show ∃ t, v = Value.int i t from rx); cases q; exact go (dec_int J.at_ rfl)
  | str y => obtain ⟨t, q⟩ := (show ∃ t, v = Value.str y t from rx); cases q; exact go (dec_str J.at_ rfl)
  | flt y => exact absurd rfl nf
  | @lst l xs ea =>
    cases (show v = Value.ref l from rx)
    obtain ⟨_, _, n, _, h1⟩ := (show ObjOk X.prog X.w H s.heap l (.lst xs) from I.hok l _ ea)
    exact go (dec_list ⟨_, h1, rfl⟩ I.kIn J nb)
  | @frz l ob xs ea =>
    cases (show v = Value.ref l from rx)
    obtain ⟨_, _, _, n, _, h1⟩ := (show ObjOk X.prog X.w H s.heap l (.frz ob (.lst xs)) from I.hok l _ ea)
    exact go (dec_list ⟨_, h1, rfl⟩ I.kIn J nb)
  | @tup l xs ea =>
    cases (show v = Value.ref l from rx)
    obtain ⟨_, _, _, o, h1, h2, _⟩ := (show ObjOk X.prog X.w H s.heap l (.tup xs) from I.hok l _ ea)
    exact go (dec_tup ⟨o, h1, h2⟩ I.kIn J nb)
  | @dK l kvs ea =>
    cases (show v = Value.ref l from rx)
    obtain ⟨_, _, vs, _, o, es, ep, h1, h2, _⟩ := (show ObjOk X.prog X.w H s.heap l (.dK kvs) from I.hok l _ ea)
    exact go (dec_dict ⟨o, h1, h2.1⟩ I.kIn J nb)
  | @dT l kvs ea =>
    cases (show v = Value.ref l from rx)
    obtain ⟨_, _, xs, _, o, es, ep, h1, h2, _⟩ := (show ObjOk X.prog X.w H s.heap l (.dT kvs) from I.hok l _ ea)
    exact go (dec_dict ⟨o, h1, h2.1⟩ I.kIn J nb)
end
end Cmps


/-! len(o), x in o, o[x], o[x] = y of an instance by its class's own methods; what they do is what their promises say. -/
namespace Itms
open PySem PySem.Spec PyProof.Rows L2
/-- an own special method of a class -/
structure Spc (K : PySem.W.Frag) (C : Addr) (n : Str) (f : Addr) : Prop where
  fi : PySem.W.findIn K (.ref C) n = some (some (.ref f))
  fn : PySem.W.isFn K (.ref f) = true
  inn : PySem.W.fnIn K f = true
  sq : PySem.W.noSeq K C = true
section
variable {X : Cx} {k : Nat} {C f : Addr} {fd : FuncData} {ps : List Str} {sp : Sp}
/-- the own method called, at the running body or below it -/
theorem own_call (F : FnOk X.prog X.w X.K X.mg X.base CX0 k f fd ps sp) (hb : Binds X.K fd ps []) {A : Around} (sb : Sub X k A) {pins : List (Addr × Obj)} {σ : L2.St} {H : Hp} {s : Shared} {vs : List V} {us : List Value} {Q : VK}
    (I : Inv X pins σ H s) (rv : Vals vs us) (h : sp vs H Q E0) :
    wpAny (model X.prog X.w) A (call (.ref f) us) (EP X pins σ Q) X.xe s := by
  have e0 : Env0 X.prog X.w X.K X.mg X.base A X.stack s H := by
    have e := I.env0
    exact ⟨by rw [sb.fr]; exact e.frames, e.mod, e.bs, e.bsz, e.funs, e.frf, e.hok, e.bare⟩
  have hl := F.len _ _ _ _ h
  have hlu : us.length = ps.length := by rw [← rv.length]; exact hl
  refine wpAny_call (codeAny_mono (F.run A X.stack s H ⟨us, []⟩ us vs _ E0 sb.room e0 (by
    have := hb s us I.kIn (by simpa using hlu)
    simpa using this) rv h) fun r s' hq => ?_)
  cases r with
  | error e => exact L2.pass0 pins σ H s e s' I hq
  | ok fl =>
    cases fl with
    | ret w =>
      obtain ⟨z, H', I', rz, q⟩ := I.after hq
      exact ⟨z, H', I', rz, q⟩
    | next => exact False.elim hq
    | brk => exact False.elim hq
    | cont => exact False.elim hq
def rLenI (C : Addr) (sp : Sp) : List V → Hp → VK → Prop := fun xs H Q => ∃ a dx fs, xs = [.ref a] ∧ H a = some (.ins C dx fs) ∧ sp [.ref a] H (fun v H' => ∃ n : Int, v = .int n ∧ 0 ≤ n ∧ n < 2 ^ 63 ∧ Q (.int n) H') E0
theorem call_lenI (F : FnOk X.prog X.w X.K X.mg X.base CX0 k f fd ps sp) (hb : Binds X.K fd ps []) (O : Spc X.K C "__len__" f) (hr : Room (k + 1) X.A) : CallR X (.builtin "len") (rLenI C sp) := by
  intro pins s σ H xs us Q I rv hq
  obtain ⟨a, dx, fs, rfl, ha, h⟩ := hq
  cases rv with
  | cons r1 r2 =>
    cases r2
    cases r1
    obtain ⟨mA, J, _⟩ := ins_get I.hok ha
    obtain ⟨od, J, _⟩ := J.look
    obtain ⟨m, hF⟩ := I.fr
    refine PySem.W.len_K hF I.ok.mod.kin J O.fi O.fn ?_
    refine wpAny_mono (own_call F hb (A := X.A.in1) (Sub.in1 ⟨hr, rfl⟩) I (.cons (show RelV (V.ref a) (Value.ref a) from rfl) .nil) h) (fun r s' z => ?_) fun _ _ e => e
    obtain ⟨v, H', I', rv, n, rfl, h0, h1, q⟩ := z
    obtain ⟨t, rfl⟩ := rv
    exact ⟨⟨h0, h1⟩, .int n, H', I'.tok _, ⟨_, rfl⟩, q⟩
def rInI (C : Addr) (sp : Sp) (neg : Bool) : R2 := fun x y H Q => ∃ a dx fs, y = .ref a ∧ H a = some (.ins C dx fs) ∧ sp [.ref a, x] H (fun v H' => ∃ b, v = .bl b ∧ Q (.bl (if neg then !b else b)) H') E0
theorem op_inI (F : FnOk X.prog X.w X.K X.mg X.base CX0 k f fd ps sp) (hb : Binds X.K fd ps []) (O : Spc X.K C "__contains__" f) (hr : Room k X.A) : OpR X (compareOp .In) (rInI C sp false) := by
  intro pins s σ H x y v u Q I rx ry hq
  obtain ⟨a, dx, fs, rfl, ha, h⟩ := hq
  cases ry
  obtain ⟨mA, J, _⟩ := ins_get I.hok ha
  obtain ⟨od, J, _⟩ := J.look
  obtain ⟨m, hF⟩ := I.fr
  refine PySem.W.in_K hF I.ok.mod.kin J O.fi O.fn ?_
  refine wpAny_mono (own_call F hb (A := X.A) ⟨hr, rfl⟩ I (.cons (show RelV (V.ref a) (Value.ref a) from rfl) (.cons rx .nil)) h) (fun r s' z => ?_) fun _ _ e => e
  obtain ⟨v, H', I', rv, b, rfl, q⟩ := z
  cases (show r = .bool b from rv)
  exact wpAny_truthy_bool ⟨.bl b, H', I', rfl, q⟩
theorem op_notInI (F : FnOk X.prog X.w X.K X.mg X.base CX0 k f fd ps sp) (hb : Binds X.K fd ps []) (O : Spc X.K C "__contains__" f) (hr : Room k X.A) : OpR X (compareOp .NotIn) (rInI C sp true) := by
  intro pins s σ H x y v u Q I rx ry hq
  obtain ⟨a, dx, fs, rfl, ha, h⟩ := hq
  cases ry
  obtain ⟨mA, J, _⟩ := ins_get I.hok ha
  obtain ⟨od, J, _⟩ := J.look
  obtain ⟨m, hF⟩ := I.fr
  refine PySem.W.notIn_K hF I.ok.mod.kin J O.fi O.fn ?_
  refine wpAny_mono (own_call F hb (A := X.A) ⟨hr, rfl⟩ I (.cons (show RelV (V.ref a) (Value.ref a) from rfl) (.cons rx .nil)) h) (fun r s' z => ?_) fun _ _ e => e
  obtain ⟨v, H', I', rv, b, rfl, q⟩ := z
  cases (show r = .bool b from rv)
  exact wpAny_truthy_bool ⟨.bl (!b), H', I', rfl, q⟩
def rIxI (C : Addr) (sp : Sp) : R2 := fun x y H Q => ∃ a dx fs, x = .ref a ∧ H a = some (.ins C dx fs) ∧ sp [.ref a, y] H Q E0
theorem pe_ixI {a b : Expr} {ta tb : TE} {pos : Pos} (F : FnOk X.prog X.w X.K X.mg X.base CX0 k f fd ps sp) (hb : Binds X.K fd ps []) (O : Spc X.K C "__getitem__" f) (hr : Room (k + 1) X.A) (ha : PE X a ta) (he : PE X b tb)
    (hs : ∀ (o : Addr) (i : Value), subscripted b true (.ref o) i = runValue (.builtin "lifetime.subscript" ⟨[.ref o, i], []⟩) := by intro _ _; with_unfolding_all rfl) : PE X (.Subscript a b pos) (tOp (rIxI C sp) ta tb) := by
  refine ⟨fun pins s σ H Q I h => ?_⟩
  refine Subscript_ (binT ha he I h fun v u s2 x y H2 I2 rx ry q => ?_)
  obtain ⟨p, dx, fs, rfl, hp, h⟩ := q
  cases rx
  obtain ⟨mA, J, _⟩ := ins_get I2.hok hp
  obtain ⟨od, J, _⟩ := J.look
  obtain ⟨m, hF⟩ := I2.fr
  exact PySem.W.sub_K hF I2.ok.mod.kin J O.fi O.inn O.fn (own_call F hb (A := X.A.in1) (Sub.in1 ⟨hr, rfl⟩) I2 (.cons (show RelV (V.ref p) (Value.ref p) from rfl) (.cons ry .nil)) h) (hs _ _)
def rSetI (C : Addr) (sp : Sp) : V → V → V → Hp → (Hp → Prop) → Prop := fun o i v H Q => ∃ a dx fs, o = .ref a ∧ H a = some (.ins C dx fs) ∧ sp [.ref a, i, v] H (fun _ H' => Q H') E0
theorem set_insI (F : FnOk X.prog X.w X.K X.mg X.base CX0 k f fd ps sp) (hb : Binds X.K fd ps []) (O : Spc X.K C "__setitem__" f) (hr : Room k X.A) : PSet X (rSetI C sp) := by
  intro pins s σ H o i v ov iv u Q I ro ri rv hq
  obtain ⟨a, dx, fs, rfl, ha, h⟩ := hq
  cases ro
  obtain ⟨mA, J, _⟩ := ins_get I.hok ha
  obtain ⟨od, J, _⟩ := J.look
  obtain ⟨m, hF⟩ := I.fr
  refine PySem.W.ksp_setItem hF I.ok.mod.kin J O.sq O.fi O.fn ?_
  refine wpAny_mono (own_call F hb (A := X.A) ⟨hr, rfl⟩ I (.cons (show RelV (V.ref a) (Value.ref a) from rfl) (.cons ri (.cons rv .nil))) h) (fun r s' z => ?_) fun _ _ e => e
  obtain ⟨v, H', I', _, q⟩ := z
  exact ⟨H', I', q⟩
def rMulS : R2 := fun x y H Q => ∃ z n, x = .str z ∧ y = .int n ∧ MulOk z n ∧ Q (.str (Txt.mul z n)) H
/-- a text times an int -/
theorem op_mulS : OpR X (binaryOp .Mult) rMulS := by
  intro pins s σ H x y v u Q I rx ry hq
  obtain ⟨z, n, rfl, rfl, ok, q⟩ := hq
  obtain ⟨t, rfl⟩ := rx
  obtain ⟨t', rfl⟩ := ry
  exact SB.mul ok fun t' k => ⟨.str _, H, I.tok _, ⟨_, rfl⟩, q⟩
end
end Itms


/-! sorted of a list of texts with reverse=True: some arrangement of them. -/
namespace TSort
open PySem PyProof.Rows Srt SrtO
section
variable {prog : Program} {w : World} {A : Around} {E : Value → Shared → Prop} {s : Shared}
def sv (v : Value) : List Nat := (strOf v).cps.toList
def ltSv (v u : Value) : Bool := decide (sv v < sv u)
theorem swo_str : Swo ltSv := by
  refine ⟨fun x y h => ?_, fun x y z h1 h2 => ?_⟩
  · have a := of_decide_eq_true (p := sv x < sv y) h
    exact decide_eq_false (p := sv y < sv x) (List.lt_asymm a)
  · have a := of_decide_eq_false (p := sv y < sv x) h1
    have b := of_decide_eq_false (p := sv z < sv y) h2
    exact decide_eq_false (p := sv z < sv x) (List.not_lt.mpr (List.le_trans (List.not_lt.mp a) (List.not_lt.mp b)))
theorem str_cmp {vs : List Value} {ss : List Str} (hI : StrsAre vs ss) : Cmp prog w A s oneType' (fun p => p.1 ∈ vs) (lt2 ltSv) := by
  intro p q hm hm'
  obtain ⟨a, t, e⟩ := hI.all _ hm
  obtain ⟨b, u, e'⟩ := hI.all _ hm'
  show wpAny (model prog w) A (keyLt' oneType' p.1 q.1) (fun r s' => s' = s ∧ r = ltSv p.1 q.1) (fun _ _ => False) s
  rw [e, e', keyLt'_oneType]
  exact oneLt_str ⟨rfl, rfl⟩
theorem strs_sortable {a : Addr} {vs : List Value} {ss : List Str} (hI : StrsAre vs ss) (h2 : 2 ≤ vs.length) : SortableO prog w A s a vs ltSv := by
  intro h' _
  refine ⟨oneType', fun Q E hq => ?_, str_cmp hI⟩
  match vs, hI, h2 with
  | v1 :: v2 :: rest, hI, _ =>
    rw [keyKind_strs hI]
    exact wpAny_pure hq
  | [], _, h => exact absurd h (by decide)
  | [v], _, h => exact absurd h (by simp)
end
end TSort
namespace L2
open PySem PySem.Spec PyProof.Rows
def rSortRS (K : PySem.W.Frag) : List V → List V → Hp → VK → Prop := fun vs zs H Q => ∃ (a : Addr) (ss : List Str), vs = [V.ref a] ∧ zs = [.bl true] ∧ SqL K H a (ss.map V.str) ∧
  ∀ (ss' : List Str) (p : Addr), ss'.Perm ss → H p = none → Q (.ref p) (upd H p (.lst (ss'.map V.str)))
section
variable {X : Cx}
theorem cr_sortRS : CallRK X (.builtin "sorted") [Str.ofString "reverse"] (rSortRS X.K) := by
  intro pins s σ H vs zs us ws Q I r rz h
  obtain ⟨a, ss, rfl, rfl, hs, q⟩ := h
  obtain rfl := Vals.ref1 r
  obtain ⟨w1, rfl, e1⟩ := vals1 rz
  obtain rfl : w1 = Value.bool true := e1
  obtain ⟨its, rv, hl, hz⟩ := I.list hs
  have hi := rv.strs
  refine SrtR.sorted_ordK (b := true) (fun _ => rfl) (PyProof.Rows.args_sorted_rev _ _) (fun _ => PyProof.Rows.args_list_sort_rev _ _) TSort.swo_str hl.isList (by rw [← rv.length]; exact hz) (fun h2 h₁ a' _ _ => TSort.strs_sortable hi h2) fun out h1 h2 => ?_
  have hp : out.Perm its := h2.perm.trans (by simpa using List.reverse_perm its)
  have hp' : (out.toArray.reverse).toList.Perm its := by
    rw [Array.toList_reverse]
    exact (List.reverse_perm _).trans hp
  have hS : StrsAre (out.toArray.reverse).toList ((out.toArray.reverse).toList.map strOf) := strsAre_map _ fun v hv => hi.all _ (hp'.mem_iff.mp hv)
  have hP : ((out.toArray.reverse).toList.map strOf).Perm ss := by
    have := hp'.map strOf
    rwa [hi.strs] at this
  obtain ⟨ep, he'⟩ := PyProof.Rows.sortedAll_at s.heap its (out.toArray.reverse)
  have hlen : (((out.toArray.reverse).toList.map strOf).map V.str).length ≤ sizeLine := by
    rw [List.length_map, hP.length_eq]
    rw [List.length_map] at hz
    exact hz
  have e0 : ((out.toArray.reverse).toList).toArray = out.toArray.reverse := by rw [Array.toArray_toList]
  exact ⟨.ref _, upd H (s.heap.objs.size + 1) (.lst (((out.toArray.reverse).toList.map strOf).map V.str)), I.laid (t' := s.toks) (fun _ _ => PyProof.Rows.sortedAll_old) (Nat.le_succ _) ⟨hlen, _, ep, vals_of_strs hS, by rw [e0]; exact he'⟩, rfl, q _ _ hP (I.hok.fresh (Nat.le_succ _))⟩
end
end L2


/-! set(xs) of a list of ints; an int in it. -/
namespace Txs
open PySem PySem.Spec PyProof.Rows L2
/-- a set of ints: who is in it; n says how many entries it has -/
def SetN (P : Program) (w : World) (a : Addr) (S : Int → Bool) (n : Nat) : HO := .ext fun h => h.SetOf (intKind P w) a S n
theorem setN_new {P : Program} {w : World} {H : Hp} {h : Heap} {a : Addr} {S : Int → Bool} {n : Nat} (z : h.SetOf (intKind P w) a S n) : ObjOk P w H h a (SetN P w a S n) :=
  ⟨z, let ⟨ob, _, _, _, e, _⟩ := z; ⟨ob, e⟩, fun _ _ q k => let ⟨ob, es, ep, t, e, r⟩ := q; ⟨ob, es, ep, t, k ob e, r⟩⟩
theorem met_mem (ns : List Int) : (fun k => (firstMet (fun i => ns.getD i 0) ns.length).any (· == k)) = fun k => decide (k ∈ ns) := by
  funext k
  rw [firstMet_any]
  have e : (List.range ns.length).map (fun i => ns.getD i 0) = ns := by
    apply List.ext_getElem (by simp)
    intro i h1 h2
    simp [h2]
  rw [e]
  by_cases m : k ∈ ns
  · rw [decide_eq_true m]
    exact List.any_eq_true.mpr ⟨k, m, beq_self_eq_true k⟩
  · rw [decide_eq_false m]
    exact List.any_eq_false.mpr fun x hx q => m (by rw [← beq_iff_eq.mp q]; exact hx)
section
variable {X : Cx}
def rSetI (K : PySem.W.Frag) (P : Program) (w : World) : List V → Hp → VK → Prop := fun vs H Q => ∃ (l : Addr) (ns : List Int), vs = [.ref l] ∧ SqL K H l (ns.map V.int) ∧ ns.length + 1 < scanBound ∧
  ∀ p c, H p = none → Q (.ref p) (upd H p (SetN P w p (fun x => decide (x ∈ ns)) c))
theorem cr_setI (hc : X.calm = true) : CallR X (.type "set") (rSetI X.K X.prog X.w) := by
  intro pins s σ H vs us Q I r h
  obtain ⟨l, ns, rfl, hs, room, q⟩ := h
  rw [Vals.ref1 r]
  obtain ⟨its, rv, pl, _⟩ := I.list hs
  have len : its.toArray.size = ns.length := by
    have := rv.length
    rw [List.length_map] at this
    rw [List.size_toArray]
    exact this.symm
  refine call_set_list (I.ok.hd hc) pl.isList (ns := ns) (by simpa using rv.ints) (by rw [len]; exact room) fun h' tk z k => ?_
  rw [len, met_mem] at z
  exact ⟨.ref _, upd H s.heap.objs.size (SetN X.prog X.w s.heap.objs.size (fun x => decide (x ∈ ns)) _), I.laid (fun b o e => k b o (Heap.lt_size e) e) (Nat.le_refl _) (setN_new z), rfl, q _ _ (I.hok.fresh (Nat.le_refl _))⟩
def rInN (P : Program) (w : World) : R2 := fun x y H Q => ∃ k a S n, x = .int k ∧ y = .ref a ∧ H a = some (SetN P w a S n) ∧ Q (.bl (S k)) H
theorem op_inN : OpR X (compareOp .In) (rInN X.prog X.w) := by
  intro pins s σ H x y v u Q I rx ry h
  obtain ⟨k, a, S, n, rfl, rfl, ha, q⟩ := h
  cases ry
  obtain ⟨tk, rfl⟩ := rx
  have z : s.heap.SetOf (intKind X.prog X.w) a S n := (I.hok a _ ha).1
  exact wpAny_inSet_of (intKind_is _ _ _ _) rfl z ⟨.bl (S k), H, I.tok _, rfl, q⟩
end
end Txs


/-! SupErr: the __init__ of an own error that stands below ValueError (directly, or below another own error) and begins by super().__init__(x). -/
namespace SupE
open PySem PySem.Spec PyProof.Rows L2
/-- an own error's __init__ as it stands behind the top: f the function, C its class, cc the cell __class__ -/
structure ErrD (K : PySem.W.Frag) (qual file : PySem.Str) (params : Arguments) (body : List Stmt) (scope : Scope) (C f : Addr) (fd : FuncData) : Prop where
  ex : ∃ (oc : Value) (od : Option Addr) (dV kV doc pm : Value) (an : Option Addr) (ct : Value) (osl : Array (Option Value)) (cc cda : Addr) (c1 : Value) (d1 : Option Addr) (vs : Array Value) (l1 : Array (Option Value)) (tf : Tok) (c2 : Value) (d2 : Option Addr) (l2 : Array (Option Value)),
    fd = PySem.W.ksFn "__init__" qual params body scope dV kV doc pm an (.ref cda) ct cc ∧ K.lookup f = some ⟨oc, od, .func fd, osl⟩ ∧ PySem.W.codeIn K (.ref cda) qual = true ∧
      K.lookup cda = some ⟨c1, d1, .fields vs, l1⟩ ∧ vs[2]? = some (.str file tf) ∧ K.lookup cc = some ⟨c2, d2, .cell (some (.ref C)), l2⟩
/-- what else is asked of the class, the program -/
structure ErrC (P : Program) (K : PySem.W.Frag) (mg : PySem.Str → Option Value) (file : PySem.Str) (C : Addr) : Prop where
  oex : OexC K C
  self : PySem.W.mroIn K C (.ref C) = some true
  sup : PySem.W.ks_superIn K C C "__init__" = some (some (.builtin "ValueError.__init__"))
  ve : PySem.W.subIn K (.ref C) (.type "ValueError") = some true
  opq : PySem.W.nsIn K cStatics "thirdparty.any" = some none
  nosuper : mg "super" = none
  file : ((P.main.file : PySem.Str) == file) = true
  top : (P.main.scope.names.lookup ("super" : PySem.Str)).isSome = false
/-- the scope of such a def with two parameters -/
structure ErrS (n0 n1 : PySem.Str) (sc : Scope) (ps : Arguments) : Prop where
  kind : sc.kind = .function
  co : sc.isCoroutine = false
  gen : sc.isGenerator = false
  ne : n0 ≠ n1
  l0 : sc.names.lookup n0 = some .local
  l1 : sc.names.lookup n1 = some .local
  sup : sc.names.lookup ("super" : PySem.Str) = some .globalImplicit
  cls : sc.names.lookup ("__class__" : PySem.Str) = some .free
  all : ∀ y ∈ sc.names, y.2 ≠ .cell ∧ (y.2 = .free → y.1 = "__class__")
  arg : ∃ ar, (ps.posonlyargs ++ ps.args).head? = some ar ∧ ar.arg = n0
/-- the context of such a body -/
def supX (P : Program) (w : World) (K : PySem.W.Frag) (mg : PySem.Str → Option Value) (base : Heap) (N : List PySem.Str) (qual : PySem.Str) (scope : Scope) (f cda cc : Addr) (A : Around) (outer : List Env) (s : Shared) (H : Hp) : Cx where
  prog := P
  w := w
  K := K
  mg := mg
  base := base
  A := A.deeper (PySem.W.ksEnv qual scope s.heap.objs.size f (.ref cda) cc)
  N := N
  s_0 := s
  H_0 := H
  env := PySem.W.ksEnv qual scope s.heap.objs.size f (.ref cda) cc
  outer := outer
  stack := PySem.W.ksEnv qual scope s.heap.objs.size f (.ref cda) cc :: outer
  ex := []
  calm := true
  fn := fun _ => false
  pn := []
  xe := fun _ _ => False
section
variable {P : Program} {w : World} {K : PySem.W.Frag} {mg : PySem.Str → Option Value} {base : Heap} {N : List PySem.Str} {qual n0 n1 : PySem.Str} {scope : Scope} {params : Arguments} {f cda cc : Addr} {A : Around} {outer : List Env} {s : Shared} {H : Hp} {u0 u1 : Value} {v0 v1 : V}
theorem inv_sup {o : Obj} {cv : Option Value} {h1 : Heap} {tk : Nat} (S : ErrS n0 n1 scope params) (hd : A.handled = none) (e0 : Env0 P w K mg base A outer s H) (lc : K.lookup cc = some o) (oc : o.data = .cell cv) (r0 : RelV v0 u0) (r1 : RelV v1 u1)
    (ns : h1.Ns s.heap.objs.size (fun x => ([(n0, u0), (n1, u1)] : List (PySem.Str × Value)).reverse.lookup x)) (k : ∀ b u, s.heap.get? b = some u → h1.get? b = some u) :
    Inv (supX P w K mg base [n0, n1] qual scope f cda cc A outer s H) [] [some v0, some v1] H { s with heap := h1, toks := tk } := by
  have cb : base.get? cc = some o := e0.mod.kin _ _ lc
  have cells : ∀ {x : PySem.Str} {c : Addr}, (supX P w K mg base [n0, n1] qual scope f cda cc A outer s H).env.cells.lookup x = some c → c = cc ∧ x = "__class__" := fun {x c} h => by
    have m := PySem.mem_of_lookup (show ([("__class__", cc)] : List (PySem.Str × Addr)).lookup x = some c from h)
    have := List.mem_singleton.mp m
    exact ⟨congrArg Prod.snd this, congrArg Prod.fst this⟩
  have noA : ∀ b : Addr, b ∉ (supX P w K mg base [n0, n1] qual scope f cda cc A outer s H).ex := fun b z => absurd (show b ∈ ([] : List Addr) from z) (by simp)
  refine ⟨⟨e0.mod, S.kind, rfl, rfl, Nat.le_refl _, fun x y c h1 h2 => by rw [(cells h1).2, (cells h2).2], fun x hx => ?_, fun x c z => (nomatch z), fun _ => hd, Around.frames_deeper e0.frames, .inr ⟨rfl, rfl⟩, fun b z => absurd z (noA b), e0.bs, e0.bsz, fun b _ _ => noA b, fun b z => absurd z (noA b), e0.funs, e0.frf⟩,
    rfl, e0.bare, Un.kept k, ⟨_, ns, fun i x v h1 h2 h3 => ?_⟩, fun x c h => ⟨cv, ?_⟩, e0.hok.fresh (Nat.le_refl _), fun x c h => ?_, fun p hp => absurd (show p ∈ ([] : List (Addr × Obj)) from hp) (by simp), e0.hok.kept k, rfl⟩
  · have hx : scope.names.lookup x = some .cell ∨ scope.names.lookup x = some .free := hx
    rcases hx with hx | hx
    · exact absurd rfl (S.all _ (PySem.mem_of_lookup hx)).1
    · have := (S.all _ (PySem.mem_of_lookup hx)).2 rfl
      exact ⟨cc, by rw [show x = "__class__" from this]; rfl⟩
  · match i, h1, h2 with
    | 0, h1, h2 =>
      cases (Option.some.inj h1)
      cases (Option.some.inj (Option.some.inj h2))
      refine ⟨u0, r0, .inl ⟨S.l0, ?_⟩⟩
      show ([(n1, u1), (n0, u0)] : List (PySem.Str × Value)).lookup n0 = some u0
      have ne : (n0 == n1) = false := by simpa using S.ne
      simp [List.lookup, ne]
    | 1, h1, h2 =>
      cases (Option.some.inj h1)
      cases (Option.some.inj (Option.some.inj h2))
      refine ⟨u1, r1, .inl ⟨S.l1, ?_⟩⟩
      show ([(n1, u1), (n0, u0)] : List (PySem.Str × Value)).lookup n1 = some u1
      simp [List.lookup]
    | i + 2, h1, h2 => cases h1
  · rw [(cells h).1]
    exact ⟨o, k _ _ (e0.bs _ _ cb).1, oc⟩
  · rw [(cells h).1]
    exact (e0.bs _ _ cb).2
end
/-! ### the wrapper that super().__init__ gives, called -/
section
variable {prog : Program} {w : World} {A : Around} {E : Value → Shared → Prop} {h : Heap} {g : Array GenState} {d : Drawn} {t : Nat} {os : OsState}
theorem wr_call {nm q : PySem.Str} {C N : Addr} {bs bm : List Value} {sn : List PySem.Str} {sub : List Value} {ab : Bool} {col : Option Bool} {dd : Option Addr} {k0 k1 k2 k3 k5 : Option Value} {u e t0 : Addr} {us : List Value} {Q : Value → Shared → Prop}
    (hm : PySem.HandSPX.refsVE bm = true) (hC : h.get? C = some (excClassObj nm q C N bs bm true sn sub ab col dd k0 k1 k2 k3 k5 "ValueError.__new__")) (he : h.get? e = some (PySem.HandSPX.excO C t0))
    (hu : h.get? u = some (PySem.W.kxs_mw "ValueError.__init__" e)) (hl : us.length ≤ sizeLine)
    (hq : ∀ h' t1, (∀ b o, b ≠ e → h.get? b = some o → h'.get? b = some o) → h'.get? e = some (PySem.HandSPX.excO C t1) → Q .none ⟨h', g, d, t, os⟩) :
    wpAny (model prog w) A (call (.ref u) us) Q E ⟨h, g, d, t, os⟩ := by
  have VE := PySem.F.excBase_ValueError
  have y1 : (Value.type "method-wrapper" == Value.type "method") = false := by decide
  have y2 : (Value.type "method-wrapper" == Value.type "builtin_function_or_method") = false := by decide
  refine wpAny_call (codeAny_of_tree ?run)
  change wpAny _ A.in1 (callAny (.ref u) ⟨us, []⟩) _ _ _
  simp only [callAny]
  refine wpAny_bind (wpAny_load hu ?look)
  simp only [PySem.W.kxs_mw, y1, y2, beq_self_eq_true, Bool.or_true, if_true]
  refine PySem.W.KFB.if_so (by decide) (wpAny_bind (PySem.W.check_bound_init VE.toExcCallFacts hC he rfl (wpAny_bind (wpAny_pure (wpAny_pure ?go)))))
  exact ⟨plainId_quiet VE.init.plain _, codeAny_builtin VE.initEntry (PySem.W.exc_init_tree (cls := .ref C) (t0 := t0) (dv := none) (c2 := .none) (c3 := .none) (b4 := .bool false) he hl fun h' a b _ => hq h' _ a b)⟩
end
/-! ### the rule -/
/-- self and the value: the error gets its dict with the one field -/
def spErr (C : Addr) (fld : PySem.Str) (px : V → Prop) : Sp := fun vs H Q _ => ∃ (a : Addr) (x : V), vs = [.ref a, x] ∧ px x ∧ H a = some (exo a C none) ∧ ∀ dx, H dx = none → dx ≠ a → Q .non (L2.upd (L2.upd H dx (exd dx [(fld, x)])) a (exo a C (some dx)))
section
variable {P : Program} {w : World} {K : PySem.W.Frag} {mg : PySem.Str → Option Value} {base : Heap}
theorem wr_inv {X : Cx} {pins : List (Addr × Obj)} {σ : L2.St} {H : Hp} {s : Shared} {a C u : Addr} {us : List Value} {Q : Value → Shared → Prop} {E : Value → Shared → Prop} {A : Around} (T : OexC X.K C) (I : Inv X pins σ H s) (e : H a = some (exo a C none))
    (hu : s.heap.get? u = some (PySem.W.kxs_mw "ValueError.__init__" a)) (hl : us.length ≤ sizeLine) (h : ∀ s', Inv X pins σ H s' → Q .none s') : wpAny (model X.prog X.w) A (call (.ref u) us) Q E s := by
  obtain ⟨_, _, _, _, bm, _, _, _, _, _, _, _, _, _, _, hC, hbm⟩ := T.cls
  obtain ⟨t1, ho⟩ := exo_at I.hok e
  obtain ⟨hp, g, d, t, os⟩ := s
  have same : L2.upd H a (exo a C none) = H := funext fun b => if z : b = a then by rw [z, upd_same, e] else upd_ne z
  refine wr_call hbm (I.kIn _ _ hC) ho hu hl fun h2 _ k hx => h _ ?_
  exact same ▸ I.write (x := a) (e := a) (t' := t) (by rw [e]; trivial) (Or.inl rfl) k ⟨_, hx⟩ (exo_ok hx)
theorem ok_sup {qual file n0 n1 fld : PySem.Str} {params : Arguments} {body : List Stmt} {scope : Scope} {C f : Addr} {fd : FuncData} {e0 : Expr} {p0 p1 p2 p3 p4 p5 p6 p7 p8 : Pos} {px : V → Prop} (D : ErrD K qual file params body scope C f fd) (Cc : ErrC P K mg file C) (S : ErrS n0 n1 scope params)
    (hb : body = [.Expr (.Call (.Attribute (.Call (.Name "super" p0) [] [] p1) "__init__" p2) [e0] [] p3) p4, .Assign [.Attribute (.Name n0 p5) fld p6] (.Name n1 p7) p8]) (hno : PySem.W.findIn K (.ref C) fld = some none)
    (d0 : (n0 == ("__debug__" : PySem.Str)) = false ∧ (n0 == ("__classdict__" : PySem.Str)) = false) (d1 : (n1 == ("__debug__" : PySem.Str)) = false ∧ (n1 == ("__classdict__" : PySem.Str)) = false)
    (pl : Env → Sem Bool) (hev : ∀ env : Env, eval (.Call (.Attribute (.Call (.Name "super" p0) [] [] p1) "__init__" p2) [e0] [] p3) env = (do
      let sup ← attributeBase (.Call (.Name "super" p0) [] [] p1) "__init__" env (eval (.Call (.Name "super" p0) [] [] p1) env)
      standAt p2.atName
      let (m, first) ← holding [sup] (getMethod sup "__init__" (pl env))
      callWith p3 m first (backTo p3 (starEach [e0] env)) []))
    (hsw : ∀ env : Env, swapsWith (.Call (.Attribute (.Call (.Name "super" p0) [] [] p1) "__init__" p2) [e0] [] p3) none p4.line env = pure false)
    (hsw2 : ∀ env : Env, swapsWith (.Name n1 p7) (some (.Attribute (.Name n0 p5) fld p6)) p8.line env = pure false)
    (hst : ∀ env : Env, starEach [e0] env = (false, eval e0 env) :: starEach [] env)
    (h0 : ∀ (cda cc : Addr) (A : Around) (outer : List Env) (s : Shared) (H : Hp), ∃ te, PE (supX P w K mg base [n0, n1] qual scope f cda cc A outer s H) e0 te ∧ ∀ (a : Addr) (x : V) (H' : Hp) (R : VK), px x → (∀ v, R v H') → te [some (.ref a), some x] H' R) :
    FnOk P w K mg base CX0 2 f fd [n0, n1] (spErr C fld px) := by
  refine ⟨fun vs H Q E h => ?_, fun A outer s H args us vs Q E hr e0' hbn r hsp => ?_⟩
  · obtain ⟨a, x, rfl, _⟩ := h
    rfl
  obtain ⟨a, x, rfl, hx, ha, q⟩ := hsp
  cases r with
  | @cons _ u0 _ _ r0 r' =>
  cases r' with
  | @cons _ u1 _ _ r1 r2 =>
  cases r2
  obtain rfl : u0 = Value.ref a := r0
  obtain ⟨oc, od, dV, kV, doc, pm, an, ct, osl, cc, cda, c1, d1', vs, l1, tf, c2, d2, l2, rfl, lk, hcd, lcda, hvs, lcc⟩ := D.ex
  obtain ⟨ar, har, harg⟩ := S.arg
  have bsk : ∀ b o, base.get? b = some o → s.heap.get? b = some o := fun b o e => (e0'.bs b o e).1
  have KX : K.In s.heap := e0'.mod.kin.keeps bsk
  subst hb
  refine PySem.ks_codeAny_call_defAt (binds := [(n0, .ref a), (n1, u1)]) hr.depth (KX _ _ lk) rfl (e0'.mod.nolimit.keeps bsk) (PySem.W.codeRec_of KX hcd) rfl hbn (fun y hy => (S.all y hy).1) (fun y hy => ?_) (fun h1 ns k => ?_) S.co S.gen S.kind
  · rcases List.mem_cons.mp hy with z | hy
    · rw [z]; exact S.l0
    · rw [List.mem_singleton.mp hy]; exact S.l1
  have I := inv_sup (P := P) (w := w) (qual := qual) (f := f) (cda := cda) (tk := s.toks + 2) (H := H) (v0 := .ref a) (v1 := x) S hr.hd e0' lcc rfl rfl r1 ns k
  obtain ⟨te, he, hte⟩ := h0 cda cc A outer s H
  obtain ⟨_, _, _, _, bm, _, _, _, _, _, _, _, _, _, _, hC, hbm⟩ := Cc.oex.cls
  have K1 : K.In h1 := KX.keeps k
  have quiet : interactive (supX P w K mg base [n0, n1] qual scope f cda cc A outer s H).env = false := by
    show (scope.kind == ScopeKind.module && _) = false
    rw [S.kind]
    rfl
  have hxa := exo_at I.hok ha
  obtain ⟨t1, ho⟩ := hxa
  refine PySem.ks_wpAt_execs_cons (PySem.ks_wpAt_Expr_any (PySem.ks_wpAt_MethodCall (PySem.ks_wpAt_super_base S.sup S.cls rfl rfl (K1 _ _ lk) rfl har rfl (K1 _ _ lcda) rfl hvs Cc.file Cc.top ?_) (hev _)) quiet (hsw _))
  obtain ⟨mb, nb, bb⟩ := e0'.mod.blt
  have bs1 : ∀ b o, base.get? b = some o → h1.get? b = some o := fun b o e => k _ _ (bsk b o e)
  refine PySem.W.ks_loadName_global S.kind S.sup (PySem.Calls.loadGlobal_builtin (e0'.mod.glob.keeps bs1) Cc.nosuper (nb.keeps bs1) ((bb "super" (by decide)).trans (by decide +kernel)) ⟨rfl, ?_⟩)
  refine wpAny_loadName_free S.kind S.cls rfl ⟨_, K1 _ _ lcc, rfl⟩ ?_
  refine wpAny_loadName_local S.kind (by rw [harg]; exact S.l0) ns (v := .ref a) ?_ ?_
  · rw [harg]
    show ([(n1, u1), (n0, Value.ref a)] : List (PySem.Str × Value)).lookup n0 = some (.ref a)
    have ne : (n0 == n1) = false := by simpa using S.ne
    simp [List.lookup, ne]
  refine PySem.ks_wpAny_isType_cls (K1 _ _ hC) rfl ⟨rfl, ?_⟩
  refine PySem.ks_wpAny_call_super (K1 _ _ hC) rfl ho rfl (fun c z => by cases z) (PySem.W.looks_mroIn K1 Cc.self) fun h2 e2 k2 => ?_
  have K2 : K.In h2 := K1.keeps k2
  obtain ⟨cd, hcl⟩ : ∃ cd, PySem.W.clsIn K C = some cd := ⟨_, by unfold PySem.W.clsIn; rw [hC] <;> rfl⟩
  have along := Cc.sup
  unfold PySem.W.ks_superIn at along
  rw [hcl] at along
  have aC : a ≠ C := fun z => by
    have n := (e0'.bs _ _ (e0'.mod.kin _ _ hC)).2
    rw [← z, ha] at n
    cases n
  have at2 : PySem.W.InstAt h2 a (PySem.HandSPX.excO C t1) C none := ⟨k2 _ _ ho, rfl, rfl, trivial⟩
  refine PySem.W.kxs_getMethod PySem.W.kxs_ValueError e2 (PySem.W.looks_opaque K2 Cc.opq) (l₀ := cd.mro) ((PySem.W.looks_clsIn K2 hcl).andThen .now) rfl K2 along (at2.type.andThen (PySem.W.looks_subIn K2 Cc.ve)) aC rfl ?_
  have up : ∀ b o, h1.get? b = some o → (h2.push (PySem.W.kxs_mw "ValueError.__init__" a)).get? b = some o := fun b o e => Heap.get?_push_of_some _ (k2 _ _ e)
  have lt2 : h1.objs.size < h2.objs.size := Heap.lt_size e2
  have gu : (h2.push (PySem.W.kxs_mw "ValueError.__init__" a)).get? h2.objs.size = some (PySem.W.kxs_mw "ValueError.__init__" a) := Heap.get?_push_at rfl rfl
  have I2 := (I.kept (t' := s.toks + 2 + 1) up).pins_of (pins' := [(h2.objs.size, PySem.W.kxs_mw "ValueError.__init__" a)]) fun p hp => by
    rw [List.mem_singleton.mp hp]
    exact ⟨gu, I.hok.fresh (Nat.le_of_lt lt2), Nat.ne_of_gt (Nat.lt_trans I.lt lt2), I.nofs (Nat.le_of_lt lt2), fun v z => by cases z⟩
  have args := (pa_cons he pa_nil (hst _)).run p3 _ _ _ H (fun vs H2 => H2 = H ∧ vs.length = 1) I2 (hte a x H _ hx fun v => ⟨rfl, rfl⟩)
  rw [hst] at args
  show wpAny (model P w) _ (callWith p3 (.ref h2.objs.size) [] (backTo p3 (starEach [e0] (supX P w K mg base [n0, n1] qual scope f cda cc A outer s H).env)) []) _ _ _
  rw [hst]
  refine PySem.W.kxs_callWith (i := "ValueError.__init__") (x := a) rfl (PySem.Calls.evalArgs_plain (wpAny_mono args (fun us s3 hs3 => ?_) fun _ _ z => z.elim))
  obtain ⟨ys, H3, I3, rv, rfl, one⟩ := hs3
  have pin := (I3.pin (h2.objs.size, PySem.W.kxs_mw "ValueError.__init__" a) (by simp [supX])).1
  refine ⟨pin, wr_inv (X := supX P w K mg base [n0, n1] qual scope f cda cc A outer s H3) Cc.oex I3 ha pin (by rw [List.nil_append, ← rv.length, one]; decide) fun s4 I4 => ?_⟩
  refine wpAt_of_wpAny (wpAny_mono ((pss_one (ps_ost (f := fld) (p' := p6) (pos := p8) (pe_var (i := 0) (pos := p5) rfl (.inl S.l0) d0.1 d0.2) (pe_var (i := 1) (pos := p7) rfl (.inl S.l1) d1.1 d1.2) (hsw2 _))).run _ s4 _ H3 ⟨fun _ H4 => Q .non H4, fun _ _ => False, fun _ _ => False, fun _ _ => False⟩ I4
    ⟨_, rfl, _, rfl, a, C, rfl, Cc.oex, hno, .inl ⟨ha, q⟩⟩) (fun fl s5 hs5 => ?_) fun _ _ z => z.elim)
  cases fl with
  | next =>
    obtain ⟨_, H5, J, q5⟩ := hs5
    exact ⟨.non, H5, J.os, J.bare, J.base, J.hok, rfl, q5⟩
  | ret u =>
    obtain ⟨_, _, _, _, _, z⟩ := hs5
    exact z.elim
  | brk =>
    obtain ⟨_, _, _, z⟩ := hs5
    exact z.elim
  | cont =>
    obtain ⟨_, _, _, z⟩ := hs5
    exact z.elim
end
end SupE


/-! TryAs: a try whose except clauses, one or several, each give the error a name. -/
namespace TrA
open PySem PySem.Spec PyProof.Rows L2
/-- behind a suite its name (slot i) is gone -/
def aft (i : Nat) (D : Ends) : Ends := ⟨fun σ H => D.nx (σ.set i none) H, D.rt, fun σ H => D.bk (σ.set i none) H, fun σ H => D.ct (σ.set i none) H⟩
abbrev Cla := Value × Nat × (Addr → Value → Option Addr → TS)
/-- what the clauses wish of an error, the first one that names its class -/
def wAll (K : PySem.W.Frag) (Wo : WX) (D : Ends) : List Cla → WX
  | [] => Wo
  | q :: r => fun cls d σ H => ∃ b, PySem.W.exmOne K cls q.1 = some b ∧ (b = true → ∀ a, H a = none → q.2.2 a cls d (aft q.2.1 D) (σ.set q.2.1 (some (.ref a))) H) ∧ (b = false → wAll K Wo D r cls d σ H)
inductive Clas (X : Cx) : List ExceptHandler → List Cla → Prop
  | nil : Clas X [] []
  | cons {x n : Str} {c : Value} {i : Nat} {t : Addr → Value → Option Addr → TS} {b0 : Stmt} {bs : List Stmt} {p1 p2 : Pos} {hs : List ExceptHandler} {l : List Cla} (nm : Names X x c) (sl : X.N[i]? = some n) (lo : X.env.kindOf n = some .local)
      (su : ∀ (a : Addr) (o : Obj) (cls : Value) (d : Option Addr) (pn : List (Addr × Obj)), Zc cls d o → (∃ vs, o.data = .fields vs) → PSs (X.suite a ((a, o) :: pn)) (b0 :: bs) (t a cls d)) (more : Clas X hs l) :
      Clas X (.ExceptHandler (some (.Name x p1)) (some n) (b0 :: bs) p2 :: hs) ((c, i, t) :: l)
/-- an error at a, caught by the running frame -/
structure Caught (X : Cx) (a : Addr) (B : Heap) (s0 : Shared) (pins : List (Addr × Obj)) (σ : L2.St) (H : Hp) (cls : Value) (d : Option Addr) (s : Shared) : Prop where
  i0 : Inv X pins σ H s0
  nb : ∀ b o, s0.heap.get? b = some o → b ∉ frs X.stack → B.get? b = some o
  up : s0.heap.UpToSlots s.heap
  fl : PySem.HandSPX.FlyingZ B (X.env :: X.outer) a (Zc cls d) s.heap
  na : H a = none
  os : s.os = s0.os
  ba : AllBare s.gens
section
variable {X : Cx} {a : Addr} {B : Heap} {s0 s : Shared} {pins : List (Addr × Obj)} {σ : L2.St} {H : Hp} {cls : Value} {d : Option Addr}
theorem Caught.inv (c : Caught X a B s0 pins σ H cls d s) : Inv X pins σ H s := c.i0.landed c.nb c.fl.1 c.up c.os c.ba
theorem Caught.at {h : Heap} (c : Caught X a B s0 pins σ H cls d s) (fl : PySem.HandSPX.FlyingZ B (X.env :: X.outer) a (Zc cls d) h) (up : s.heap.UpToSlots h) : Caught X a B s0 pins σ H cls d { s with heap := h } :=
  ⟨c.i0, c.nb, c.up.trans up, fl, c.na, c.os, c.ba⟩
/-- the suite's state: the error's object, which is no frame's -/
theorem Caught.suite (hs : X.stack = X.env :: X.outer) (hf : X.env.frame = some X.env.locals) (c : Caught X a B s0 pins σ H cls d s) :
    ∃ o vs, s.heap.get? a = some o ∧ Zc cls d o ∧ o.data = .fields vs ∧ Inv (X.suite a ((a, o) :: (X.pn ++ pins))) [] σ H s := by
  obtain ⟨o, vs, e, z, dd⟩ := c.fl.there
  have out : a ∉ frs (X.env :: X.outer) := fun m => by
    obtain ⟨_, u, e1, no⟩ := c.fl.2.2.1.mem m
    have e2 := e.symm.trans e1
    cases e2
    exact no _ dd
  have n1 : a ≠ X.env.locals := fun q => out (List.mem_filterMap.mpr ⟨X.env, List.mem_cons_self, by rw [hf, q]⟩)
  have n2 : a ∉ X.fs := fun m => by
    obtain ⟨v, hv, q⟩ := List.mem_filterMap.mp m
    exact out (List.mem_filterMap.mpr ⟨v, List.mem_cons_of_mem _ hv, q⟩)
  exact ⟨o, vs, e, z, dd, c.inv.suite e dd c.na n1 n2⟩
/-- the clauses, tried one behind the other -/
theorem clauses (hs : X.stack = X.env :: X.outer) (hf : X.env.frame = some X.env.locals) (nd : X.N.Nodup) {Wo : WX} (tk : Takes X Wo) {D : Ends} : ∀ {hds : List ExceptHandler} {l : List Cla}, Clas X hds l →
    ∀ {s : Shared}, Caught X a B s0 pins σ H cls d s → wAll X.K Wo D l cls d σ H → wpAny (model X.prog X.w) X.A (handleBy (.ref a) X.env hds) (SP X pins D) X.xe s := by
  intro hds l k
  induction k with
  | nil =>
    intro s c w
    refine wpAny_handleBy_nil ?_
    obtain ⟨_, _, _, o, vs, T, oT, ts, e, _, dd, one, _⟩ := id c.fl
    unfold PySem.passOn
    refine wpAny_bind (wpAny_field e dd one ?_)
    have some_ : ¬ ((Value.ref T == Value.none) = true) := by simp
    rw [if_neg some_]
    have out : wpAny (model X.prog X.w) X.A (setFlight (.ref a) X.env.frame) (fun _ z => wpAny (model X.prog X.w) X.A (throw (.ref a) : Sem Flow) (SP X pins D) X.xe z) X.xe s := by
      rw [hf]
      exact PySem.HandSPX.setFlight_upZ c.fl fun h hh up => wpAny_throw (tk _ _ ⟨a, B, s0, pins, σ, H, cls, d, rfl, c.i0, c.nb, c.up.trans up, .inr (.inr (by rw [hs]; exact hh)), c.na, c.os, c.ba, w⟩)
    first
      | exact wpAny_bind (wpAny_pure (wpAny_bind out))
      | exact wpAny_bind out
  | @cons x n cl i t b0 bs p1 p2 hds l nm sl lo su more ih =>
    intro s c w
    obtain ⟨b, hb, yes, no⟩ := w
    obtain ⟨o, vs, e, z, dd, S⟩ := c.suite hs hf
    have ty : PySem.W.Looks (model X.prog X.w) s.heap (typeOf (.ref a)) cls := fun _ _ _ _ k q => wpAny_typeOf_ref (k _ _ e) (by rw [z.1]; exact q)
    have mt := PySem.W.exm_one (M := model X.prog X.w) c.inv.kIn ty hb
    have name : ∀ {Q : Value → Shared → Prop} {E : Value → Shared → Prop}, Q cl s → wpAny (model X.prog X.w) (X.A.mark (some (.ref a))) (eval (.Name x p1) X.env) Q E s := fun {Q E} q => by
      obtain ⟨g, db, m | ⟨m, bv, nn⟩⟩ := nm
      · exact ld_glob (X := X.suite a ((a, o) :: (X.pn ++ pins))) S g m q db
      · exact ld_blt (X := X.suite a ((a, o) :: (X.pn ++ pins))) S g m bv q nn db
    refine wpAny_handleBy_cons (codeAny_handlers_test (name (mt.here ?_))) fun q => nomatch q
    cases b with
    | false => exact ih c (no rfl)
    | true =>
      refine codeAny_handlers_suite_as (PySem.HandSPX.lands_againZ c.fl fun h fl up => ?_)
      have c2 := c.at fl up
      obtain ⟨o2, vs2, e2, z2, dd2, S2⟩ := c2.suite hs hf
      refine store_ok (X := X.suite a ((a, o2) :: (X.pn ++ pins))) (v := .ref a) S2 nd sl (.inl lo) rfl (fun s3 S3 => ?_) (.inr lo)
      refine wpAny_mono ((su a o2 cls d (X.pn ++ pins) z2 ⟨vs2, dd2⟩).run [] s3 _ H (aft i D) S3 (yes rfl a c.na)) (fun f s4 q => ?_) fun _ _ z => z.elim
      cases f with
      | next =>
        obtain ⟨σ4, H4, S4, q4⟩ := q
        exact gone_ok (S4.unsuite c.inv.ok) nd sl lo fun s5 I5 => ⟨_, _, I5, q4⟩
      | brk =>
        obtain ⟨σ4, H4, S4, q4⟩ := q
        exact gone_ok (S4.unsuite c.inv.ok) nd sl lo fun s5 I5 => ⟨_, _, I5, q4⟩
      | cont =>
        obtain ⟨σ4, H4, S4, q4⟩ := q
        exact gone_ok (S4.unsuite c.inv.ok) nd sl lo fun s5 I5 => ⟨_, _, I5, q4⟩
      | ret u =>
        obtain ⟨v4, σ4, H4, S4, r4, q4⟩ := q
        exact gone_ok (S4.unsuite c.inv.ok) nd sl lo fun s5 I5 => ⟨_, _, _, I5, r4, q4⟩
end
section
variable {X : Cx} {body : List Stmt} {h0 : ExceptHandler} {hds : List ExceptHandler} {l : List Cla} {pos : Pos} {tb : WX → TS} {Wo : WX}
/-- try: body, except x as n: .., except y as m: .. -/
theorem ps_tryA (hs : X.stack = X.env :: X.outer) (hf : X.env.frame = some X.env.locals) (nd : X.N.Nodup) (tk : Takes X Wo)
    (hb : ∀ (W : WX) (pn : List (Addr × Obj)) (xe : Value → Shared → Prop), Takes (X.tr pn xe) W → PassesOwn (model X.prog X.w) X.A X.env xe → PSs (X.tr pn xe) body (tb W)) (k : Clas X (h0 :: hds) l) :
    PS X (.Try body (h0 :: hds) [] [] pos) (fun D σ H => tb (wAll X.K Wo D l) D σ H) := by
  refine ⟨fun pins s σ H D I h => ?_⟩
  have fr : X.A.frames = some (X.env :: X.outer) := I.ok.frames.trans (by rw [hs])
  refine wpAny_Try_except (wpAny_mono ((hb (wAll X.K Wo D l) (X.pn ++ pins) (fun v z => wpAny (model X.prog X.w) X.A (noteFrame v X.env) (fun _ z2 => wpAny (model X.prog X.w) X.A (setFlight v none) (fun _ z3 =>
    wpAny (model X.prog X.w) X.A (handleBy v X.env (h0 :: hds)) (SP X pins D) X.xe z3) X.xe z2) X.xe z) (fun u z up => ?_) PassesOwn.looking).run [] s σ H D (I.toTry _) h) (fun f z q => ?_) fun _ _ q => q)
  · obtain ⟨a, B, z0, pn, σ1, H1, cls, d, rfl, J, nb, slots, sky, na, os, ba, w⟩ := up
    have sky' : Sky B (X.env :: X.outer) a (Zc cls d) X.env.locals z.heap := hs ▸ sky
    exact Sky.land Zc.steady fr hf sky' fun h fl more => clauses hs hf nd tk k (s := { z with heap := h }) ⟨J.ofTry I.ok, nb, slots.trans more, fl, na, os, ba⟩ w
  · cases f with
    | next =>
      obtain ⟨σ1, H1, J, q⟩ := q
      exact wpAny_execs_nil ⟨_, _, J.ofTry I.ok, q⟩
    | brk =>
      obtain ⟨σ1, H1, J, q⟩ := q
      exact ⟨_, _, J.ofTry I.ok, q⟩
    | cont =>
      obtain ⟨σ1, H1, J, q⟩ := q
      exact ⟨_, _, J.ofTry I.ok, q⟩
    | ret u =>
      obtain ⟨v, σ1, H1, J, r, q⟩ := q
      exact ⟨_, _, _, J.ofTry I.ok, r, q⟩
end
end TrA


/-! Errs: own errors below ValueError: what the top leaves of them, raised, caught. -/
namespace Ers
open PySem PySem.Spec PyProof.Rows L2
/-! ### what the top leaves -/
/-- one own error: its class's name, its __init__'s text -/
structure DefE where
  cls : PySem.Str
  qual : PySem.Str
  params : Arguments
  body : List Stmt
  scope : Scope
def DefE.at_ (d : DefE) (K : PySem.W.Frag) : Addr := He.ma K (He.ga K d.cls) "__init__"
abbrev FnE : Type := Option (PySem.Str × PySem.Str × Arguments × FuncBody × Scope × Addr × List PySem.Str × Addr)
def fnE (K : PySem.W.Frag) (a : Addr) : FnE := match K.lookup a with
  | some ⟨_, _, .func fd, _⟩ => some (fd.name, fd.qualname, fd.params, fd.body, fd.scope, fd.globals, fd.closure.map (·.1), fd.builtins)
  | _ => none
def DefE.val (d : DefE) : FnE := some ("__init__", d.qual, d.params, .stmts d.body, d.scope, mainGlobals, ["__class__"], builtinsNs)
def clsB (K : PySem.W.Frag) (C : Addr) : Bool := match K.lookup C with
  | some ⟨.type t, _, .cls cd, sl⟩ => decide (t = "type") && (match cd.mro, sl.toList with
    | .ref c :: bm, [_, _, _, _, some (.builtin n), _] => decide (c = C) && (decide (n = "ValueError.__new__") && (cd.hasDict && (!cd.hasDel && PySem.HandSPX.refsVE bm)))
    | _, _ => false)
  | _ => false
/-- the class in the closure's cell -/
def celB (K : PySem.W.Frag) (C : Addr) (l : List (PySem.Str × Addr)) : Bool := match l with
  | [(_, cc)] => (match K.lookup cc with
    | some ⟨_, _, .cell (some (.ref D)), _⟩ => decide (D = C)
    | _ => false)
  | _ => false
theorem celB_ok {K : PySem.W.Frag} {C : Addr} {l : List (PySem.Str × Addr)} (h : celB K C l = true) : ∃ x cc c d s, l = [(x, cc)] ∧ K.lookup cc = some ⟨c, d, .cell (some (.ref C)), s⟩ := by
  unfold celB at h
  split at h
  · rename_i x cc
    split at h
    · rename_i c d D s e
      have e2 := of_decide_eq_true h
      subst e2
      exact ⟨x, cc, c, d, s, rfl, e⟩
    · cases h
  · cases h
/-- the file that the code names -/
def filB (K : PySem.W.Frag) (file : PySem.Str) (v : Value) : Bool := match v with
  | .ref cda => (match K.lookup cda with
    | some ⟨_, _, .fields vs, _⟩ => (match vs.toList with
      | _ :: _ :: .str z _ :: _ => decide (z = file)
      | _ => false)
    | _ => false)
  | _ => false
theorem filB_ok {K : PySem.W.Frag} {file : PySem.Str} {v : Value} (h : filB K file v = true) : ∃ cda c d vs s t, v = .ref cda ∧ K.lookup cda = some ⟨c, d, .fields vs, s⟩ ∧ vs[2]? = some (.str file t) := by
  unfold filB at h
  split at h
  · rename_i cda
    split at h
    · rename_i c d vs s e
      split at h
      · rename_i a1 a2 z tz rest ez
        have ef := of_decide_eq_true h
        subst ef
        exact ⟨cda, c, d, vs, s, tz, rfl, e, by rw [← Array.getElem?_toList, ez]; rfl⟩
      · cases h
    · cases h
  · cases h
def noneB : Value → Bool
  | .none => true
  | _ => false
theorem noneB_ok {v : Value} (h : noneB v = true) : v = .none := by
  cases v <;> first | rfl | cases h
def cloB (K : PySem.W.Frag) (C f : Addr) (qual file : PySem.Str) : Bool := match K.lookup f with
  | some ⟨_, _, .func fd, _⟩ => PySem.W.codeIn K fd.code qual && (celB K C fd.closure && (filB K file fd.code && noneB fd.defaults))
  | _ => false
def erB (K : PySem.W.Frag) (C : Addr) (qual file fld : PySem.Str) : Bool :=
  clsB K C && (cloB K C (He.ma K C "__init__") qual file && (He.eqO (PySem.W.findIn K (.ref C) "__setattr__") (some (some (.builtin "object.__setattr__"))) && (decide (PySem.W.subIn K (.ref C) (.type "BaseException") = some true) &&
  (decide (PySem.W.typeIn K (.ref C) = some (.type "type")) && (PySem.W.keepIn K (.ref C) && (decide (PySem.W.mroIn K C (.ref C) = some true) && (He.eqO (PySem.W.ks_superIn K C C "__init__") (some (some (.builtin "ValueError.__init__"))) &&
  (decide (PySem.W.subIn K (.ref C) (.type "ValueError") = some true) && (He.eqO (PySem.W.nsIn K cStatics "thirdparty.any") (some none) && (He.eqO (PySem.W.findIn K (.ref C) "__init__") (some (some (.ref (He.ma K C "__init__")))) &&
  (decide (PySem.W.typeIn K (.ref (He.ma K C "__init__")) = some (.type "function")) && (xfB K C && He.eqO (PySem.W.findIn K (.ref C) fld) (some none)))))))))))))
theorem clsB_ok {K : PySem.W.Frag} {C : Addr} (h : clsB K C = true) : ∃ nm q N bs bm sn sub ab col dd k0 k1 k2 k3 k5, K.lookup C = some (excClassObj nm q C N bs bm true sn sub ab col dd k0 k1 k2 k3 k5 "ValueError.__new__") ∧ PySem.HandSPX.refsVE bm = true := by
  unfold clsB at h
  split at h
  · rename_i t dd cd sl e
    obtain ⟨h1, h⟩ := He.ba h
    split at h
    · rename_i c bm k0 k1 k2 k3 n k5 em es
      obtain ⟨h2, h⟩ := He.ba h
      obtain ⟨h3, h⟩ := He.ba h
      obtain ⟨h4, h⟩ := He.ba h
      obtain ⟨h5, h6⟩ := He.ba h
      have h1 := of_decide_eq_true h1
      have h2 := of_decide_eq_true h2
      have h3 := of_decide_eq_true h3
      obtain ⟨nm, bs, mro, ns, qn, hd, sn, sub, ab, col, del⟩ := cd
      dsimp only at em h4 h5
      subst h1 h2 h3 em h4
      have h5 : del = false := by simpa using h5
      subst h5
      have es : sl = #[k0, k1, k2, k3, some (.builtin "ValueError.__new__"), k5] := by
        obtain ⟨l⟩ := sl
        simp only at es
        rw [es]
      subst es
      exact ⟨nm, qn, ns, bs, bm, sn, sub, ab, col, dd, k0, k1, k2, k3, k5, e, h6⟩
    · cases h
  · cases h
theorem errD_of {K : PySem.W.Frag} {d : DefE} {C : Addr} {file : PySem.Str} (eC : C = He.ga K d.cls) (e : fnE K (d.at_ K) = d.val) (c : cloB K C (d.at_ K) d.qual file = true) : ∃ fd, SupE.ErrD K d.qual file d.params d.body d.scope C (d.at_ K) fd ∧ fd.defaults = .none := by
  unfold fnE at e
  unfold cloB at c
  rcases q : K.lookup (d.at_ K) with _ | ⟨oc, od, dt, osl⟩
  · rw [q] at c; cases c
  · rw [q] at c e
    cases dt
    case func fd =>
      obtain ⟨n1, n2, n3, n4, n5, n6, n7, n8, n9, n10, n11, n12, n13, n14, n15⟩ := fd
      have e : (some (n1, n2, n3, n4, n5, n6, n7.map (·.1), n15) : FnE) = (some (("__init__" : PySem.Str), d.qual, d.params, FuncBody.stmts d.body, d.scope, mainGlobals, ["__class__"], builtinsNs) : FnE) := e
      simp only [Option.some.injEq, Prod.mk.injEq] at e
      obtain ⟨rfl, rfl, rfl, rfl, rfl, rfl, e7, rfl⟩ := e
      obtain ⟨c1, c⟩ := He.ba c
      obtain ⟨c2, c⟩ := He.ba c
      obtain ⟨c3, c4⟩ := He.ba c
      obtain ⟨x, cc, o1, o2, o3, rfl, ecc⟩ := celB_ok c2
      obtain ⟨cda, f1, f2, vs, f3, tz, rfl, ecd, look⟩ := filB_ok c3
      have ex : x = ("__class__" : PySem.Str) := by simpa using e7
      subst ex
      exact ⟨_, ⟨oc, od, n8, n9, n10, n11, n12, n14, osl, cc, cda, f1, f2, vs, f3, tz, o1, o2, o3, rfl, q, c1, ecd, look, ecc⟩, noneB_ok c4⟩
    all_goals cases c
/-- an own error as raise and except ask of it -/
structure Er (P : Program) (w : World) (K : PySem.W.Frag) (mg : PySem.Str → Option Value) (base : Heap) (x : PySem.Str) (C : Addr) (fld : PySem.Str) (px : V → Prop) : Prop where
  T : OexC K C
  X : XfC K C
  no : PySem.W.findIn K (.ref C) fld = some none
  gl : mg x = some (.ref C)
  ex : ∃ fI fd ps, PySem.W.findIn K (.ref C) "__init__" = some (some (.ref fI)) ∧ PySem.W.typeIn K (.ref fI) = some (.type "function") ∧ FnOk P w K mg base CX0 2 fI fd ps (SupE.spErr C fld px) ∧ Binds K fd ps []
structure ErK (P : Program) (K : PySem.W.Frag) (mg : PySem.Str → Option Value) (C : Addr) (qual file fld : PySem.Str) : Prop where
  T : OexC K C
  X : XfC K C
  cc : SupE.ErrC P K mg file C
  clo : cloB K C (He.ma K C "__init__") qual file = true
  no : PySem.W.findIn K (.ref C) fld = some none
  iC : PySem.W.findIn K (.ref C) "__init__" = some (some (.ref (He.ma K C "__init__")))
  tI : PySem.W.typeIn K (.ref (He.ma K C "__init__")) = some (.type "function")
theorem erB_ok {P : Program} {K : PySem.W.Frag} {mg : PySem.Str → Option Value} {C : Addr} {qual file fld : PySem.Str} (h : erB K C qual file fld = true) (ns : mg "super" = none) (pf : ((P.main.file : PySem.Str) == file) = true) (pt : (P.main.scope.names.lookup ("super" : PySem.Str)).isSome = false) : ErK P K mg C qual file fld := by
  obtain ⟨h1, h⟩ := He.ba h
  obtain ⟨h2, h⟩ := He.ba h
  obtain ⟨h3, h⟩ := He.ba h
  obtain ⟨h4, h⟩ := He.ba h
  obtain ⟨h5, h⟩ := He.ba h
  obtain ⟨h6, h⟩ := He.ba h
  obtain ⟨h7, h⟩ := He.ba h
  obtain ⟨h8, h⟩ := He.ba h
  obtain ⟨h9, h⟩ := He.ba h
  obtain ⟨h10, h⟩ := He.ba h
  obtain ⟨h11, h⟩ := He.ba h
  obtain ⟨h12, h⟩ := He.ba h
  obtain ⟨h13, h14⟩ := He.ba h
  have T : OexC K C := ⟨clsB_ok h1, He.eqO_ok h3, of_decide_eq_true h4, of_decide_eq_true h5, h6⟩
  exact ⟨T, xfB_ok h13, ⟨T, of_decide_eq_true h7, He.eqO_ok h8, of_decide_eq_true h9, He.eqO_ok h10, ns, pf, pt⟩, h2, He.eqO_ok h14, He.eqO_ok h11, of_decide_eq_true h12⟩
theorem binds_of {K : PySem.W.Frag} {qual file : PySem.Str} {params : Arguments} {body : List Stmt} {scope : Scope} {C f : Addr} {fd : FuncData} {ps : List PySem.Str} (D : SupE.ErrD K qual file params body scope C f fd) (dn : fd.defaults = .none)
    (h : ∀ (kV doc pm : Value) (an : Option Addr) (cdv ct : Value) (cc : Addr) (us : List Value), us.length = ps.length → bindArgs (PySem.W.ksFn "__init__" qual params body scope .none kV doc pm an cdv ct cc) ⟨us, []⟩ = pure (ps.zip us)) : Binds K fd ps [] := by
  obtain ⟨oc, od, dV, kV, doc, pm, an, ct, osl, cc, cda, c1, d1, vs, l1, tf, c2, d2, l2, rfl, _⟩ := D.ex
  have dn : dV = .none := dn
  subst dn
  exact .all (h kV doc pm an (.ref cda) ct cc)
/-! ### raised -/
/-- behind BadX(v): the error's dict stands, new -/
theorem rs_end {C : Addr} {fld : PySem.Str} {px : V → Prop} {v : V} {H : Hp} {Q : XK} (hx : px v) (h : ∀ d, H d = none → Q (.ref C) (some d) (upd H d (.xd [(fld, v)]))) :
    [v].length ≤ 1000 ∧ ∀ a, H a = none → SupE.spErr C fld px (.ref a :: ([v] ++ [])) (upd H a (exo a C none)) (fun u H2 => u = .non ∧ ∃ (d : Addr) (fs : List (PySem.Str × V)), H2 a = some (exo a C (some d)) ∧ H2 d = some (exd d fs) ∧ H d = none ∧ Q (.ref C) (some d) (upd (del H2 a) d (.xd fs))) (fun _ _ _ => False) := by
  refine ⟨by show 1 ≤ 1000; decide, fun a ha => ⟨a, v, rfl, hx, upd_same, fun dx hd ne => ⟨rfl, dx, [(fld, v)], upd_same, by rw [upd_ne ne]; exact upd_same, by rw [upd_ne ne] at hd; exact hd, ?_⟩⟩⟩
  have hd' : H dx = none := by rw [upd_ne ne] at hd; exact hd
  have e : upd (del (upd (upd (upd H a (exo a C none)) dx (exd dx [(fld, v)])) a (exo a C (some dx))) a) dx (.xd [(fld, v)]) = upd H dx (.xd [(fld, v)]) := by
    funext b
    by_cases q : b = dx
    · rw [q, upd_same, upd_same]
    · rw [upd_ne q, upd_ne q]
      by_cases z : b = a
      · rw [z, del_same, ha]
      · rw [del_ne z, upd_ne z, upd_ne q, upd_ne z]
  rw [e]
  exact h dx hd'
section
variable {X : Cx} {C : Addr} {fld x : PySem.Str} {px : V → Prop} {j : Nat} {W : WX} {e : Expr} {ta : TA} {p pos pos2 : Pos}
theorem ps_rs (c : Er X.prog X.w X.K X.mg X.base x C fld px) (hc : X.calm = true) (hr : Room j X.A) (hk : 3 ≤ j) (tk : Takes X W) (hg : Gl X x) (ha : PA X [e] ta) (h1 : (x == ("__debug__" : PySem.Str)) = false := by decide)
    (h2 : starEach [e] X.env = (false, eval e X.env) :: starEach [] X.env := by rfl) (h3 : (backTo pos (starEach [] X.env)).any (·.1) = false := by rfl) :
    PS X (.Raise (some (.Call (.Name x p) [e] [] pos)) none pos2) (fun _ σ H => tMkO C (SupE.spErr C fld px) [] ta σ H fun cls d H' => W cls d σ H') :=
  let ⟨_, _, _, iC, tI, F, b⟩ := c.ex
  ps_raise hc tk (pmk_oex c.T iC tI F (hr.mono hk) b .nil pass0 hg c.gl ha h1 h2 h3)
end
/-! ### defs that may raise, called -/
structure Clx (P : Program) (w : World) (K : PySem.W.Frag) (mg : PySem.Str → Option Value) (base : Heap) (k : Nat) (x : PySem.Str) (sp : Sp) (dvs : List V) : Prop where
  ex : ∃ f fd ps ds, FnOk P w K mg base (L2.CX P w) k f fd ps sp ∧ mg x = some (.ref f) ∧ PySem.W.keepIn K (.ref f) = true ∧ Binds K fd ps ds ∧ Vals dvs ds
structure Mrx (P : Program) (w : World) (K : PySem.W.Frag) (mg : PySem.Str → Option Value) (base : Heap) (k : Nat) (x : PySem.Str) (C : Addr) (sp : Sp) (dvs : List V) : Prop where
  ex : ∃ f fd ps ds, Mk K C f ∧ FnOk P w K mg base (L2.CX P w) k f fd ps sp ∧ mg x = some (.ref C) ∧ Binds K fd ps ds ∧ Vals dvs ds
section
variable {X : Cx} {k j : Nat} {C : Addr} {x : PySem.Str} {sp : Sp} {dvs : List V} {p pos : Pos} {e : Expr} {es : List Expr} {t : TA} {W : WX} {E : XK}
theorem pe_clx (c : Clx X.prog X.w X.K X.mg X.base k x sp dvs) (hr : Room j X.A) (hk : k ≤ j) (tk : Takes X W) (hg : Gl X x) (ha : PA X (e :: es) t) (h1 : (x == ("__debug__" : PySem.Str)) = false := by decide)
    (h2 : starEach (e :: es) X.env = (false, eval e X.env) :: starEach es X.env := by rfl) (h3 : (backTo pos (starEach es X.env)).any (·.1) = false := by rfl) : PE X (.Call (.Name x p) (e :: es) [] pos) (fun σ H Q => t σ H fun vs H1 => sp (vs ++ dvs) H1 Q (WE W σ)) :=
  let ⟨_, _, _, _, F, hm, kp, b, d⟩ := c.ex
  pe_callSD F (hr.mono hk) hg hm kp b d (fun σ => passAt tk σ) ha h1 h2 h3
/-- in a def's body: what goes out of the callee goes out of the caller -/
theorem pe_mrx (c : Mrx X.prog X.w X.K X.mg X.base k x C sp dvs) (hr : Room j X.A) (hk : k + 1 ≤ j) (tk : Takes X fun cls d _ H => E cls d H) (hg : Gl X x) (ha : PA X (e :: es) t) (h1 : (x == ("__debug__" : PySem.Str)) = false := by decide)
    (h2 : starEach (e :: es) X.env = (false, eval e X.env) :: starEach es X.env := by rfl) (h3 : (backTo pos (starEach es X.env)).any (·.1) = false := by rfl) : PE X (.Call (.Name x p) (e :: es) [] pos) (tMake C sp dvs E t) :=
  let ⟨_, _, _, _, M, F, hm, b, d⟩ := c.ex
  pe_make M F (hr.mono hk) hg hm b d (passes_call tk fun _ _ _ _ h => h) ha h1 h2 h3
end
/-! ### the hook -/
abbrev ObsE : Type := Hd.Obs × List FnE
def obsE (fa : List He.Fa) (ex : PySem.W.Frag → Bool) (fn : List Hd.DefP) (er : List DefE) (K : PySem.W.Frag) : ObsE := (Hd.obsP fa ex fn K, er.map fun d => fnE K (d.at_ K))
def valE (fn : List Hd.DefP) (er : List DefE) : ObsE := (Hd.valP fn, er.map DefE.val)
def SaysE (fa : List He.Fa) (ex : PySem.W.Frag → Bool) (fn : List Hd.DefP) (er : List DefE) (K : PySem.W.Frag) : Prop := obsE fa ex fn er K = valE fn er
def obsGE (n : Nat) (fa : List He.Fa) (ex : PySem.W.Frag → Bool) (fn : List Hd.DefP) (er : List DefE) (g : Addr → Option Obj) : ObsE := obsE fa ex fn er (He.frG g (cStatics :: He.asD g n))
def hookE (n : Nat) (fa : List He.Fa) (ex : PySem.W.Frag → Bool) (fn : List Hd.DefP) (er : List DefE) : PySem.W.Hook where
  α := ObsE
  obs := fun s => obsGE n fa ex fn er s.heap.get?
  val := fun _ => valE fn er
  says := fun _ h => ∃ K : PySem.W.Frag, K.In h ∧ SaysE fa ex fn er K
  of := fun _ _ e => ⟨_, He.frG_in, e⟩
  keeps := fun _ _ _ ⟨K, i, c⟩ k => ⟨K, PySem.W.Frag.In.keeps i k, c⟩
theorem obsGE_eq {n : Nat} {fa : List He.Fa} {ex : PySem.W.Frag → Bool} {fn : List Hd.DefP} {er : List DefE} {g : Addr → Option Obj} {s : Shared} (h : ∀ a, g a = s.heap.get? a) : obsGE n fa ex fn er g = (hookE n fa ex fn er).obs s := by
  rw [show g = s.heap.get? from funext h]
  rfl
section
variable {fa : List He.Fa} {ex : PySem.W.Frag → Bool} {fn : List Hd.DefP} {er : List DefE} {K : PySem.W.Frag}
theorem SaysE.fst (c : SaysE fa ex fn er K) : Hd.Says fa ex fn K := congrArg (fun z : ObsE => z.1) c
theorem SaysE.err (c : SaysE fa ex fn er K) (i : Nat) {d : DefE} (h : er[i]? = some d := by rfl) : fnE K (d.at_ K) = d.val := by
  have e : er.map (fun d => fnE K (d.at_ K)) = er.map DefE.val := congrArg (fun z : ObsE => z.2) c
  have e2 : (er.map fun d => fnE K (d.at_ K))[i]? = (er.map DefE.val)[i]? := by rw [e]
  rw [List.getElem?_map, List.getElem?_map, h] at e2
  exact Option.some.inj e2
end
end Ers


/-! Sames: x == x: a value of a built-in kind, however deep, is equal to itself. -/
namespace Sms
open PySem PySem.Spec PyProof.Rows L2
theorem scal_self {x : V} (h : flatB x = true) : scal x x = true := by
  cases x <;> first | rfl | cases h
/-- no key stands twice -/
theorem hits_self {P : Program} {w : World} {A : Around} {s : Shared} {vb : List (Key × Value)} : ∀ {va : List (Key × Value)}, (∀ q ∈ va, valueAt vb q.1 = some q.2) → PySem.W.KeqHitsP P w A s vb va true
  | [], _ => .nil
  | q :: va, h => by
    have e := h q List.mem_cons_self
    have r : PySem.W.KeqHitsP P w A s vb ((q.1, q.2) :: va) (true && true) := .hit e (SeqAt.EqAt.same q.2).eqP (hits_self fun p hp => h p (List.mem_cons_of_mem _ hp))
    simpa using r
theorem self_at : ∀ {va : List (Key × Value)}, (va.map (·.1)).Nodup → ∀ q ∈ va, valueAt va q.1 = some q.2
  | [], _, q, hq => nomatch hq
  | p :: va, nd, q, hq => by
    simp only [List.map_cons, List.nodup_cons] at nd
    unfold valueAt
    rcases List.mem_cons.mp hq with e | m
    · rw [e]
      simp
    · have ne : ¬ p.1 = q.1 := fun z => nd.1 (by rw [z]; exact List.mem_map.mpr ⟨q, m, rfl⟩)
      have := self_at nd.2 q m
      unfold valueAt at this
      simp only [List.find?_cons]
      simp [ne, this]
theorem kv_keys {kvs : List (Key × V)} {va : List (Key × Value)} (r : KV kvs va) : va.map (·.1) = kvs.map (·.1) := by
  unfold KV at r
  induction r with
  | nil => rfl
  | cons h _ ih =>
    simp only [List.map_cons]
    rw [h.1, ih]
/-- what x == x asks -/
def Self (K : PySem.W.Frag) (H : Hp) (x : V) : Prop := flatB x = true ∨ ∃ a, x = .ref a ∧ ((∃ xs, SqL K H a xs) ∨ (∃ xs, SqT K H a xs) ∨ ∃ kvs, H a = some (.dK kvs) ∧ (kvs.map (·.1)).Nodup)
def rSelf (K : PySem.W.Frag) : R2 := fun x y H Q => x = y ∧ Self K H x ∧ Q (.bl true) H
theorem op_self {X : Cx} (hu : X.A.units < cLine) : OpR X (compareOp .Eq) (rSelf X.K) := by
  intro pins s σ H x y v u Q I rx ry h
  obtain ⟨rfl, h, q⟩ := h
  rcases h with f | ⟨a, rfl, ⟨xs, h⟩ | ⟨xs, h⟩ | ⟨kvs, h, nd⟩⟩
  · exact op_eq pins s σ H x x v u Q I rx ry ⟨scal_self f, by simpa using q⟩
  · cases (show v = Value.ref a from rx)
    cases (show u = Value.ref a from ry)
    obtain ⟨us, _, p, _⟩ := I.list h
    refine SeqAt.eq_listAt (e := fun _ => true) p.isList p.isList rfl hu (fun j h1 h2 => SeqAt.EqAt.same _) ⟨.bl true, H, I, ?_, q⟩
    show Value.bool _ = Value.bool true
    rw [List.all_eq_true.mpr fun _ _ => rfl]
  · cases (show v = Value.ref a from rx)
    cases (show u = Value.ref a from ry)
    obtain ⟨us, _, p, _⟩ := I.tuple h
    refine SeqAt.eq_tupleAt (e := fun _ => true) p p hu (fun j h1 h2 => SeqAt.EqAt.same _) ⟨.bl true, H, I, ?_, q⟩
    show Value.bool _ = Value.bool true
    rw [List.all_eq_true.mpr fun _ _ => rfl, beq_self_eq_true]
    rfl
  · cases (show v = Value.ref a from rx)
    cases (show u = Value.ref a from ry)
    obtain ⟨_, ya, va, ra, da⟩ := (show ObjOk X.prog X.w H s.heap a (.dK kvs) from I.hok a _ h)
    have ek := kv_keys ra
    refine PySem.W.rcP_dicts (knd := mixKind X.prog X.w) (r := true) ya ya da da hu (fun _ => hits_self (self_at (by rw [ek]; exact nd))) _ _ ⟨.bl true, H, I, ?_, q⟩
    show Value.bool _ = Value.bool true
    rw [beq_self_eq_true]
    rfl
end Sms


/-! DcSeq: a dict comprehension over a list or a tuple. -/
namespace Txs
open PySem PySem.Spec PyProof.Rows L2
def DcOf (J : It) (g : TG) (tt : TT) (tk tv : TE) (vs : List Nat) (σ : L2.St) (H : Hp) (Q : Addr → Hp → Prop) : Prop := ∀ D, H D = none → ∃ W : Nat → Nat → Hp → Prop, (∃ m, W 0 m (upd H D (.dK []))) ∧ ∀ i m H, W i m H →
  (J.stop i H ∧ Q D H) ∨ (J.go i H ∧ ∃ Nx : Hp → Prop, (∀ H', Nx H' → ∃ m', m' < m ∧ W (i + 1) m' H') ∧ ∀ x H', J.yld i H x H' → g x (wipe σ vs) H' fun σ2 H2 => wipe σ2 vs = wipe σ vs ∧ tt σ2 H2 fun b H3 =>
    if b = true then tk σ2 H3 fun y H4 => tv σ2 H4 fun z H5 => ∃ kvs k, y = kV k ∧ H5 D = some (.dK kvs) ∧ kvs.length < sizeLine ∧ Nx (upd H5 D (.dK (putK kvs k z))) else Nx H3)
section
variable {K : PySem.W.Frag} {a : Addr} {xs : List V} {g : TG} {tt : TT} {tk tv : TE} {vs : List Nat} {σ : L2.St} {H H0 : Hp} {Q : Addr → Hp → Prop}
theorem dc_seq (k : Sq K H0 a xs) (hb : ∀ o, H0 a = some o → H a = some o) (Pv : Addr → Nat → Hp → Prop) (h0 : ∀ D, H D = none → Pv D 0 (upd H D (.dK []))) (hl : ∀ D i H', H D = none → i ≤ xs.length → Pv D i H' → ∀ o, H0 a = some o → H' a = some o)
    (hs : ∀ D i x H', H D = none → xs[i]? = some x → Pv D i H' → g x (wipe σ vs) H' fun σ2 H2 => wipe σ2 vs = wipe σ vs ∧ tt σ2 H2 fun b H3 =>
      if b = true then tk σ2 H3 fun y H4 => tv σ2 H4 fun z H5 => ∃ kvs k, y = kV k ∧ H5 D = some (.dK kvs) ∧ kvs.length < sizeLine ∧ Pv D (i + 1) (upd H5 D (.dK (putK kvs k z))) else Pv D (i + 1) H3) (hd : ∀ D H', H D = none → Pv D xs.length H' → Q D H') :
    ((∃ xs, SqL K H a xs) ∧ DcOf (Itl K a) g tt tk tv vs σ H Q) ∨ ((∃ xs, SqT K H a xs) ∧ DcOf (Itt K a) g tt tk tv vs σ H Q) := by
  rcases k with k | k
  · refine .inl ⟨⟨_, sqL_keep k hb⟩, fun D hD => ⟨fun i m H' => m = xs.length - i ∧ i ≤ xs.length ∧ Pv D i H', ⟨xs.length, by simp, Nat.zero_le _, h0 D hD⟩, ?_⟩⟩
    rintro i m H' ⟨rfl, hi, p⟩
    have q := sqL_keep k (hl D i H' hD hi p)
    by_cases lt : i < xs.length
    · refine .inr ⟨⟨xs, xs[i], q, by simp [lt]⟩, Pv D (i + 1), fun H'' p' => ⟨_, by omega, rfl, lt, p'⟩, ?_⟩
      rintro x _ ⟨rfl, e⟩
      exact hs D i x _ hD (e xs q) p
    · obtain rfl : i = xs.length := by omega
      exact .inl ⟨⟨xs, q, Nat.le_refl _⟩, hd D H' hD p⟩
  · exact .inr ⟨⟨_, sqT_keep k hb⟩, fun D hD => dc_tup (Pv D) (h0 D hD) (fun i H' hi p => sqT_keep k (hl D i H' hD hi p)) (fun i x H' e p => hs D i x H' hD e p) fun H' p => hd D H' hD p⟩
end
end Txs


/-! ErrIs: isinstance of a caught own error that has its dict; methods that may raise, called in a try. -/
namespace ErI
open PySem PySem.Spec PyProof.Rows L2
/-- what an own error's class tells isinstance -/
structure IsC (K : PySem.W.Frag) (D : Addr) : Prop where
  x : XfC K D
  cl : (PySem.W.clsIn K D).isSome = true
  ac : PySem.W.findIn K (.ref D) "__class__" = some (some (.builtin "object.__class__"))
  gt : PySem.W.specialIn K (.builtin "object.__class__") "__get__" = some (some (.builtin "getset_descriptor.__get__"))
  tk : PySem.W.takesIn K (.builtin "object.__class__") = some true
  ob : PySem.W.mroIn K D (.type "object") = some true
def isB (K : PySem.W.Frag) (D : Addr) : Bool := xfB K D && ((PySem.W.clsIn K D).isSome && (He.eqO (PySem.W.findIn K (.ref D) "__class__") (some (some (.builtin "object.__class__"))) && (He.eqO (PySem.W.specialIn K (.builtin "object.__class__") "__get__") (some (some (.builtin "getset_descriptor.__get__"))) &&
  (decide (PySem.W.takesIn K (.builtin "object.__class__") = some true) && decide (PySem.W.mroIn K D (.type "object") = some true)))))
theorem isB_ok {K : PySem.W.Frag} {D : Addr} (h : isB K D = true) : IsC K D := by
  obtain ⟨h1, h⟩ := He.ba h
  obtain ⟨h2, h⟩ := He.ba h
  obtain ⟨h3, h⟩ := He.ba h
  obtain ⟨h4, h⟩ := He.ba h
  obtain ⟨h5, h6⟩ := He.ba h
  exact ⟨xfB_ok h1, h2, He.eqO_ok h3, He.eqO_ok h4, of_decide_eq_true h5, of_decide_eq_true h6⟩
/-- isinstance(e, C): e the error that the suite holds -/
def rIsX (K : PySem.W.Frag) (D a : Addr) (cls : Value) (d : Option Addr) : List V → Hp → VK → Prop := fun xs H Q => ∃ (c : V) (u : Value) (b : Bool) (dd : Addr) (fs : List (PySem.Str × V)), xs = [.ref a, c] ∧ ClsV c u ∧ cls = .ref D ∧ d = some dd ∧ H dd = some (.xd fs) ∧ PySem.W.kitOne K (.ref D) u = some b ∧ Q (.bl b) H
theorem call_isX {X : Cx} {a D : Addr} {oe : Obj} {cls : Value} {d : Option Addr} {pn : List (Addr × Obj)} (C : IsC X.K D) (hz : Zc cls d oe) (hf : ∃ vs, oe.data = .fields vs) : CallR (X.suite a ((a, oe) :: pn)) (.builtin "isinstance") (rIsX X.K D a cls d) := by
  intro pins s σ H xs us Q I r h
  obtain ⟨c, u, b, dd, fs, rfl, k, rfl, rfl, hd, e, q⟩ := h
  obtain ⟨u1, u2, rfl, r1, r2⟩ := vals2 r
  have e2 := k.eq r2
  subst e2
  cases (show u1 = Value.ref a from r1)
  obtain ⟨here, _⟩ := I.pin (a, oe) (List.mem_append_left _ List.mem_cons_self)
  obtain ⟨vs, hv⟩ := hf
  obtain ⟨mA, hns, _⟩ := (show ObjOk X.prog X.w H s.heap dd (.xd fs) from I.hok dd _ hd)
  obtain ⟨od, ho, _⟩ := lookIn_ns hns
  have J : PySem.W.InstAt s.heap a oe D (some od) := ⟨here, hz.1, by unfold PySem.W.notCls; rw [hv] <;> rfl, by rw [hz.2]; exact ho⟩
  exact PySem.W.kia_one (PySem.W.kitx_exc C.cl C.x.ga C.x.gg C.x.exC C.ac C.gt C.tk C.ob) I.kIn J e (fun z => nomatch z) fun tk => ⟨.bl b, H, I.kept (t' := tk) fun _ _ z => z, rfl, q⟩
/-! ### methods that may raise -/
structure Mex (P : Program) (w : World) (K : PySem.W.Frag) (mg : PySem.Str → Option Value) (base : Heap) (k : Nat) (C : Addr) (m : PySem.Str) (sp : Sp) : Prop where
  ex : ∃ f fd ps, Meth K C m f ∧ Cls K C ∧ FnOk P w K mg base (L2.CX P w) k f fd ps sp ∧ Binds K fd ps []
section
variable {X : Cx} {k j : Nat} {C : Addr} {sp : Sp} {m : PySem.Str} {o e : Expr} {es : List Expr} {ta : TE} {t : TA} {apos pos : Pos} {W : WX}
/-- o.m(e, ..), what it lets out wished for at the slots -/
def tMeX (C : Addr) (m : PySem.Str) (sp : Sp) (W : WX) (ta : TE) (t : TA) : TE := fun σ H Q => ta σ H fun x H1 => ∃ (a dx : Addr) (fs : List (PySem.Str × V)), x = .ref a ∧ H1 a = some (.ins C dx fs) ∧ fs.lookup m = none ∧ t σ H1 fun vs H2 => sp (.ref a :: vs) H2 Q (WE W σ)
theorem pe_mex {pl : Sem Bool} (c : Mex X.prog X.w X.K X.mg X.base k C m sp) (hr : Room j X.A) (hk : k ≤ j) (tk : Takes X W) (he : PE X o ta) (ha : PA X (e :: es) t)
    (hst : starEach (e :: es) X.env = (false, eval e X.env) :: starEach es X.env := by rfl) (hpl : (backTo pos (starEach es X.env)).any (·.1) = false := by rfl)
    (ht : eval (.Call (.Attribute o m apos) (e :: es) [] pos) X.env = (do
      let ov ← eval o X.env
      standAt apos.atName
      let (f, first) ← holding [ov] (getMethod ov m pl)
      callWith pos f first (backTo pos (starEach (e :: es) X.env)) (backToKw pos (keywordEach [] X.env))) := by rfl) :
    PE X (.Call (.Attribute o m apos) (e :: es) [] pos) (tMeX C m sp W ta t) := by
  obtain ⟨f, fd, ps, M, cl, F, b⟩ := c.ex
  refine ⟨fun pins s σ H Q I h => PySem.W.methodCall_KW (pl := pl) (thn (he.run pins s σ H _ I h) fun u s1 q1 => ?_) ht⟩
  obtain ⟨x, H1, I1, rx, a, dx, fs, rfl, ea, l, q⟩ := q1
  cases (show u = Value.ref a from rx)
  refine getmeth_ok I1 ea cl M l (PySem.W.callWith_K (first := [.ref a]) (h₀ := X.base) I.ok.mod.kin M.kp (thn (ha.run pos pins s1 σ H1 _ I1 q) fun us s2 q2 => ?_) hst hpl)
  obtain ⟨vs, H2, I2, r, q2⟩ := q2
  exact ⟨I2.kIn, run_fnS (E := WE W) (us := .ref a :: us) (vs := .ref a :: vs) F (hr.mono hk) b (passAt tk σ) I2 (.cons rfl r) q2⟩
end
/-! ### slices of a list or a tuple -/
theorem SlR.or {X : Cx} {r1 r2 : V → Option Int → Option Int → Hp → VK → Prop} (h1 : SlR X r1) (h2 : SlR X r2) : SlR X (fun x l u H Q => r1 x l u H Q ∨ r2 x l u H Q) :=
  fun pins s σ H x v vl vu lo hi sl Q I rx hs pl pu h => h.elim (fun h => h1 pins s σ H x v vl vu lo hi sl Q I rx hs pl pu h) fun h => h2 pins s σ H x v vl vu lo hi sl Q I rx hs pl pu h
end ErI


/-! OpsOwn: x op y, x an instance with an own method for it, y of a built-in kind, whatever stands in it; y op x by the reflected one; x op= y. -/
namespace OpO
open PySem PySem.Spec PyProof.Rows L2 PySem.W
/-- what an operator asks of the class: its own method, its own reflected one or none -/
structure OpC (K : Frag) (C f : Addr) (nm : String) : Prop where
  first : selfFirst K C = true
  own : findIn K (.ref C) (PySem.dunder nm) = some (some (.ref f))
  fn : isFn K (.ref f) = true
  refl : ∃ rc, findIn K (.ref C) (dunderR nm) = some rc ∧ (rc = none ∨ ∃ g : Addr, rc = some (.ref g))
/-- .. and of the other's kind -/
structure OpT (K : Frag) (C : Addr) (nm : String) (T : String) : Prop where
  own : ∃ fo, findIn K (.type T) (PySem.dunder nm) = some fo
  refl : ∃ ro, findIn K (.type T) (dunderR nm) = some ro
  sub : subIn K (.type T) (.ref C) = some false
section
variable {prog : Program} {w : World} {A : Around} {E : Value → Shared → Prop} {s : Shared} {K : Frag} {x C f : Addr} {ox : Obj} {od : Option Obj} {b : Value} {T : String}
theorem bin_own {op : Operator} {Q : Value → Shared → Prop} (X : K.In s.heap) (I : InstAt s.heap x ox C od) (hb : Looks (model prog w) s.heap (typeOf b) (.type T)) (c : OpC K C f op.info.2) (t : OpT K C op.info.2 T)
    (h : wpAny (model prog w) A (call (.ref f) [.ref x, b]) (PySem.W.CmpBack Q) E s) : wpAny (model prog w) A (binaryOp op (.ref x) b) Q E s := by
  obtain ⟨hc, hs, hf, rc, hr, hp⟩ := c
  obtain ⟨⟨fo, h1⟩, ⟨ro, h2⟩, hsub⟩ := t
  obtain ⟨cd, rest, hcd, hm⟩ := ksp_first hc
  have done : wpAny (model prog w) A (tryMethod (.ref x) (PySem.dunder op.info.2) b) (fun r s' => ∃ v, r = some v ∧ Q v s') E s := ksp_try X I hs hf h
  rcases hi : op.info with ⟨sym, nm⟩
  rw [hi] at hs hr h1 h2 done
  dsimp only at hs hr h1 h2 done
  obtain ⟨hh, g, d, tt, os⟩ := s
  have lx : Looks (model prog w) hh (typeOf (.ref x)) (.ref C) := I.type
  have fx : Looks (model prog w) hh (fillsNumberSlot (.ref C) nm) true := fills_K X hcd hm hs
  have fb := ksp_fillsT (M := model prog w) X h1 h2
  have sb : Looks (model prog w) hh (isSubtype (.type T) (.ref C)) false := looks_subIn X hsub
  have px : Looks (model prog w) hh (numberSlotInPython (.ref C) nm) true := ksp_inPy X hs hr hp
  have pb : Looks (model prog w) hh (numberSlotInPython (.type T) nm) false := Looks.of_pure rfl
  have rb : Looks (model prog w) hh (typeLookup (.type T) (dunderR nm)) ro := looks_findIn X h2
  have ne : (Value.ref C == Value.type T) = false := by simp
  have fin : wpAny (model prog w) A (tryMethod (.ref x) (PySem.dunder nm) b) (fun r s' => ∃ v, r = some v ∧ Q v s') E ⟨hh, g, d, tt, os⟩ := done
  generalize ((fo.isSome && !isSeqSlot fo) || (ro.isSome && !isSeqSlot ro)) = right at fb
  simp only [binaryOp, hi]
  refine wpAny_holding (wpAny_bind ?_)
  unfold binaryOp1
  refine wpAny_bind (lx.at (wpAny_bind (hb.at (wpAny_bind (fx.at ?_)))))
  simp only [ne, Bool.false_eq_true, if_false]
  cases right <;>
  · ksp_lk
    refine wpAny_mono fin (fun r s' z => ?_) fun _ _ e => e
    obtain ⟨v, rfl, q⟩ := z
    ksp_lk
    exact q
/-- y op x: y's own method declines, or there is none; then x's reflected one is asked -/
theorem refl_own {op : Operator} {Q : Value → Shared → Prop} {fo ro : Option Value} (X : K.In s.heap) (I : InstAt s.heap x ox C od) (hb : Looks (model prog w) s.heap (typeOf b) (.type T)) (hc : selfFirst K C = true) {fx : Addr} (hs : findIn K (.ref C) (PySem.dunder op.info.2) = some (some (.ref fx)))
    (hr : findIn K (.ref C) (dunderR op.info.2) = some (some (.ref f))) (hf : isFn K (.ref f) = true) (h1 : findIn K (.type T) (PySem.dunder op.info.2) = some fo) (h2 : findIn K (.type T) (dunderR op.info.2) = some ro) (hsub : subIn K (.ref C) (.type T) = some false)
    (D : ((fo.isSome && !isSeqSlot fo) || (ro.isSome && !isSeqSlot ro)) = true → ∀ (R : Option Value → Shared → Prop), R none s → wpAny (model prog w) A (tryMethod b (PySem.dunder op.info.2) (.ref x)) R E s)
    (h : wpAny (model prog w) A (call (.ref f) [.ref x, b]) (PySem.W.CmpBack Q) E s) : wpAny (model prog w) A (binaryOp op b (.ref x)) Q E s := by
  obtain ⟨cd, rest, hcd, hm⟩ := ksp_first hc
  have done : wpAny (model prog w) A (tryMethod (.ref x) (dunderR op.info.2) b) (fun r s' => ∃ v, r = some v ∧ Q v s') E s := ksp_try X I hr hf h
  rcases hi : op.info with ⟨sym, nm⟩
  rw [hi] at hs hr h1 h2 done D
  dsimp only at hs hr h1 h2 done D
  obtain ⟨hh, g, d, tt, os⟩ := s
  have lx : Looks (model prog w) hh (typeOf (.ref x)) (.ref C) := I.type
  have fx : Looks (model prog w) hh (fillsNumberSlot (.ref C) nm) true := fills_K X hcd hm hs
  have fb := ksp_fillsT (M := model prog w) X h1 h2
  have sb : Looks (model prog w) hh (isSubtype (.ref C) (.type T)) false := looks_subIn X hsub
  have pb : Looks (model prog w) hh (numberSlotInPython (.type T) nm) false := Looks.of_pure rfl
  have ne : (Value.type T == Value.ref C) = false := by simp
  generalize ((fo.isSome && !isSeqSlot fo) || (ro.isSome && !isSeqSlot ro)) = left at fb D
  simp only [binaryOp, hi]
  refine wpAny_holding (wpAny_bind ?_)
  unfold binaryOp1
  refine wpAny_bind (hb.at (wpAny_bind (lx.at (wpAny_bind (fb.at ?_)))))
  simp only [ne, Bool.false_eq_true, if_false]
  cases left with
  | false =>
    ksp_lk
    refine wpAny_mono done (fun r s' z => ?_) fun _ _ e => e
    obtain ⟨v, rfl, q⟩ := z
    ksp_lk
    exact q
  | true =>
    ksp_lk
    refine D rfl _ ?_
    ksp_lk
    refine wpAny_mono done (fun r s' z => ?_) fun _ _ e => e
    obtain ⟨v, rfl, q⟩ := z
    ksp_lk
    exact q
theorem inp_own {op : Operator} {Q : Value → Shared → Prop} (X : K.In s.heap) (I : InstAt s.heap x ox C od) (hc : selfFirst K C = true) (hs : findIn K (.ref C) (dunderI op.info.2) = some (some (.ref f))) (hf : isFn K (.ref f) = true)
    (h : wpAny (model prog w) A (call (.ref f) [.ref x, b]) (PySem.W.CmpBack Q) E s) : wpAny (model prog w) A (inplaceOp op (.ref x) b) Q E s := by
  obtain ⟨cd, rest, hcd, hm⟩ := ksp_first hc
  have fin := ksp_try X I hs hf h
  obtain ⟨hh, g, d, tt, os⟩ := s
  have lx : Looks (model prog w) hh (typeOf (.ref x)) (.ref C) := I.type
  have fx : Looks (model prog w) hh (fillsInplaceSlot (.ref C) op.info.2 (op == .Add)) true := ksp_fillsI X hcd hm hs
  unfold inplaceOp
  refine wpAny_holding ?_
  ksp_lk
  refine wpAny_mono fin (fun r s' z => ?_) fun _ _ e => e
  obtain ⟨v, rfl, q⟩ := z
  ksp_lk
  exact q
end
/-! ### built-in methods for | that decline an instance -/
section
variable {prog : Program} {w : World} {A : Around} {E : Value → Shared → Prop} {s : Shared} {K : Frag} {x C : Addr} {ox : Obj} {od : Option Obj}
theorem or_dict {l : Addr} {R : Option Value → Shared → Prop} (hl : s.TypeIs (.ref l) "dict") (X : K.In s.heap) (I : InstAt s.heap x ox C od) (nb : subIn K (.ref C) (.type "dict") = some false) (k : R none s) : wpAny (model prog w) A (tryMethod (.ref l) (PySem.dunder "or") (.ref x)) R E s := by
  refine wpAny_tryMethod_declines hl F.slot_dict_or (GQ.call_here F.slot_dict_or hl F.entry_dict_or (F.args_dict_or_2 _ _) ?_)
  unfold Builtin.«dict.__or__»
  refine wpAny_bind (m := Builtin.Dict.dictSlotArgs "__or__" _) (wpAny_pure ?_)
  obtain ⟨o, ho, hc⟩ := hl
  have tl : Looks (model prog w) s.heap (typeOf (.ref l)) (.type "dict") := hc ▸ (Looks.ld ho).andThen .now
  have il : Looks (model prog w) s.heap (isInstance (.ref l) (.type "dict")) true := tl.andThen (Looks.of_pure (by rfl))
  have ix : Looks (model prog w) s.heap (isInstance (.ref x) (.type "dict")) false := I.type.andThen (looks_subIn X nb)
  refine wpAny_bind (m := (isInstance (.ref l) (.type "dict") <&&> isInstance (.ref x) (.type "dict"))) (wpAny_bind (il.here ?_))
  refine ix.here ?_
  rw [if_pos (show (!false) = true from rfl)]
  exact wpAny_bind (wpAny_rule (wpAny_pure ⟨rfl, k⟩))
theorem or_int {i : Int} {t : Tok} {R : Option Value → Shared → Prop} (hx : s.heap.get? x = some ox) (hp : ox.data = .plain) (k : R none s) : wpAny (model prog w) A (tryMethod (.int i t) (PySem.dunder "or") (.ref x)) R E s := by
  refine wpAny_tryMethod_declines rfl F.slot_int_or (GQ.call_here F.slot_int_or rfl F.entry_int_or (F.args_int_or_2 _ _) ?_)
  unfold Builtin.«int.__or__» Builtin.Int.intBinary
  refine wpAny_bind (m := slotArgs "__or__" 1 _) (wpAny_pure ?_)
  refine wpAny_bind (m := Builtin.Int.intOfSelf _) (wpAny_pure ?_)
  refine wpAny_bind (Cmps.asInt_none hx hp ?_)
  exact wpAny_bind (wpAny_rule (wpAny_pure ⟨rfl, k⟩))
theorem or_bool {b : Bool} {R : Option Value → Shared → Prop} (hx : s.heap.get? x = some ox) (hp : ox.data = .plain) (k : R none s) : wpAny (model prog w) A (tryMethod (.bool b) (PySem.dunder "or") (.ref x)) R E s := by
  refine wpAny_tryMethod_declines rfl F.slot_bool_or (GQ.call_here F.slot_bool_or rfl F.entry_bool_or (F.args_bool_or_2 _ _) ?_)
  unfold Builtin.«bool.__or__»
  refine wpAny_bind (m := slotArgs "__or__" 1 _) (wpAny_pure ?_)
  refine wpAny_bind (m := asInt? (.ref x)) (Cmps.asInt_none hx hp ?_)
  exact wpAny_bind (wpAny_rule (wpAny_pure ⟨rfl, k⟩))
end
theorem rel_some {x : V} {v : Value} (r : RelV x v) : v ≠ .notImplemented := by
  intro e
  subst e
  cases x <;> first | exact (nomatch r) | (obtain ⟨_, q⟩ := r; exact nomatch q) | (cases r)
/-- an operator's own method that may raise -/
structure Bx (P : Program) (w : World) (K : Frag) (mg : PySem.Str → Option Value) (base : Heap) (k : Nat) (C : Addr) (nm : String) (sp : Sp) : Prop where
  ex : ∃ f fd ps, OpC K C f nm ∧ FnOk P w K mg base (L2.CX P w) k f fd ps sp ∧ L2.Binds K fd ps []
section
variable {X : Cx} {k j : Nat} {C : Addr} {sp : Sp} {W : WX} {l r : Expr} {ta tb : TE} {pos : Pos}
/-- l op r: the left one an instance, the right one of a built-in kind; what goes out is wished for at the slots -/
def tBo (K : Frag) (C : Addr) (nm : String) (sp : Sp) (W : WX) (ta tb : TE) : TE := fun σ H Q => ta σ H fun x H1 => tb σ H1 fun y H2 => ∃ (a dx : Addr) (fs : List (PySem.Str × V)) (T : String), x = .ref a ∧ H2 a = some (.ins C dx fs) ∧ TyX K H2 y (.type T) ∧ OpT K C nm T ∧ sp [.ref a, y] H2 Q (WE W σ)
theorem pe_bo {op : Operator} (c : Bx X.prog X.w X.K X.mg X.base k C op.info.2 sp) (hr : Room j X.A) (hk : k ≤ j) (tk : Takes X W) (ha : PE X l ta) (hb : PE X r tb) : PE X (.BinOp l op r pos) (tBo X.K C op.info.2 sp W ta tb) := by
  obtain ⟨f, fd, ps, oc, F, b⟩ := c.ex
  refine ⟨fun pins s σ H Q I h => wpAny_BinOp (binT ha hb I h fun v u s2 x y H2 I2 rx ry q => ?_)⟩
  obtain ⟨a, dx, fs, T, rfl, e, ty, ot, q⟩ := q
  cases (show v = Value.ref a from rx)
  obtain ⟨mA, J, _⟩ := ins_get I2.hok e
  obtain ⟨od, J, _⟩ := J.look
  obtain ⟨_, KX, hT, _⟩ := kit_of I2 ry ty
  refine bin_own I2.kIn J (KX.ty _ _ I2.kIn hT) oc ot ?_
  refine wpAny_mono (run_fnS (E := WE W) (us := [.ref a, u]) (vs := [.ref a, y]) F (hr.mono hk) b (passAt tk σ) I2 (.cons rfl (.cons ry .nil)) q) (fun v s' z => ?_) fun _ _ e => e
  obtain ⟨x', H', I', rx', q'⟩ := z
  have := rel_some rx'
  cases v <;> first | exact absurd rfl this | exact ⟨x', H', I', rx', q'⟩
/-- an in-place method that may raise -/
structure Ix (P : Program) (w : World) (K : Frag) (mg : PySem.Str → Option Value) (base : Heap) (k : Nat) (C : Addr) (nm : String) (sp : Sp) : Prop where
  ex : ∃ f fd ps, selfFirst K C = true ∧ findIn K (.ref C) (dunderI nm) = some (some (.ref f)) ∧ isFn K (.ref f) = true ∧ FnOk P w K mg base (L2.CX P w) k f fd ps sp ∧ L2.Binds K fd ps []
/-- x op= e: x names an instance; the name gets what its method returns -/
def tAugO (i : Nat) (C : Addr) (sp : Sp) (W : WX) (te : TE) : TS := fun D σ H => ∃ (a dx : Addr) (fs : List (PySem.Str × V)), σ[i]? = some (some (.ref a)) ∧ te σ H fun y H1 => H1 a = some (.ins C dx fs) ∧ sp [.ref a, y] H1 (fun z H2 => D.nx (σ.set i (some z)) H2) (WE W σ)
theorem ps_augO {i : Nat} {x : PySem.Str} {e : Expr} {te : TE} {op : Operator} {p1 p2 : Pos} (c : Ix X.prog X.w X.K X.mg X.base k C op.info.2 sp) (hr : Room j X.A) (hk : k ≤ j) (tk : Takes X W) (hN : X.N.Nodup) (hi : X.N[i]? = some x) (hx : Loc X.env.scope x) (he : PE X e te)
    (hf : X.fn x = true ∨ X.env.scope.names.lookup x = some .local := by first | exact .inl rfl | exact .inr rfl | assumption) : PS X (.AugAssign (.Name x p1) op e p2) (tAugO i C sp W te) := by
  obtain ⟨f, fd, ps, sf, fi, ff, F, b⟩ := c.ex
  refine ⟨fun pins s σ H D I h => ?_⟩
  obtain ⟨a, dx, fs, ex, h⟩ := h
  obtain ⟨m, hn, hl⟩ := I.loc
  obtain ⟨u, ru, l⟩ := hl i x _ hi ex (by rcases hx with q | q; exact .inl q; exact .inr (.inl q))
  cases (show u = Value.ref a from ru)
  refine wpAny_AugAssign_Name ?_
  have go : wpAny (model X.prog X.w) X.A (eval e X.env) (fun z s2 => wpAny (model X.prog X.w) X.A (inplaceOp op (.ref a) z) (fun r s3 => wpAny (model X.prog X.w) X.A (storeName X.env x r) (fun _ => SP X pins D .next) X.xe s3) X.xe s2) X.xe s := by
    refine thn (he.run pins s σ H _ I h) fun z s1 ⟨y, H1, I1, ry, e1, q⟩ => ?_
    obtain ⟨mA, J, _⟩ := ins_get I1.hok e1
    obtain ⟨od, J, _⟩ := J.look
    refine inp_own I1.kIn J sf fi ff ?_
    refine wpAny_mono (run_fnS (E := WE W) (us := [.ref a, z]) (vs := [.ref a, y]) F (hr.mono hk) b (passAt tk σ) I1 (.cons rfl (.cons ry .nil)) q) (fun v s' w => ?_) fun _ _ e => e
    obtain ⟨x', H', I', rx', q'⟩ := w
    have st : wpAny (model X.prog X.w) X.A (storeName X.env x v) (fun _ => SP X pins D .next) X.xe s' := store_ok I' hN hi hx rx' (fun s3 I3 => ⟨_, H', I3, q'⟩) hf
    have := rel_some rx'
    cases v <;> first | exact absurd rfl this | exact st
  rcases l with ⟨hk', hm⟩ | ⟨hk', c', hc, hcell⟩
  · exact wpAny_loadName_local I.ok.kind hk' hn hm go
  · rcases hk' with hk' | hk'
    · exact wpAny_loadName_cell I.ok.kind hk' hc hcell go
    · rcases hx with q | q <;> (have : X.env.scope.names.lookup x = some .free := hk'; rw [q] at this; cases this)
/-- the reflected | of a class, which may raise -/
structure Rx (P : Program) (w : World) (K : Frag) (mg : PySem.Str → Option Value) (base : Heap) (k : Nat) (C : Addr) (sp : Sp) : Prop where
  ex : ∃ f g fd ps, selfFirst K C = true ∧ findIn K (.ref C) (PySem.dunder "or") = some (some (.ref g)) ∧ findIn K (.ref C) (dunderR "or") = some (some (.ref f)) ∧ isFn K (.ref f) = true ∧ FnOk P w K mg base (L2.CX P w) k f fd ps sp ∧ L2.Binds K fd ps []
/-- what stands left of |: a kind without it, or one that declines an instance -/
def Decl (K : Frag) (C : Addr) (H : Hp) (y : V) (T : String) : Prop := subIn K (.ref C) (.type T) = some false ∧ ((findIn K (.type T) (PySem.dunder "or") = some none ∧ findIn K (.type T) (dunderR "or") = some none) ∨
  ((∃ fo, findIn K (.type T) (PySem.dunder "or") = some fo) ∧ (∃ ro, findIn K (.type T) (dunderR "or") = some ro) ∧ ((T = "dict" ∧ ∃ l kvs, y = .ref l ∧ H l = some (.dK kvs)) ∨ (T = "int" ∧ ∃ i, y = .int i) ∨ (T = "bool" ∧ ∃ b, y = .bl b))))
def tBro (K : Frag) (C : Addr) (sp : Sp) (W : WX) (ta tb : TE) : TE := fun σ H Q => ta σ H fun y H1 => tb σ H1 fun x H2 => ∃ (a dx : Addr) (fs : List (PySem.Str × V)) (T : String), x = .ref a ∧ H2 a = some (.ins C dx fs) ∧ TyX K H2 y (.type T) ∧ Decl K C H2 y T ∧ sp [.ref a, y] H2 Q (WE W σ)
theorem pe_bro (c : Rx X.prog X.w X.K X.mg X.base k C sp) (hr : Room j X.A) (hk : k ≤ j) (tk : Takes X W) (ha : PE X l ta) (hb : PE X r tb) : PE X (.BinOp l .BitOr r pos) (tBro X.K C sp W ta tb) := by
  obtain ⟨f, g, fd, ps, sf, fo, fr, ff, F, b⟩ := c.ex
  refine ⟨fun pins s σ H Q I h => wpAny_BinOp (binT ha hb I h fun v u s2 y x H2 I2 ry rx q => ?_)⟩
  obtain ⟨a, dx, fs, T, rfl, e, ty, ⟨nb, dc⟩, q⟩ := q
  cases (show u = Value.ref a from rx)
  obtain ⟨mA, J, _⟩ := ins_get I2.hok e
  obtain ⟨od, J, _⟩ := J.look
  obtain ⟨_, KX, hT, _⟩ := kit_of I2 ry ty
  have fin : wpAny (model X.prog X.w) X.A (call (.ref f) [.ref a, v]) (PySem.W.CmpBack (EP X pins σ Q)) X.xe s2 := by
    refine wpAny_mono (run_fnS (E := WE W) (us := [.ref a, v]) (vs := [.ref a, y]) F (hr.mono hk) b (passAt tk σ) I2 (.cons rfl (.cons ry .nil)) q) (fun v s' z => ?_) fun _ _ e => e
    obtain ⟨x', H', I', rx', q'⟩ := z
    have := rel_some rx'
    cases v <;> first | exact absurd rfl this | exact ⟨x', H', I', rx', q'⟩
  rcases dc with ⟨n1, n2⟩ | ⟨⟨f1, n1⟩, ⟨f2, n2⟩, d⟩
  · exact refl_own (op := .BitOr) I2.kIn J (KX.ty _ _ I2.kIn hT) sf fo fr ff n1 n2 nb (fun z => nomatch z) fin
  · refine refl_own (op := .BitOr) I2.kIn J (KX.ty _ _ I2.kIn hT) sf fo fr ff n1 n2 nb (fun _ R k => ?_) fin
    rcases d with ⟨rfl, l, kvs, rfl, hl⟩ | ⟨rfl, i, rfl⟩ | ⟨rfl, b', rfl⟩
    · cases (show v = Value.ref l from ry)
      obtain ⟨_, _, vs, _, o, es, ep, h1, h2, _⟩ := (show ObjOk X.prog X.w H2 s2.heap l (.dK kvs) from I2.hok l _ hl)
      exact or_dict ⟨o, h1, h2.1⟩ I2.kIn J nb k
    · obtain ⟨t, rfl⟩ := ry
      exact or_int J.at_ rfl k
    · cases (show v = Value.bool b' from ry)
      exact or_bool J.at_ rfl k
end
end OpO


/-! DMerge: {**x, **y}, x and y dicts whose keys are ints and texts: a new dict. -/
namespace DMg
open PySem PySem.Spec PyProof.Rows L2
section
variable {prog : Program} {w : World} {K : Type} [DecidableEq K] {knd : KeyKind prog w K} {A : Around} {E : Value → Shared → Prop} {s : Shared}
theorem wpAny_dictPut {d : Addr} {kvs : List (K × Value)} {k : K} {key v : Value} {Q : Unit → Shared → Prop} (hkey : knd.is k key = true) (hm : s.heap.DictOf knd d kvs) (hz : kvs.length ≤ sizeLine)
    (hQ : ∀ h', h'.DictOf knd d (stored kvs k v) → Heap.SameBut d s.heap h' → Q () { s with heap := h' }) :
    wpAny (model prog w) A (dictPut d (knd.hash k) key v) Q E s := by
  obtain ⟨o, es, ep, ho, hc, hd, hk, hp, hn⟩ := hm
  have hes : es.size ≤ sizeLine := by have e1 := hp.length; have e2 : es.toList.length = es.size := by simp
                                      omega
  unfold dictPut
  refine wpAny_bind (wpAny_dictFind_of hkey ho hd hk ?_)
  have hidx : (es.findIdx? fun e => knd.is k e.key) = kvs.findIdx? fun kv => decide (kv.1 = k) := by
    rw [← hp.findIdx k]; obtain ⟨l⟩ := es; simp
  cases hi : es.findIdx? fun e => knd.is k e.key with
  | some i =>
    refine wpAny_updateDict ho hd (hQ _ ⟨_, _, ep, Heap.get?_update_self _ ho (Obj.isFreed_of_dict (Obj.data_mapDict hd _)),
      hc.mapDict _, Obj.data_mapDict hd _, hk.modify _ _, ?_, ?_⟩ (Heap.SameBut.update ..))
    · rw [stored, if_pos (any_of_findIdx_some (hidx ▸ hi))]
      have hl : (es.toList.findIdx? fun e => knd.is k e.key) = some i := by rw [← hi]; obtain ⟨l⟩ := es; simp
      have := hp.modify hn hl v
      obtain ⟨l⟩ := es
      simpa using this
    · rw [stored, if_pos (any_of_findIdx_some (hidx ▸ hi)), keys_map_store]; exact hn
  | none =>
    have hnot : k ∉ kvs.map (·.1) := not_mem_of_findIdx_none (hidx ▸ hi)
    have hany : ¬ (kvs.any fun kv => decide (kv.1 = k)) = true := by
      rw [List.any_eq_true]; rintro ⟨kv, hkv, he⟩
      exact hnot (List.mem_map.mpr ⟨kv, hkv, of_decide_eq_true he⟩)
    refine wpAny_updateDictKeys (hz := hes) ho hd (hQ _ ⟨_, _, ep + 1, Heap.get?_update_self _ ho (Obj.isFreed_of_dict (Obj.data_mapDictKeys hd _)),
      hc.mapDictKeys _, Obj.data_mapDictKeys hd _, hk.push hkey _, ?_, ?_⟩ (Heap.SameBut.update ..))
    · rw [stored, if_neg hany]
      have := hp.append hkey (knd.hash k) v
      obtain ⟨l⟩ := es
      simpa using this
    · rw [stored, if_neg hany, List.map_append, List.nodup_append]
      refine ⟨hn, by simp, ?_⟩
      intro a ha b hb
      simp only [List.map_cons, List.map_nil, List.mem_singleton] at hb
      subst hb
      exact fun e => hnot (e ▸ ha)
theorem wpAny_mergeMapping {d o : Addr} {kvs more : List (K × Value)} {Q : Unit → Shared → Prop} (hnr : ∀ k v, knd.is k v = true → ∀ a, v ≠ .ref a) (hdo : d ≠ o) (hoS : (o == sysModules) = false)
    (hd : s.heap.DictOf knd d kvs) (ho : s.heap.DictOf knd o more) (hsz : kvs.length + more.length ≤ sizeLine)
    (hQ : ∀ h', h'.DictOf knd d (merged kvs more) → h'.DictOf knd o more → Heap.SameBut d s.heap h' → Q () { s with heap := h' }) :
    wpAny (model prog w) A (mergeMapping d (.ref o) false) Q E s := by
  obtain ⟨od, esd, epd, hod, hcd, hdd, hkd, hpd, hnd⟩ := id hd
  obtain ⟨oo, eso, epo, hoo, hco, hdo', hko, hpo, hno⟩ := id ho
  have hlen : more.length = eso.size := by rw [← hpo.length]; simp
  unfold mergeMapping
  refine wpAny_bind (wpAny_isInstance ho.typeIs isSubtype_dict_dict ?_)
  dsimp only
  rw [if_pos rfl]
  refine wpAny_bind (wpAny_specialOf ho.typeIs F.slot_dict_iter.lookup (wpAny_bind (wpAny_pure ?_)))
  simp only [beq_self_eq_true]
  rw [if_neg (by rw [hoS]; exact Bool.false_ne_true)]
  have loop : wpAny (model prog w) A (do
      let l ← dictEntries o
      let epoch ← dictEpoch o
      forIn (List.range l.size) PUnit.unit fun i (_ : PUnit) => (do
          let l' ← dictEntries o
          match l'[i]? with
            | some e => do
              holding [e.key, e.val] (dictPut d e.hash e.key e.val)
              let ep' ← dictEpoch o
              if (ep' != epoch) = true then do
                  (unsupported "dict.changed-during-merge" : Sem PUnit)
                  pure (ForInStep.yield PUnit.unit)
                else pure (ForInStep.yield PUnit.unit)
            | _ => do
              (unsupported "dict.changed-during-merge" : Sem PUnit)
              pure (ForInStep.yield PUnit.unit) : Sem (ForInStep PUnit))
      pure ()) Q E s := by
    refine wpAny_bind (wpAny_dictEntries hoo hdo' ?_)
    refine wpAny_bind (wpAny_dictEpoch hoo hdo' ?_)
    refine wpAny_bind ?_
    rw [List.range_eq_range']
    refine wpAny_forIn_list _
      (fun rest _ s' => ∃ h' i, s' = { s with heap := h' } ∧ rest = List.range' i (eso.size - i) ∧ i ≤ eso.size ∧ h'.DictOf knd d (merged kvs (more.take i)) ∧ h'.get? o = some oo ∧ Heap.SameBut d s.heap h')
      _ ?_ ?_ _ _ ⟨s.heap, 0, rfl, by simp, Nat.zero_le _, by simpa [merged] using hd, hoo, Heap.SameBut.refl _ _⟩
    · rintro x rest b s' ⟨h', i, rfl, hr, hi, hd', hoo', hs'⟩
      have hlt : i < eso.size := by
        rcases Nat.lt_or_ge i eso.size with h | h
        · exact h
        · rw [Nat.sub_eq_zero_of_le h] at hr; simp at hr
      obtain ⟨rfl, hrest⟩ : x = i ∧ rest = List.range' (i + 1) (eso.size - (i + 1)) := by
        have e : eso.size - i = (eso.size - (i + 1)) + 1 := by omega
        rw [e, List.range'_succ] at hr
        injection hr with h1 h2
        exact ⟨h1, h2⟩
      refine wpAny_bind (wpAny_dictEntries hoo' hdo' ?_)
      rw [Array.getElem?_eq_getElem hlt]
      obtain ⟨kv, hkv⟩ : ∃ kv, more[x]? = some kv := ⟨more[x]'(by rw [hlen]; exact hlt), List.getElem?_eq_getElem _⟩
      obtain ⟨k, v⟩ := kv
      obtain ⟨hkey, hval⟩ := hpo.get? (e := eso[x]) (by simp [hlt]) hkv
      obtain ⟨k', hkey', hhash⟩ := hko eso[x] (Array.getElem_mem hlt)
      obtain rfl : k' = k := knd.inj _ _ _ hkey' hkey
      show wpAny _ _ (holding [eso[x].key, eso[x].val] (dictPut d eso[x].hash eso[x].key eso[x].val) >>= _) _ _ _
      rw [hhash, hval]
      have hmx : (merged kvs (more.take x)).length ≤ sizeLine := by
        have e1 := merged_length_le kvs (more.take x)
        have e2 : (more.take x).length ≤ more.length := by rw [List.length_take]; omega
        omega
      refine wpAny_bind (wpAny_holding (wpAny_dictPut hkey hd' hmx fun h'' hd'' hs'' => ?_))
      have hoo'' : h''.get? o = some oo := (hs''.2 o (Ne.symm hdo)).trans hoo'
      refine wpAny_bind (wpAny_dictEpoch hoo'' hdo' ?_)
      rw [if_neg (by simp)]
      exact wpAny_pure ⟨h'', x + 1, rfl, hrest, hlt, by rw [merged_take_succ kvs more x (k', v) hkv]; exact hd'', hoo'', hs'.trans hs''⟩
    · rintro b s' ⟨h', i, rfl, hr, hi, hd', hoo', hs'⟩
      have hin : i = eso.size := by
        rcases Nat.lt_or_ge i eso.size with h | h
        · have e : eso.size - i = (eso.size - (i + 1)) + 1 := by omega
          rw [e, List.range'_succ] at hr; exact nomatch hr
        · exact Nat.le_antisymm hi h
      refine wpAny_pure (hQ h' ?_ ⟨oo, eso, epo, hoo', hco, hdo', hko, hpo, hno⟩ hs')
      rw [hin, ← hlen, List.take_length] at hd'; exact hd'
  refine wpAny_bind (wpAny_dictEntries hod hdd ?_)
  simp only [Bool.false_eq_true, if_false]
  split
  · refine wpAny_bind (wpAny_dictEntries hoo hdo' ?_)
    refine wpAny_bind (wpAny_of_eq (a := PUnit.unit) ?_ loop)
    rw [← Array.forIn_toList]
    refine forIn_yield_id _ fun e he c => ?_
    obtain ⟨k, hkey, _⟩ := hko e (Array.mem_toList_iff.mp he)
    have := hnr k _ hkey
    split
    · rename_i a q
      exact absurd q (this a)
    · rfl
  · exact loop
end
theorem mix_noref {prog : Program} {w : World} : ∀ k v, (mixKind prog w).is k v = true → ∀ a, v ≠ .ref a := by
  rintro k v h a rfl
  rcases keyIs_shape h with ⟨i, t, _, e⟩ | ⟨x, t, _, e⟩ <;> exact nomatch e
/-- {**x, **y}: the new dict is there, empty, while x is told; then what x holds stands in it -/
def tMerge2 (ta tb : TE) : TE := fun σ H Q => ∀ p, H p = none → ta σ (L2.upd H p (.dK [])) fun x H1 => ∃ a ks, x = .ref a ∧ H1 a = some (.dK ks) ∧ H1 p = some (.dK []) ∧ p ≠ a ∧
  tb σ (L2.upd H1 p (.dK (mergeK [] ks))) fun y H2 => ∃ b ls, y = .ref b ∧ H2 b = some (.dK ls) ∧ H2 p = some (.dK (mergeK [] ks)) ∧ p ≠ b ∧ ks.length + ls.length ≤ sizeLine ∧ Q (.ref p) (L2.upd H2 p (.dK (mergeK (mergeK [] ks) ls)))
theorem d_merge {X : Cx} {pins : List (Addr × Obj)} {σ : L2.St} {H : Hp} {s : Shared} {A : Around} {E : Value → Shared → Prop} {p a : Addr} {js ks : List (Key × V)} {Q : Unit → Shared → Prop} (I : Inv X pins σ H s) (ep : H p = some (.dK js)) (ea : H a = some (.dK ks)) (n : p ≠ a) (hz : js.length + ks.length ≤ sizeLine)
    (h : ∀ s', Inv X pins σ (L2.upd H p (.dK (mergeK js ks))) s' → Q () s') : wpAny (model X.prog X.w) A (mergeMapping p (.ref a) false) Q E s := by
  obtain ⟨z1, hd1, vs1, rel1, dd1⟩ := dk_of I.hok ep
  obtain ⟨z2, hd2, vs2, rel2, dd2⟩ := dk_of I.hok ea
  refine wpAny_mergeMapping mix_noref n hd2 dd1 dd2 (by rw [← rel1.length, ← rel2.length]; exact hz) fun h' dd' _ hs => h _ ?_
  have he : ∃ q, h'.get? p = some q := let ⟨q, _, _, hq, _⟩ := dd'; ⟨q, hq⟩
  exact d_write I (t' := s.toks) (by rw [ep]; exact True.intro) hs he (dk_new (Nat.le_trans (length_mergeK _ _) hz) hd1 (rel2.merge rel1) dd')
theorem pe_merge2 {X : Cx} {pos : Pos} {e1 e2 : Expr} {ta tb : TE} (ha : PE X e1 ta) (hb : PE X e2 tb) : PE X (.Dict [none, none] [e1, e2] pos) (tMerge2 ta tb) := by
  refine ⟨fun pins s σ H Q I q => ?_⟩
  have hn := I.hok.fresh (Nat.le_refl s.heap.objs.size)
  have I1 := I.laid (a := s.heap.objs.size) (o := .dK []) (h' := s.heap.push { cls := .type "dict", data := .dict #[] }) (t' := s.toks) (fun _ _ q => Heap.get?_push_of_some _ q) (Nat.le_refl _) (dk_empty s.heap I.big)
  have q1 := q _ hn
  rw [arm_eval_Dict]
  refine wpAny_bind (wpAny_standAt ?_)
  unfold dictDisplay
  simp only [evalEachOpt, evalOpt, evalEach, List.map_cons, List.map_nil, List.zip_cons_cons, List.zip_nil_left, List.forIn_cons, List.forIn_nil, List.isEmpty_nil, if_true, pure_bind, bind_assoc]
  refine wpAny_bind (wpAny_alloc ?_)
  refine wpAny_bind (wpAny_holding (wpAny_bind (thn (ha.run pins _ σ _ _ I1 q1) fun u s2 ⟨x, H2, I2, rx, a, ks, ex, ea, ep, n, q2⟩ => wpAny_bind (wpAny_standAt (wpAny_pure ?_)))))
  subst ex
  cases (show u = Value.ref a from rx)
  obtain ⟨zk, _⟩ := dk_of I2.hok ea
  refine wpAny_bind (wpAny_onRaise (wpAny_tryCatch (wpAny_onRaise (wpAny_holding (d_merge I2 ep ea n (by rw [List.length_nil, Nat.zero_add]; exact zk) fun s3 I3 => ?_)))))
  refine wpAny_bind (wpAny_holding (wpAny_bind (thn (hb.run pins _ σ _ _ I3 q2) fun v s4 ⟨y, H4, I4, ry, b, ls, ey, eb, ep4, n4, hz, q4⟩ => wpAny_bind (wpAny_standAt (wpAny_pure ?_)))))
  subst ey
  cases (show v = Value.ref b from ry)
  have zm := length_mergeK ks []
  rw [List.length_nil, Nat.zero_add] at zm
  refine wpAny_bind (wpAny_onRaise (wpAny_tryCatch (wpAny_onRaise (wpAny_holding (d_merge I4 ep4 eb n4 (Nat.le_trans (Nat.add_le_add_right zm _) hz) fun s5 I5 => ?_)))))
  exact wpAny_pure ⟨.ref s.heap.objs.size, _, I5, rfl, q4⟩
end DMg


/-! Thaw: a raise out of a walk over a dict leaves the dict as it was; a dict comprehension over a dict's keys; x op y of one own class. -/
namespace Txs
open PySem PySem.Spec PyProof.Rows L2
/-- the walk over what stands at d ends here, by a raise -/
def tThaw (H0 : Hp) (t : TS) : TS := fun D σ H => ∃ d od u, H d = some (.frz od u) ∧ (∀ o' u', H0 d ≠ some (.frz o' u')) ∧ t D σ (L2.upd H d u)
theorem ps_thaw {X : Cx} {st : Stmt} {t : TS} (h : PS X st t) : PS X st (tThaw X.H_0 t) := ⟨fun pins s σ H D I ⟨d, od, u, e, n, q⟩ => h.run pins s σ _ D (I.unlock e n) q⟩
def DcAt (J : It) (g : TG) (tt : TT) (tk tv : TE) (vs : List Nat) (σ : L2.St) (H : Hp) (Q : Addr → Hp → Prop) : Prop := ∀ D, H D = none → ∃ W : Nat → Nat → Hp → Prop, (∃ m, W 0 m (upd H D (.dK []))) ∧ ∀ i m H, W i m H →
  (J.stop i H ∧ Q D H) ∨ (J.go i H ∧ ∃ Nx : Hp → Prop, (∀ H', Nx H' → ∃ m', m' < m ∧ W (i + 1) m' H') ∧ ∀ x H', J.yld i H x H' → g x (wipe σ vs) H' fun σ2 H2 => wipe σ2 vs = wipe σ vs ∧ tt σ2 H2 fun b H3 =>
    if b = true then tk σ2 H3 fun y H4 => tv σ2 H4 fun z H5 => ∃ kvs k, y = kV k ∧ H5 D = some (.dK kvs) ∧ kvs.length < sizeLine ∧ Nx (upd H5 D (.dK (putK kvs k z))) else Nx H3)
/-- over the keys of the dict at d -/
theorem dc_keys {d : Addr} {o : Obj} {ks : List (Key × V)} {g : TG} {tt : TT} {tk tv : TE} {vs : List Nat} {σ : L2.St} {H : Hp} {Q : Addr → Hp → Prop} (Pv : Addr → Nat → Hp → Prop) (h0 : ∀ D, H D = none → Pv D 0 (upd H D (.dK [])))
    (hl : ∀ D i H', H D = none → i ≤ ks.length → Pv D i H' → H' d = some (.frz o (.dK ks)))
    (hs : ∀ D i k v H', H D = none → ks[i]? = some (k, v) → Pv D i H' → g (kV k) (wipe σ vs) H' fun σ2 H2 => wipe σ2 vs = wipe σ vs ∧ tt σ2 H2 fun b H3 =>
      if b = true then tk σ2 H3 fun y H4 => tv σ2 H4 fun z H5 => ∃ kvs k, y = kV k ∧ H5 D = some (.dK kvs) ∧ kvs.length < sizeLine ∧ Pv D (i + 1) (upd H5 D (.dK (putK kvs k z))) else Pv D (i + 1) H3)
    (hd : ∀ D H', H D = none → Pv D ks.length H' → Q D H') : DcAt (Itk d o ks) g tt tk tv vs σ H Q := by
  refine fun D hD => ⟨fun i m H' => m = ks.length - i ∧ i ≤ ks.length ∧ Pv D i H', ⟨ks.length, by simp, Nat.zero_le _, h0 D hD⟩, ?_⟩
  rintro i m H' ⟨rfl, hi, p⟩
  have q := hl D i H' hD hi p
  by_cases lt : i < ks.length
  · refine .inr ⟨⟨q, lt⟩, Pv D (i + 1), fun H'' p' => ⟨_, by omega, rfl, lt, p'⟩, ?_⟩
    rintro x _ ⟨rfl, k, v, e, rfl⟩
    exact hs D i k v _ hD e p
  · obtain rfl : i = ks.length := by omega
    exact .inl ⟨⟨q, Nat.le_refl _⟩, hd D H' hD p⟩
end Txs
namespace OpO
open PySem PySem.Spec PyProof.Rows L2 PySem.W
section
variable {prog : Program} {w : World} {A : Around} {E : Value → Shared → Prop} {s : Shared} {K : Frag} {x y C f : Addr} {ox oy : Obj} {ody od : Option Obj}
/-- x op y, both of the one own class -/
theorem bin_same {op : Operator} {Q : Value → Shared → Prop} (X : K.In s.heap) (I : InstAt s.heap x ox C od) (J : InstAt s.heap y oy C ody) (c : OpC K C f op.info.2)
    (h : wpAny (model prog w) A (call (.ref f) [.ref x, .ref y]) (PySem.W.CmpBack Q) E s) : wpAny (model prog w) A (binaryOp op (.ref x) (.ref y)) Q E s := by
  obtain ⟨hc, hs, hf, rc, hr, hp⟩ := c
  obtain ⟨cd, rest, hcd, hm⟩ := ksp_first hc
  have done : wpAny (model prog w) A (tryMethod (.ref x) (PySem.dunder op.info.2) (.ref y)) (fun r s' => ∃ v, r = some v ∧ Q v s') E s := ksp_try X I hs hf h
  rcases hi : op.info with ⟨sym, nm⟩
  rw [hi] at hs hr done
  dsimp only at hs hr done
  obtain ⟨hh, g, d, tt, os⟩ := s
  have lx : Looks (model prog w) hh (typeOf (.ref x)) (.ref C) := I.type
  have ly : Looks (model prog w) hh (typeOf (.ref y)) (.ref C) := J.type
  have fx : Looks (model prog w) hh (fillsNumberSlot (.ref C) nm) true := fills_K X hcd hm hs
  have fin : wpAny (model prog w) A (tryMethod (.ref x) (PySem.dunder nm) (.ref y)) (fun r s' => ∃ v, r = some v ∧ Q v s') E ⟨hh, g, d, tt, os⟩ := done
  have eq : (Value.ref C == Value.ref C) = true := by simp
  simp only [binaryOp, hi]
  refine wpAny_holding (wpAny_bind ?_)
  unfold binaryOp1
  refine wpAny_bind (lx.at (wpAny_bind (ly.at (wpAny_bind (fx.at ?_)))))
  simp only [eq, if_true]
  ksp_lk
  refine wpAny_mono fin (fun r s' z => ?_) fun _ _ e => e
  obtain ⟨v, rfl, q⟩ := z
  ksp_lk
  exact q
end
section
variable {X : Cx} {k j : Nat} {C : Addr} {sp : Sp} {W : WX} {l r : Expr} {ta tb : TE} {pos : Pos}
/-- l op r: the left one an instance, the right one of a built-in kind or an instance of the same class -/
def tBos (K : Frag) (C : Addr) (nm : String) (sp : Sp) (W : WX) (ta tb : TE) : TE := fun σ H Q => ta σ H fun x H1 => tb σ H1 fun y H2 => ∃ (a dx : Addr) (fs : List (PySem.Str × V)), x = .ref a ∧ H2 a = some (.ins C dx fs) ∧
  ((∃ T : String, TyX K H2 y (.type T) ∧ OpT K C nm T) ∨ ∃ (b dy : Addr) (gs : List (PySem.Str × V)), y = .ref b ∧ H2 b = some (.ins C dy gs)) ∧ sp [.ref a, y] H2 Q (WE W σ)
theorem pe_bos {op : Operator} (c : Bx X.prog X.w X.K X.mg X.base k C op.info.2 sp) (hr : Room j X.A) (hk : k ≤ j) (tk : Takes X W) (ha : PE X l ta) (hb : PE X r tb) : PE X (.BinOp l op r pos) (tBos X.K C op.info.2 sp W ta tb) := by
  obtain ⟨f, fd, ps, oc, F, b⟩ := c.ex
  refine ⟨fun pins s σ H Q I h => wpAny_BinOp (binT ha hb I h fun v u s2 x y H2 I2 rx ry q => ?_)⟩
  obtain ⟨a, dx, fs, rfl, e, ot, q⟩ := q
  cases (show v = Value.ref a from rx)
  obtain ⟨mA, J, _⟩ := ins_get I2.hok e
  obtain ⟨od, J, _⟩ := J.look
  have fin : wpAny (model X.prog X.w) X.A (call (.ref f) [.ref a, u]) (PySem.W.CmpBack (EP X pins σ Q)) X.xe s2 := by
    refine wpAny_mono (run_fnS (E := WE W) (us := [.ref a, u]) (vs := [.ref a, y]) F (hr.mono hk) b (passAt tk σ) I2 (.cons rfl (.cons ry .nil)) q) (fun v s' z => ?_) fun _ _ e => e
    obtain ⟨x', H', I', rx', q'⟩ := z
    have := rel_some rx'
    cases v <;> first | exact absurd rfl this | exact ⟨x', H', I', rx', q'⟩
  rcases ot with ⟨T, ty, ot⟩ | ⟨b', dy, gs, rfl, e'⟩
  · obtain ⟨_, KX, hT, _⟩ := kit_of I2 ry ty
    exact bin_own I2.kIn J (KX.ty _ _ I2.kIn hT) oc ot fin
  · cases (show u = Value.ref b' from ry)
    obtain ⟨mB, J', _⟩ := ins_get I2.hok e'
    obtain ⟨od', J', _⟩ := J'.look
    exact bin_same I2.kIn J J' oc fin
theorem pe_bosK (K : Frag) {op : Operator} (c : Bx X.prog X.w X.K X.mg X.base k C op.info.2 sp) (hr : Room j X.A) (hk : k ≤ j) (tk : Takes X W) (ha : PE X l ta) (hb : PE X r tb) (e : X.K = K := by rfl) : PE X (.BinOp l op r pos) (tBos K C op.info.2 sp W ta tb) := e ▸ pe_bos c hr hk tk ha hb
theorem pe_broK (K : Frag) (c : Rx X.prog X.w X.K X.mg X.base k C sp) (hr : Room j X.A) (hk : k ≤ j) (tk : Takes X W) (ha : PE X l ta) (hb : PE X r tb) (e : X.K = K := by rfl) : PE X (.BinOp l .BitOr r pos) (tBro K C sp W ta tb) := e ▸ pe_bro c hr hk tk ha hb
end
end OpO


/-! DictEqs: d == e of dicts from texts to texts, (d, xs) == (e, ys) of pairs of such a dict and a list of texts: the answer, be it True or False. -/
namespace Txs
open PySem PySem.Spec PyProof.Rows L2
/-- the same keys with the same values -/
def eqK (ks ls : List (Key × V)) : Bool := decide (ks.length = ls.length) && ks.all fun p => decide (valV ls p.1 = some p.2)
def strV (v : V) : Prop := ∃ z, v = .str z
theorem depth_strs : ∀ xs : List PySem.Str, PyData.depthAll (xs.map PyData.str) = 0
  | [] => rfl
  | x :: xs => by
    rw [List.map_cons]
    show max 0 (PyData.depthAll (xs.map PyData.str)) = 0
    rw [depth_strs xs]
    rfl
theorem plain_strs : ∀ xs : List PySem.Str, PyData.plainAll (xs.map PyData.str) = true
  | [] => rfl
  | x :: xs => by
    rw [List.map_cons]
    show (true && PyData.plainAll (xs.map PyData.str)) = true
    rw [plain_strs xs]
    rfl
theorem eqvAll_strs : ∀ ts us : List PySem.Str, PyData.eqvAll (ts.map PyData.str) (us.map PyData.str) = decide (ts = us)
  | [], [] => by simp [PyData.eqvAll]
  | [], u :: us => by simp [PyData.eqvAll]
  | t :: ts, [] => by simp [PyData.eqvAll]
  | t :: ts, u :: us => by
    have e : PyData.eqv (.str t) (.str u) = (t == u) := by simp only [PyData.eqv]
    simp only [List.map_cons, PyData.eqvAll, e, eqvAll_strs ts us]
    rw [Bool.beq_eq_decide_eq, ← Bool.decide_and]
    exact decide_eq_decide.mpr (by simp)
/-- a text and a text -/
theorem leaf_strs {prog : Program} {w : World} {s : Shared} {x y : PySem.Str} {tx ty : Tok} {n : Nat} : PySem.W.EqTree prog w s n (.str x tx) (.str y ty) (decide (x = y)) := by
  refine .leaf fun A hu => ?_
  have h := SeqAt.eqAt_plain (.str x) (.str y) A s _ _ [] [] (Reads.str x tx) (Reads.str y ty) rfl rfl (by show A.units + 0 < cLine; omega)
  have e : PyData.eqv (.str x) (.str y) = decide (x = y) := by
    simp only [PyData.eqv]
    rw [Bool.beq_eq_decide_eq]
  rw [e] at h
  exact h
theorem dpAll_strs {K : PySem.W.Frag} {H : Hp} : ∀ xs : List PySem.Str, DpAll K H (xs.map V.str) (xs.map PyData.str)
  | [] => .nil
  | x :: xs => .cons (.str x) (dpAll_strs xs)
section
variable {X : Cx} {pins : List (Addr × Obj)} {σ : L2.St} {H : Hp} {s : Shared}
theorem leaf_lists (I : Inv X pins σ H s) {a b : Addr} {xs ys : List PySem.Str} (ha : SqL X.K H a (xs.map V.str)) (hb : SqL X.K H b (ys.map V.str)) : PySem.W.EqTree X.prog X.w s 1 (.ref a) (.ref b) (decide (xs = ys)) := by
  obtain ⟨as, r1⟩ := Dp.reads I (.list (xs.map PyData.str)) (.ref a) (.ref a) (.lst ha (dpAll_strs xs)) rfl
  obtain ⟨bs, r2⟩ := Dp.reads I (.list (ys.map PyData.str)) (.ref b) (.ref b) (.lst hb (dpAll_strs ys)) rfl
  refine .leaf fun A hu => ?_
  have h := SeqAt.eqAt_plain _ _ A s _ _ as bs r1 r2 (plain_strs xs) (plain_strs ys) (by
    show A.units + min (PyData.depthAll (xs.map PyData.str) + 1) (PyData.depthAll (ys.map PyData.str) + 1) < cLine
    rw [depth_strs, depth_strs]
    exact hu)
  have e : PyData.eqv (.list (xs.map PyData.str)) (.list (ys.map PyData.str)) = decide (xs = ys) := by
    simp only [PyData.eqv]
    exact eqvAll_strs xs ys
  rw [e] at h
  exact h
theorem all_hits {ks ls : List (Key × V)} {vb : List (Key × Value)} (rb : KV ls vb) {ks' : List (Key × V)} {va' : List (Key × Value)} (ra : KV ks' va') : (∀ p ∈ ks', valV ks p.1 = some p.2) →
    (va'.all fun p => (valueAt vb p.1).isSome && decide (valV ks p.1 = valV ls p.1)) = ks'.all fun p => decide (valV ls p.1 = some p.2) := by
  unfold KV at ra
  induction ra with
  | nil => intro _; rfl
  | @cons p q ps qs h t ih =>
    intro hp
    rw [List.all_cons, List.all_cons, ih fun p' hm => hp p' (List.mem_cons_of_mem _ hm), ← h.1, hp p List.mem_cons_self]
    congr 1
    have e := (rb.val p.1).isSome_eq
    rw [← e]
    cases g : valV ls p.1 with
    | none => simp
    | some u =>
      show (true && decide (some p.2 = some u)) = decide (some u = some p.2)
      rw [Bool.true_and]
      exact decide_eq_decide.mpr ⟨fun z => z.symm, fun z => z.symm⟩
theorem kv_mem {ks : List (Key × V)} {va : List (Key × Value)} (ra : KV ks va) {k : Key} {v : Value} (h : (k, v) ∈ va) : ∃ x, (k, x) ∈ ks ∧ RelV x v := by
  unfold KV at ra
  induction ra with
  | nil => exact nomatch h
  | @cons p q ps qs e t ih =>
    rcases List.mem_cons.mp h with z | z
    · subst z
      exact ⟨p.2, by rw [← show p.1 = k from e.1]; exact List.mem_cons_self, e.2⟩
    · obtain ⟨x, h1, h2⟩ := ih z
      exact ⟨x, List.mem_cons_of_mem _ h1, h2⟩
/-- two dicts whose values are texts -/
theorem tree_dicts (I : Inv X pins σ H s) {a b : Addr} {ks ls : List (Key × V)} (ha : H a = some (.dK ks)) (hb : H b = some (.dK ls)) (nd : (ks.map (·.1)).Nodup) (h1 : ∀ p ∈ ks, strV p.2) (h2 : ∀ p ∈ ls, strV p.2) :
    ∃ (va vb : List (Key × Value)) (e : Key → Bool), (a == sysModules) = false ∧ (b == sysModules) = false ∧ s.heap.DictOf (mixKind X.prog X.w) a va ∧ s.heap.DictOf (mixKind X.prog X.w) b vb ∧
      (∀ k v y, (k, v) ∈ va → valueAt vb k = some y → PySem.W.EqTree X.prog X.w s 0 v y (e k)) ∧ (va.length == vb.length && va.all fun p => (valueAt vb p.1).isSome && e p.1) = eqK ks ls := by
  obtain ⟨_, ya, va, ra, da⟩ := (show ObjOk X.prog X.w H s.heap a (.dK ks) from I.hok a _ ha)
  obtain ⟨_, yb, vb, rb, db⟩ := (show ObjOk X.prog X.w H s.heap b (.dK ls) from I.hok b _ hb)
  have own : ∀ p ∈ ks, valV ks p.1 = some p.2 := val_nodup nd
  refine ⟨va, vb, fun k => decide (valV ks k = valV ls k), ya, yb, da, db, fun k v y hm hv => ?_, ?_⟩
  · obtain ⟨x, hx, rx⟩ := kv_mem ra hm
    have e1 := own _ hx
    have r2 := rb.val k
    rw [hv] at r2
    cases g : valV ls k with
    | none => rw [g] at r2; exact r2.elim
    | some u =>
      rw [g] at r2
      have r2 : RelV u y := r2
      obtain ⟨z1, e2⟩ := h1 _ hx
      have hu : ∃ p ∈ ls, p.2 = u := by
        unfold valV at g
        obtain ⟨p, hp, e⟩ := Option.map_eq_some_iff.mp g
        exact ⟨p, List.mem_of_find?_eq_some hp, e⟩
      obtain ⟨p, hp, rfl⟩ := hu
      obtain ⟨z2, e3⟩ := h2 _ hp
      have e2 : x = .str z1 := e2
      subst e2
      rw [e3] at r2 g
      obtain ⟨t1, rfl⟩ := rx
      obtain ⟨t2, rfl⟩ := r2
      have : decide (valV ks k = valV ls k) = decide (z1 = z2) := by
        rw [g, e1]
        exact decide_eq_decide.mpr ⟨fun w => by injection w with w; injection w, fun w => by rw [w]⟩
      show PySem.W.EqTree X.prog X.w s 0 _ _ (decide (valV ks k = valV ls k))
      rw [this]
      exact leaf_strs
  · unfold eqK
    rw [all_hits rb ra own, ← ra.length, ← rb.length]
    rfl
def rEqDT : R2 := fun x y H Q => ∃ a b ks ls, x = .ref a ∧ y = .ref b ∧ H a = some (.dK ks) ∧ H b = some (.dK ls) ∧ (ks.map (·.1)).Nodup ∧ (∀ p ∈ ks, strV p.2) ∧ (∀ p ∈ ls, strV p.2) ∧ Q (.bl (eqK ks ls)) H
/-- d == e -/
theorem op_eq_dictT (hu : X.A.units + 1 < cLine) : OpR X (compareOp .Eq) rEqDT := by
  intro pins s σ H x y v u Q I rx ry h
  obtain ⟨a, b, ks, ls, rfl, rfl, ea, eb, nd, h1, h2, q⟩ := h
  obtain rfl : v = Value.ref a := rx
  obtain rfl : u = Value.ref b := ry
  obtain ⟨va, vb, e, ya, yb, da, db, t, r⟩ := tree_dicts I ea eb nd h1 h2
  refine PySem.W.eq_dictsT (knd := mixKind X.prog X.w) (n := 0) ya yb da db t hu ?_
  rw [r]
  exact ⟨.bl _, H, I, rfl, q⟩
def rEqPT (K : PySem.W.Frag) : R2 := fun x y H Q => ∃ (p q a b c d : Addr) (ks ls : List (Key × V)) (xs ys : List PySem.Str), x = .ref p ∧ y = .ref q ∧ SqT K H p [.ref a, .ref c] ∧ SqT K H q [.ref b, .ref d] ∧ H a = some (.dK ks) ∧ H b = some (.dK ls) ∧ a ≠ b ∧ (ks.map (·.1)).Nodup ∧ (∀ p ∈ ks, strV p.2) ∧ (∀ p ∈ ls, strV p.2) ∧
  SqL K H c (xs.map V.str) ∧ SqL K H d (ys.map V.str) ∧ Q (.bl (eqK ks ls && decide (xs = ys))) H
/-- (d, xs) == (e, ys) -/
theorem op_eq_pairT (hu : X.A.units + 3 < cLine) : OpR X (compareOp .Eq) (rEqPT X.K) := by
  intro pins s σ H x y v u Q I rx ry h
  obtain ⟨p, q, a, b, c, d, ks, ls, xs, ys, rfl, rfl, hp, hq, ea, eb, nab, nd, h1, h2, hc, hd, k⟩ := h
  obtain rfl : v = Value.ref p := rx
  obtain rfl : u = Value.ref q := ry
  obtain ⟨va, vb, e, ya, yb, da, db, t, r⟩ := tree_dicts I ea eb nd h1 h2
  obtain ⟨us, r1, ⟨o1, ho1, hc1, n1, hd1⟩, _⟩ := I.tuple hp
  obtain ⟨ws, r2, ⟨o2, ho2, hc2, n2, hd2⟩, _⟩ := I.tuple hq
  obtain ⟨u1, u2, rfl, rfl, rfl⟩ : ∃ u1 u2, us = [u1, u2] ∧ u1 = Value.ref a ∧ u2 = Value.ref c := by
    cases r1 with
    | cons a1 t1 => cases t1 with
      | cons a2 t2 => cases t2; exact ⟨_, _, rfl, a1, a2⟩
  obtain ⟨w1, w2, rfl, rfl, rfl⟩ : ∃ w1 w2, ws = [w1, w2] ∧ w1 = Value.ref b ∧ w2 = Value.ref d := by
    cases r2 with
    | cons a1 t1 => cases t1 with
      | cons a2 t2 => cases t2; exact ⟨_, _, rfl, a1, a2⟩
  have lt := leaf_lists I hc hd
  have dt := PySem.W.EqTree.dicts (n := 0) nab ya yb da db t
  rw [r] at dt
  refine PySem.W.eq_tuplesT (n := 1) (e := fun j => if j = 0 then eqK ks ls else decide (xs = ys)) ⟨o1, ho1, hc1, n1, hd1⟩ ⟨o2, ho2, hc2, n2, hd2⟩ (fun j j1 j2 => ?_) (by omega) ?_
  · have j1 : j < 2 := j1
    match j, j1 with
    | 0, _ => exact dt
    | 1, _ => exact lt
  · show EP X pins σ Q (.bool (([0, 1].all fun j => if j = 0 then eqK ks ls else decide (xs = ys)) && true)) s
    have e2 : (([0, 1].all fun j => if j = 0 then eqK ks ls else decide (xs = ys)) && true) = (eqK ks ls && decide (xs = ys)) := by simp
    rw [e2]
    exact ⟨.bl _, H, I, rfl, k⟩
end
end Txs


namespace Lw
open PySem PySem.Spec PyProof.Rows L2 Txs
open C8 (pe_gc)
def top (i : Nat) : Stmt := PySem.Challenge.pw_leastguards_k08_whole_view_history.main.body.getD i (.Pass ⟨0, 0, 0, 0⟩)
abbrev s_law_flag : Stmt := top 16
abbrev s_law_stream : Stmt := top 17
abbrev s_law_draw : Stmt := top 18
abbrev s_law_names : Stmt := top 19
abbrev s_law_do : Stmt := top 20
abbrev s_law_right : Stmt := top 21
abbrev s_law : Stmt := top 22
abbrev s_is_name : Stmt := top 7
abbrev s_is_row : Stmt := top 8
abbrev s_check_sights : Stmt := top 10
abbrev s_check_words : Stmt := top 11
abbrev s_sights_without : Stmt := top 12
abbrev s_seeing : Stmt := top 14
abbrev s_View___init__ : Stmt := inClass (top 13) 0
abbrev s_View___eq__ : Stmt := inClass (top 13) 1
abbrev s_View___len__ : Stmt := inClass (top 13) 2
abbrev s_View___contains__ : Stmt := inClass (top 13) 3
abbrev s_View___getitem__ : Stmt := inClass (top 13) 4
abbrev s_View___setitem__ : Stmt := inClass (top 13) 5
abbrev s_View___ior__ : Stmt := inClass (top 13) 9
abbrev s_View___isub__ : Stmt := inClass (top 13) 11
abbrev s_View_words : Stmt := inClass (top 13) 12
abbrev s_View_sights : Stmt := inClass (top 13) 13
abbrev s_View_holds : Stmt := inClass (top 13) 14
abbrev s_View_hold_just : Stmt := inClass (top 13) 16
abbrev s_View_copy : Stmt := inClass (top 13) 17
abbrev N_law_flag : List PySem.Str := ["_law_told", "_law_due"]
theorem sc_law_flag : FnScope N_law_flag ["_law_told", "_law_due"] (defScope s_law_flag) := ⟨rfl, rfl, rfl, by decide +kernel, rfl, by decide +kernel, by decide +kernel⟩
abbrev N_law_stream : List PySem.Str := ["_law_script", "_law_at", "_law_cell"]
theorem sc_law_stream : FnScope N_law_stream ["_law_script", "_law_at"] (defScope s_law_stream) := ⟨rfl, rfl, rfl, by decide +kernel, rfl, by decide +kernel, by decide +kernel⟩
abbrev N_law_draw : List PySem.Str := ["_law_stream_here", "_law_limit", "_law_number", "_law_rest"]
theorem sc_law_draw : FnScope N_law_draw ["_law_stream_here", "_law_limit"] (defScope s_law_draw) := ⟨rfl, rfl, rfl, by decide +kernel, rfl, by decide +kernel, by decide +kernel⟩
abbrev N_law_names : List PySem.Str := ["_law_stream_here", "_law_count", "_law_names_here", "_law_k", "_law_name", "_law_turn"]
theorem sc_law_names : FnScope N_law_names ["_law_stream_here", "_law_count"] (defScope s_law_names) := ⟨rfl, rfl, rfl, by decide +kernel, rfl, by decide +kernel, by decide +kernel⟩
abbrev N_law_do : List PySem.Str := ["_law_stream_here", "_law_views", "_law_models", "_law_names_here", "_law_which", "_law_kind", "_law_word", "_law_sight", "_law_row", "_law_view", "_law_table", "_law_holds", "_law_turn", "_law_gone", "_law_seen"]
theorem sc_law_do : FnScope N_law_do ["_law_stream_here", "_law_views", "_law_models", "_law_names_here"] (defScope s_law_do) := ⟨rfl, rfl, rfl, by decide +kernel, rfl, by decide +kernel, by decide +kernel⟩
abbrev N_law_right : List PySem.Str := ["_law_view", "_law_model", "_law_names_here", "_law_name"]
theorem sc_law_right : FnScope N_law_right ["_law_view", "_law_model", "_law_names_here"] (defScope s_law_right) := ⟨rfl, rfl, rfl, by decide +kernel, rfl, by decide +kernel, by decide +kernel⟩
abbrev N_law : List PySem.Str := ["_law_script", "_law_names_here", "_law_views", "_law_models", "_law_at", "_law_before", "_law_kept"]
theorem sc_law : FnScope N_law ["_law_script"] (defScope s_law) := ⟨rfl, rfl, rfl, by decide +kernel, rfl, by decide +kernel, by decide +kernel⟩
abbrev N_is_name : List PySem.Str := ["thing", "letter"]
theorem sc_is_name : FnScope N_is_name ["thing"] (defScope s_is_name) := ⟨rfl, rfl, rfl, by decide +kernel, rfl, by decide +kernel, by decide +kernel⟩
abbrev N_is_row : List PySem.Str := ["thing"]
theorem sc_is_row : FnScope N_is_row ["thing"] (defScope s_is_row) := ⟨rfl, rfl, rfl, by decide +kernel, rfl, by decide +kernel, by decide +kernel⟩
abbrev N_check_sights : List PySem.Str := ["sights", "word", "sight"]
theorem sc_check_sights : FnScope N_check_sights ["sights"] (defScope s_check_sights) := ⟨rfl, rfl, rfl, by decide +kernel, rfl, by decide +kernel, by decide +kernel⟩
abbrev N_check_words : List PySem.Str := ["words", "word"]
theorem sc_check_words : FnScope N_check_words ["words"] (defScope s_check_words) := ⟨rfl, rfl, rfl, by decide +kernel, rfl, by decide +kernel, by decide +kernel⟩
abbrev N_sights_without : List PySem.Str := ["sights", "words", "gone", "word"]
theorem sc_sights_without : FnScope N_sights_without ["sights", "words"] (defScope s_sights_without) := ⟨rfl, rfl, rfl, by decide +kernel, rfl, by decide +kernel, by decide +kernel⟩
abbrev N_seeing : List PySem.Str := ["words", "holds", "word"]
theorem sc_seeing : FnScope N_seeing ["words", "holds"] (defScope s_seeing) := ⟨rfl, rfl, rfl, by decide +kernel, rfl, by decide +kernel, by decide +kernel⟩
abbrev N_View___init__ : List PySem.Str := ["self", "sights", "holds"]
theorem sc_View___init__ : FnScope N_View___init__ ["self", "sights", "holds"] (defScope s_View___init__) := ⟨rfl, rfl, rfl, by decide +kernel, rfl, by decide +kernel, by decide +kernel⟩
abbrev N_View___eq__ : List PySem.Str := ["self", "other"]
theorem sc_View___eq__ : FnScope N_View___eq__ ["self", "other"] (defScope s_View___eq__) := ⟨rfl, rfl, rfl, by decide +kernel, rfl, by decide +kernel, by decide +kernel⟩
abbrev N_View___len__ : List PySem.Str := ["self"]
theorem sc_View___len__ : FnScope N_View___len__ ["self"] (defScope s_View___len__) := ⟨rfl, rfl, rfl, by decide +kernel, rfl, by decide +kernel, by decide +kernel⟩
abbrev N_View___contains__ : List PySem.Str := ["self", "x"]
theorem sc_View___contains__ : FnScope N_View___contains__ ["self", "x"] (defScope s_View___contains__) := ⟨rfl, rfl, rfl, by decide +kernel, rfl, by decide +kernel, by decide +kernel⟩
abbrev N_View___getitem__ : List PySem.Str := ["self", "at"]
theorem sc_View___getitem__ : FnScope N_View___getitem__ ["self", "at"] (defScope s_View___getitem__) := ⟨rfl, rfl, rfl, by decide +kernel, rfl, by decide +kernel, by decide +kernel⟩
abbrev N_View___setitem__ : List PySem.Str := ["self", "at", "worth"]
theorem sc_View___setitem__ : FnScope N_View___setitem__ ["self", "at", "worth"] (defScope s_View___setitem__) := ⟨rfl, rfl, rfl, by decide +kernel, rfl, by decide +kernel, by decide +kernel⟩
abbrev N_View___ior__ : List PySem.Str := ["self", "other"]
theorem sc_View___ior__ : FnScope N_View___ior__ ["self", "other"] (defScope s_View___ior__) := ⟨rfl, rfl, rfl, by decide +kernel, rfl, by decide +kernel, by decide +kernel⟩
abbrev N_View___isub__ : List PySem.Str := ["self", "other"]
theorem sc_View___isub__ : FnScope N_View___isub__ ["self", "other"] (defScope s_View___isub__) := ⟨rfl, rfl, rfl, by decide +kernel, rfl, by decide +kernel, by decide +kernel⟩
abbrev N_View_words : List PySem.Str := ["self"]
theorem sc_View_words : FnScope N_View_words ["self"] (defScope s_View_words) := ⟨rfl, rfl, rfl, by decide +kernel, rfl, by decide +kernel, by decide +kernel⟩
abbrev N_View_sights : List PySem.Str := ["self"]
theorem sc_View_sights : FnScope N_View_sights ["self"] (defScope s_View_sights) := ⟨rfl, rfl, rfl, by decide +kernel, rfl, by decide +kernel, by decide +kernel⟩
abbrev N_View_holds : List PySem.Str := ["self"]
theorem sc_View_holds : FnScope N_View_holds ["self"] (defScope s_View_holds) := ⟨rfl, rfl, rfl, by decide +kernel, rfl, by decide +kernel, by decide +kernel⟩
abbrev N_View_hold_just : List PySem.Str := ["self", "words"]
theorem sc_View_hold_just : FnScope N_View_hold_just ["self", "words"] (defScope s_View_hold_just) := ⟨rfl, rfl, rfl, by decide +kernel, rfl, by decide +kernel, by decide +kernel⟩
abbrev N_View_copy : List PySem.Str := ["self"]
theorem sc_View_copy : FnScope N_View_copy ["self"] (defScope s_View_copy) := ⟨rfl, rfl, rfl, by decide +kernel, rfl, by decide +kernel, by decide +kernel⟩
/-- what the module holds: the built-in names, the constants -/
structure Bt (mg : PySem.Str → Option Value) : Prop where
  b_len : mg "len" = none
  b_isinstance : mg "isinstance" = none
  b_sorted : mg "sorted" = none
  b_range : mg "range" = none
  b_enumerate : mg "enumerate" = none
  b_zip : mg "zip" = none
  b_all : mg "all" = none
  b_int : mg "int" = none
  b_list : mg "list" = none
  b_tuple : mg "tuple" = none
  b_set : mg "set" = none
  b_str : mg "str" = none
  b_bool : mg "bool" = none
  b_dict : mg "dict" = none
  b_min : mg "min" = none
  c_LETTERS : ∃ u, mg "LETTERS" = some u ∧ RelV (.str "abcdefghijklmnopqrstuvwxyz") u
  c_LONGEST_NAME : ∃ u, mg "LONGEST_NAME" = some u ∧ RelV (.int 12) u

/-! ### words of our own -/
/-- a def as it stands behind the top, and its name -/
structure At (K : PySem.W.Frag) (mg : PySem.Str → Option Value) (x : PySem.Str) (st : Stmt) : Prop where
  ex : ∃ f fd, FunD K x x (defArgs st) (defBody st) (defScope st) [] [] f fd ∧ mg x = some (.ref f)
/-- a def that can be called: its promise, its defaults -/
structure Cl (P : Program) (w : World) (K : PySem.W.Frag) (mg : PySem.Str → Option Value) (base : Heap) (k : Nat) (x : PySem.Str) (sp : Sp) (dvs : List V) : Prop where
  ex : ∃ f fd ps ds, FnOk P w K mg base CX0 k f fd ps sp ∧ mg x = some (.ref f) ∧ PySem.W.keepIn K (.ref f) = true ∧ Binds K fd ps ds ∧ Vals dvs ds
/-- a class that makes its instances by __init__ -/
structure Mr (P : Program) (w : World) (K : PySem.W.Frag) (mg : PySem.Str → Option Value) (base : Heap) (k : Nat) (x : PySem.Str) (C : Addr) (sp : Sp) (dvs : List V) : Prop where
  ex : ∃ f fd ps ds, Mk K C f ∧ FnOk P w K mg base CX0 k f fd ps sp ∧ mg x = some (.ref C) ∧ Binds K fd ps ds ∧ Vals dvs ds
/-- a property of a class -/
structure Pr (P : Program) (w : World) (K : PySem.W.Frag) (mg : PySem.Str → Option Value) (base : Heap) (k : Nat) (C : Addr) (x : PySem.Str) (sp : Sp) : Prop where
  ex : ∃ p f fd ps, PropOf K C x p f ∧ Cls K C ∧ FnOk P w K mg base CX0 k f fd ps sp ∧ Binds K fd ps []
section
variable {P : Program} {w : World} {K : PySem.W.Frag} {mg : PySem.Str → Option Value} {base : Heap}
theorem At.cal {x : PySem.Str} {st : Stmt} {k : Nat} {sp : Sp} {ps : List PySem.Str} (A : At K mg x st) (ok : ∀ f fd, FunD K x x (defArgs st) (defBody st) (defScope st) [] [] f fd → FnOk P w K mg base CX0 k f fd ps sp)
    (b : ∀ (kV doc pm : Value) (an : Option Addr) (cdv ct : Value) (us : List Value), us.length = ps.length → bindArgs (PySem.W.fnOf x x (defArgs st) (defBody st) (defScope st) .none kV doc pm an cdv ct) ⟨us, []⟩ = pure (ps.zip us)) : Cl P w K mg base k x sp [] := by
  obtain ⟨f, fd, F, g⟩ := A.ex
  exact ⟨f, fd, ps, [], ok f fd F, g, F.kp, F.bindsN b, .nil⟩
end
section
variable {X : Cx} {k j : Nat} {C : Addr} {x : PySem.Str} {sp : Sp} {dvs : List V} {p pos : Pos} {e : Expr} {es : List Expr} {t : TA} {ta : TE}
theorem pe_cl (c : Cl X.prog X.w X.K X.mg X.base k x sp dvs) (hr : Room j X.A) (hk : k ≤ j) (hg : Gl X x) (ha : PA X (e :: es) t) (h1 : (x == ("__debug__" : PySem.Str)) = false := by decide)
    (h2 : starEach (e :: es) X.env = (false, eval e X.env) :: starEach es X.env := by rfl) (h3 : (backTo pos (starEach es X.env)).any (·.1) = false := by rfl) : PE X (.Call (.Name x p) (e :: es) [] pos) (tCall sp dvs E0 t) :=
  let ⟨_, _, _, _, F, hm, kp, b, d⟩ := c.ex
  pe_call F (hr.mono hk) hg hm kp b d pass0 ha h1 h2 h3
theorem pe_cl0 (c : Cl X.prog X.w X.K X.mg X.base k x sp dvs) (hr : Room j X.A) (hk : k ≤ j) (hg : Gl X x) (h1 : (x == ("__debug__" : PySem.Str)) = false := by decide) : PE X (.Call (.Name x p) [] [] pos) (tCall sp dvs E0 tNil) :=
  let ⟨_, _, _, _, F, hm, kp, b, d⟩ := c.ex
  pe_call0 F (hr.mono hk) hg hm kp b d pass0 h1
theorem pe_mr (c : Mr X.prog X.w X.K X.mg X.base k x C sp dvs) (hr : Room j X.A) (hk : k + 1 ≤ j) (hg : Gl X x) (ha : PA X (e :: es) t) (h1 : (x == ("__debug__" : PySem.Str)) = false := by decide)
    (h2 : starEach (e :: es) X.env = (false, eval e X.env) :: starEach es X.env := by rfl) (h3 : (backTo pos (starEach es X.env)).any (·.1) = false := by rfl) : PE X (.Call (.Name x p) (e :: es) [] pos) (tMake C sp dvs E0 t) :=
  let ⟨_, _, _, _, M, F, hm, b, d⟩ := c.ex
  pe_make M F (hr.mono hk) hg hm b d pass0 ha h1 h2 h3
theorem pe_pr (c : Pr X.prog X.w X.K X.mg X.base k C x sp) (hr : Room j X.A) (hk : k + 1 ≤ j) (he : PE X e ta) (hab : attributeBase e x X.env (eval e X.env) = eval e X.env) : PE X (.Attribute e x pos) (tProp C sp [] E0 ta) :=
  let ⟨_, _, _, _, hp, hc, F, b⟩ := c.ex
  pe_prop he hc hp F (hr.mono hk) b .nil pass0 hab
end
theorem hu64_of {A : Around} {k : Nat} (r : Room k A) : A.units + 64 < cLine := by have := r.un; omega
theorem hu65_of {A : Around} {k : Nat} (r : Room k A) : A.units + 65 < cLine := by have := r.un; omega
/-! rules within a comprehension's block: K told -/
theorem ixT (K : PySem.W.Frag) {X : Cx} (h : X.K = K := by rfl) : IxR X (rIxT K) := h ▸ ix_tup
theorem ixL (K : PySem.W.Frag) {X : Cx} (h : X.K = K := by rfl) : IxR X (rIxL K) := h ▸ ix_list
theorem opIn (K : PySem.W.Frag) {X : Cx} (h : X.K = K := by rfl) : OpR X (compareOp .In) (rIn K false) := h ▸ op_in_seq
theorem opNotIn (K : PySem.W.Frag) {X : Cx} (h : X.K = K := by rfl) : OpR X (compareOp .NotIn) (rIn K true) := h ▸ op_notIn_seq
theorem clLen (K : PySem.W.Frag) {X : Cx} (h : X.K = K := by rfl) : CallR X (.builtin "len") (fun xs H Q => ∃ p ys, xs = [.ref p] ∧ (SqL K H p ys ∨ SqT K H p ys) ∧ Q (.int ys.length) H) := h ▸ call_len_seq
theorem clIsi (K : PySem.W.Frag) {X : Cx} (h : X.K = K := by rfl) : CallR X (.builtin "isinstance") (rIsi K) := h ▸ call_isi
/-- all but what stands at a is kept -/
def But (a : Addr) (H H' : Hp) : Prop := ∀ b o, H b = some o → b ≠ a → H' b = some o
theorem But.refl {a : Addr} {H : Hp} : But a H H := fun _ _ h _ => h
theorem But.trans {a : Addr} {H H1 H2 : Hp} (p : But a H H1) (q : But a H1 H2) : But a H H2 := fun b o h n => q b o (p b o h n) n
theorem But.upd {a : Addr} {H : Hp} {o : HO} : But a H (L2.upd H a o) := fun b u h n => by rw [upd_ne n]; exact h
theorem But.new {a p : Addr} {H H' : Hp} {o : HO} (k : But a H H') (n : H' p = none) : But a H (L2.upd H' p o) := fun b u h ne => by
  have := k b u h ne
  rw [upd_ne (ne_of_none this n)]; exact this
theorem But.put {a p : Addr} {H H' : Hp} {o : HO} (k : But a H H') (n : H p = none) : But a H (L2.upd H' p o) := fun b u h ne => by
  rw [upd_ne (ne_of_none h n)]; exact k b u h ne
theorem But.of {a : Addr} {H H' : Hp} (k : Same H H') : But a H H' := fun b o h _ => k b o h
/-- three ints in a list: a stream of draws -/
def Stm (H : Hp) (a : Addr) : Prop := ∃ x y z : Int, H a = some (.lst [.int x, .int y, .int z])
theorem Stm.ne {H : Hp} {a b : Addr} {o : HO} (s : Stm H a) (h : H b = some o) (d : ∀ x y z : Int, o ≠ .lst [.int x, .int y, .int z]) : b ≠ a := by
  obtain ⟨x, y, z, e⟩ := s
  intro q
  rw [q, e] at h
  exact d x y z (Option.some.inj h).symm
theorem Stm.keep {H H' : Hp} {a : Addr} (s : Stm H a) (k : Same H H') : Stm H' a := let ⟨x, y, z, e⟩ := s; ⟨x, y, z, k _ _ e⟩
theorem Stm.new {H : Hp} {a p : Addr} {o : HO} (s : Stm H a) (n : H p = none) : Stm (L2.upd H p o) a := by
  obtain ⟨x, y, z, e⟩ := s
  exact ⟨x, y, z, by rw [upd_ne (ne_of_none e n)]; exact e⟩
theorem Stm.put {H : Hp} {a p : Addr} {o : HO} (s : Stm H a) (n : p ≠ a) : Stm (L2.upd H p o) a := by
  obtain ⟨x, y, z, e⟩ := s
  exact ⟨x, y, z, by rw [upd_ne n.symm]; exact e⟩
theorem seq_at {K : PySem.W.Frag} {H H' : Hp} {a : Addr} {xs : List V} (h : SqL K H a xs) (k : ∀ o, H a = some o → H' a = some o) : SqL K H' a xs := by
  rcases h with (h | ⟨o, h⟩) | h
  · exact .inl (.inl (k _ h))
  · exact .inl (.inr ⟨o, k _ h⟩)
  · exact .inr h
theorem atI_ok {xs : List V} {i : Int} {n : Nat} {v : V} (e : i = (n : Int)) (h : xs[n]? = some v) : atI xs i = some v := at_of e h
theorem same_new {H H' : Hp} {p : Addr} {o : HO} (k : Same H H') (n : H' p = none) : Same H (L2.upd H' p o) := fun b u h => by
  have := k b u h
  rw [upd_ne (ne_of_none this n)]; exact this
theorem same_put {H H' : Hp} {p : Addr} {o : HO} (k : Same H H') (n : H p = none) : Same H (L2.upd H' p o) := fun b u h => by
  rw [upd_ne (ne_of_none h n)]; exact k b u h
end Lw

namespace Lw
open PySem PySem.Spec PyProof.Rows L2 Txs
open C8 (pe_gc)
/-! ### the draws: slots 0 _law_stream_here, 1 _law_limit, 2 _law_number, 3 _law_rest -/
def spStream (K : PySem.W.Frag) : Sp := fun vs H Q _ => ∃ (a : Addr) (ns : List Int) (i : Nat), vs = [.ref a, .int (i : Int)] ∧ SqL K H a (ns.map V.int) ∧
  ∀ p H', Same H H' → H p = none → Stm H' p → Q (.ref p) H'
def spDraw : Sp := fun vs H Q _ => ∃ (a : Addr) (n : Int), vs = [.ref a, .int n] ∧ Stm H a ∧ 0 < n ∧ n.natAbs < 1073741824 ∧
  ∀ (r : Int) H', 0 ≤ r → r < n → But a H H' → Stm H' a → Q (.int r) H'
section
variable {P : Program} {w : World} {K : PySem.W.Frag} {mg : PySem.Str → Option Value} {base : Heap}
theorem ok_stream (T : Bt mg) {f : Addr} {fd : FuncData} (F : FunD K "_law_stream" "_law_stream" (defArgs s_law_stream) (defBody s_law_stream) (defScope s_law_stream) [] [] f fd) : FnOk P w K mg base CX0 1 f fd ["_law_script", "_law_at"] (spStream K) := by
  refine F.ok sc_law_stream (fun vs H Q E h => ?_) (fun cdv A outer s H vs Q E hr h => ?_)
  · obtain ⟨a, ns, i, rfl, _⟩ := h
    rfl
  · obtain ⟨a, ns, i, rfl, hS, k⟩ := h
    have hu := hu_of hr
    refine ⟨_, PSs.nox (pss_cons (ps_set (i := 2) sc_law_stream.nd rfl (Or.inl rfl) pe_int) (Evl.pss_cut (ps_if (pt_cmpR op_lt (pv 1) (pe_callB call_len_seq (by rfl) T.b_len PySem.boot_len (pa_cons (pv 0) pa_nil)) (nomark _)) (pss_one (ps_set (i := 2) sc_law_stream.nd rfl (Or.inl rfl) (pe_ix ix_list (pv 0) (pv 1) (fun _ _ => rfl)))) pss_nil) (pss_cons (ps_if (pt_cmpR op_ge (pv 2) (pe_op op_pow pe_int pe_int) (nomark _)) (pss_one (ps_ret (pe_lst (pa_cons (pv 2) (pa_cons pe_int (pa_cons (pv 1) pa_nil)))))) pss_nil) (pss_one (ps_ret (pe_lst (pa_cons pe_int (pa_cons pe_int (pa_cons (pe_op op_mod (pe_callTy call_int1 (by rfl) T.b_int (by decide +kernel) (pa_cons (pe_op op_add (pe_op op_mul (pv 2) pe_int) (pe_op op_mul (pv 1) pe_int)) pa_nil)) pe_int) pa_nil))))))))), ?_⟩
    -- the cell's value
    refine ⟨fun σ' H' => H' = H ∧ ∃ c : Int, σ' = [some (.ref a), some (.int (i : Int)), some (.int c)], ?_, ?_⟩
    · refine ⟨_, rfl, _, rfl, _, _, rfl, .inl hS, _, _, rfl, rfl, _, rfl, ite2 (fun lt => ?_) (fun _ => ⟨rfl, 0, rfl⟩)⟩
      have li : i < ns.length := by
        have := of_decide_eq_true lt
        rw [List.length_map] at this
        omega
      exact ⟨_, rfl, _, rfl, a, _, _, .int ns[i], rfl, rfl, hS, atI_ok rfl (by simp [li]), rfl, ns[i], rfl⟩
    · rintro σ' H' ⟨rfl, c, rfl⟩
      refine ⟨_, rfl, _, _, rfl, rfl, ⟨by decide, by decide, by decide⟩, _, _, rfl, rfl, _, rfl, ite2 (fun _ => ?_) (fun _ => ?_)⟩
      · refine ⟨_, rfl, _, rfl, (by show 3 ≤ sizeLine; decide), fun p hp => ?_⟩
        exact k p _ (same_new (Same.refl _) hp) hp ⟨_, _, _, upd_same⟩
      · refine ⟨_, rfl, _, _, rfl, rfl, .inr ⟨by decide, by decide⟩, _, rfl, _, _, rfl, rfl, .inr ⟨by decide, by decide⟩, _, _, rfl, rfl, .inl ⟨_, rfl, _, _, rfl, rfl, (by show (0 : Int) < 2147483647; decide), (by show 3 ≤ sizeLine; decide), fun p hp => ?_⟩⟩
        exact k p _ (same_new (Same.refl _) hp) hp ⟨_, _, _, upd_same⟩
theorem ok_draw (T : Bt mg) {f : Addr} {fd : FuncData} (F : FunD K "_law_draw" "_law_draw" (defArgs s_law_draw) (defBody s_law_draw) (defScope s_law_draw) [] [] f fd) : FnOk P w K mg base CX0 1 f fd ["_law_stream_here", "_law_limit"] spDraw := by
  refine F.ok sc_law_draw (fun vs H Q E h => ?_) (fun cdv A outer s H vs Q E hr h => ?_)
  · obtain ⟨a, n, rfl, _⟩ := h
    rfl
  · obtain ⟨a, n, rfl, ⟨x, y, z, hS⟩, n0, n1, k⟩ := h
    have hu := hu_of hr
    refine ⟨_, PSs.nox (pss_cons (ps_if (pt_cmpR op_gt (pe_ix ix_list (pv 0) pe_int (fun _ _ => rfl)) pe_int (nomark _)) (pss_cons (ps_set (i := 3) sc_law_draw.nd rfl (Or.inl rfl) (pe_ix ix_list (pv 0) pe_int (fun _ _ => rfl))) (pss_cons (ps_asg (pe_op op_fdivN (pv 3) (pv 1)) (pg_sub (pv 0) pe_int set_list)) (pss_one (ps_ret (pe_op op_modN (pe_callTy call_int1 (by rfl) T.b_int (by decide +kernel) (pa_cons (pv 3) pa_nil)) (pv 1)))))) pss_nil) (pss_cons (ps_asg (pe_op op_add (pe_ix ix_list (pv 0) pe_int (fun _ _ => rfl)) pe_int) (pg_sub (pv 0) pe_int set_list)) (pss_cons (ps_set (i := 2) sc_law_draw.nd rfl (Or.inl rfl) (pe_op op_mod (pe_callTy call_int1 (by rfl) T.b_int (by decide +kernel) (pa_cons (pe_op op_add (pe_op op_add (pe_op op_mul (pe_ix ix_list (pv 0) pe_int (fun _ _ => rfl)) pe_int) (pe_op op_mul (pe_ix ix_list (pv 0) pe_int (fun _ _ => rfl)) pe_int)) pe_int) pa_nil)) pe_int)) (pss_cons (ps_set (i := 2) sc_law_draw.nd rfl (Or.inl rfl) (pe_op op_mod (pe_callTy call_int1 (by rfl) T.b_int (by decide +kernel) (pa_cons (pe_op op_mul (pv 2) (pe_op op_add (pe_op op_fdiv (pv 2) pe_int) pe_int)) pa_nil)) pe_int)) (pss_cons (ps_asg (pv 2) (pg_sub (pv 0) pe_int set_list)) (pss_one (ps_ret (pe_op op_modN (pe_callTy call_int1 (by rfl) T.b_int (by decide +kernel) (pa_cons (pe_op op_fdiv (pv 2) pe_int) pa_nil)) (pv 1))))))))), ?_⟩
    refine ⟨_, rfl, a, _, _, .int x, rfl, rfl, SqL.of hS, rfl, _, _, rfl, rfl, _, rfl, ite2 (fun _ => ?_) (fun _ => ?_)⟩
    · refine ⟨_, rfl, a, _, _, .int x, rfl, rfl, SqL.of hS, rfl, ?_⟩
      refine ⟨_, rfl, _, rfl, _, _, rfl, rfl, ⟨by omega, n1⟩, _, rfl, a, _, _, 0, rfl, rfl, hS, rfl, ?_⟩
      refine ⟨_, rfl, .inl ⟨_, rfl, _, rfl, _, _, rfl, rfl, by omega, ?_⟩⟩
      exact k _ _ (Int.fmod_nonneg_of_pos _ n0) (Int.fmod_lt_of_pos _ n0) But.upd ⟨_, _, _, upd_same⟩
    · refine ⟨_, rfl, a, _, _, .int y, rfl, rfl, SqL.of hS, rfl, _, _, rfl, rfl, _, rfl, a, _, _, 1, rfl, rfl, hS, rfl, ?_⟩
      -- two numbers, one from the other
      refine ⟨_, rfl, a, _, _, .int z, rfl, rfl, SqL.of upd_same, rfl, _, _, rfl, rfl, .inr ⟨by decide, by decide⟩, _, rfl, a, _, _, .int (y + 1), rfl, rfl, SqL.of upd_same, rfl, _, _, rfl, rfl, .inr ⟨by decide, by decide⟩, _, _, rfl, rfl, _, _, rfl, rfl,
        .inl ⟨_, rfl, _, _, rfl, rfl, (by show (0 : Int) < 2147483647; decide), ?_⟩⟩
      have p0 : 0 ≤ (z * 48271 + (y + 1) * 40692 + 30103) % 2147483647 := Int.emod_nonneg _ (by decide)
      have p1 : (z * 48271 + (y + 1) * 40692 + 30103) % 2147483647 < 2147483647 := Int.emod_lt_of_pos _ (by decide)
      generalize (z * 48271 + (y + 1) * 40692 + 30103) % 2147483647 = m at p0 p1 ⊢
      refine ⟨_, rfl, _, rfl, _, _, rfl, rfl, ⟨by decide, by decide⟩, _, _, rfl, rfl, _, _, rfl, rfl, .inl ⟨by omega, by omega⟩, .inl ⟨_, rfl, _, _, rfl, rfl, (by show (0 : Int) < 2147483629; decide), ?_⟩⟩
      generalize (m * (m / 1009 + 69621)) % 2147483629 = v
      refine ⟨_, rfl, _, rfl, a, _, _, 2, rfl, rfl, upd_same, rfl, ?_⟩
      refine ⟨_, rfl, _, _, rfl, rfl, ⟨by decide, by decide⟩, .inl ⟨_, rfl, _, rfl, _, _, rfl, rfl, by omega, ?_⟩⟩
      exact k _ _ (Int.fmod_nonneg_of_pos _ n0) (Int.fmod_lt_of_pos _ n0) (But.trans But.upd But.upd) ⟨_, _, _, upd_same⟩
theorem cl_stream (T : Bt mg) (a : At K mg "_law_stream" s_law_stream) : Cl P w K mg base 1 "_law_stream" (spStream K) [] := a.cal (ps := ["_law_script", "_law_at"]) (fun _ _ F => ok_stream T F) (fun _ _ _ _ _ _ us hl => match us, hl with | [_, _], _ => rfl)
theorem cl_draw (T : Bt mg) (a : At K mg "_law_draw" s_law_draw) : Cl P w K mg base 1 "_law_draw" spDraw [] := a.cal (ps := ["_law_stream_here", "_law_limit"]) (fun _ _ F => ok_draw T F) (fun _ _ _ _ _ _ us hl => match us, hl with | [_, _], _ => rfl)
end
end Lw

namespace Lw
open PySem PySem.Spec PyProof.Rows L2 Txs
open C8 (pe_gc)
/-! ### names: slots 0 _law_stream_here, 1 _law_count, 2 _law_names_here, 3 _law_k, 4 _law_name, 5 _law_turn -/
def Nm (x : PySem.Str) : Prop := 0 < x.length ∧ x.length ≤ 12 ∧ ∀ c ∈ x.cps.toList, 97 ≤ c ∧ c ≤ 122
def abc : PySem.Str := "abcdefghijklmnopqrstuvwxyz"
theorem abc_at {i : Nat} (h : i < 26) : abc.cps.toList[i]? = some (97 + i) := by
  have e : abc.cps.toList = (List.range 26).map (97 + ·) := by decide +kernel
  rw [e, List.getElem?_map, List.getElem?_range h]
  rfl
def abl : PySem.Str := "abcdefghijkl"
theorem abl_at {i : Nat} (h : i < 12) : abl.cps.toList[i]? = some (97 + i) := by
  have e : abl.cps.toList = (List.range 12).map (97 + ·) := by decide +kernel
  rw [e, List.getElem?_map, List.getElem?_range h]
  rfl
theorem str_len_app (x y : PySem.Str) : (x ++ y).length = x.length + y.length := by
  show (x.cps ++ y.cps).size = x.cps.size + y.cps.size
  simp
theorem str_list_app (x y : PySem.Str) : (x ++ y).cps.toList = x.cps.toList ++ y.cps.toList := by
  show (x.cps ++ y.cps).toList = _
  simp
theorem nm_grow {x : PySem.Str} {c : Nat} {n : Nat} (h : x.length = n ∧ ∀ c ∈ x.cps.toList, 97 ≤ c ∧ c ≤ 122) (hc : 97 ≤ c ∧ c ≤ 122) : (x ++ (⟨#[c]⟩ : PySem.Str)).length = n + 1 ∧ ∀ d ∈ (x ++ (⟨#[c]⟩ : PySem.Str)).cps.toList, 97 ≤ d ∧ d ≤ 122 := by
  refine ⟨by rw [str_len_app, h.1]; rfl, fun d hd => ?_⟩
  rw [str_list_app] at hd
  rcases List.mem_append.mp hd with q | q
  · exact h.2 d q
  · have e : d = c := by simpa using q
    rw [e]; exact hc
def spNames : Sp := fun vs H Q _ => ∃ (a : Addr) (n : Nat), vs = [.ref a, .int (n : Int)] ∧ Stm H a ∧ n ≤ 12 ∧
  ∀ p (ws : List PySem.Str) H', H p = none → But a H H' → Stm H' a → H' p = some (.lst (ws.map V.str)) → ws.length = n → (∀ w ∈ ws, Nm w) → Q (.ref p) H'
theorem all_flat_strs (ws : List PySem.Str) : (ws.map V.str).all flatV = true := by
  rw [List.all_map, List.all_eq_true]
  intro _ _
  rfl
section
variable {P : Program} {w : World} {K : PySem.W.Frag} {mg : PySem.Str → Option Value} {base : Heap}
theorem ok_names (T : Bt mg) (c_law_draw : Cl P w K mg base 1 "_law_draw" spDraw []) {f : Addr} {fd : FuncData} (F : FunD K "_law_names" "_law_names" (defArgs s_law_names) (defBody s_law_names) (defScope s_law_names) [] [] f fd) : FnOk P w K mg base CX0 2 f fd ["_law_stream_here", "_law_count"] spNames := by
  refine F.ok sc_law_names (fun vs H Q E h => ?_) (fun cdv A outer s H vs Q E hr h => ?_)
  · obtain ⟨a, n, rfl, _⟩ := h
    rfl
  · obtain ⟨a, n, rfl, hS, n12, k⟩ := h
    have hu := hu_of hr
    refine ⟨_, PSs.nox (pss_cons (ps_set (i := 2) sc_law_names.nd rfl (Or.inl rfl) (pe_lst pa_nil)) (pss_cons (ps_for PassesOwn.never rfl (pi_range1 rfl T.b_range (pa_cons (pv 1) pa_nil)) (pg_name (i := 3) sc_law_names.nd rfl (Or.inl rfl)) (pss_cons (ps_set (i := 4) sc_law_names.nd rfl (Or.inl rfl) pe_str) (pss_cons (ps_for PassesOwn.never rfl (pi_range1 rfl T.b_range (pa_cons (pe_op op_add pe_int (pe_cl c_law_draw hr (by decide) rfl (pa_cons (pv 0) (pa_cons pe_int pa_nil)))) pa_nil)) (pg_name (i := 5) sc_law_names.nd rfl (Or.inl rfl)) (pss_one (ps_set (i := 4) sc_law_names.nd rfl (Or.inl rfl) (pe_op op_add_str (pv 4) (pe_ix ix_str pe_str (pe_cl c_law_draw hr (by decide) rfl (pa_cons (pv 0) (pa_cons pe_int pa_nil))) (fun _ _ => rfl)))))) (Evl.pss_cut (ps_if (pt_cmpR op_in_seq (pv 4) (pv 2) (by rfl)) (pss_one (ps_set (i := 4) sc_law_names.nd rfl (Or.inl rfl) (pe_op op_add_str pe_str (pe_ix ix_str pe_str (pv 3) (fun _ _ => rfl))))) pss_nil) (pss_one (ps_expr (pe_bm PySem.F.plainAttrs_list PySem.F.slot_list_append PySem.F.type_list_append mt_append (pv 2) (pa_cons (pv 4) pa_nil)))))))) (pss_one (ps_ret (pv 2))))), ?_⟩
    refine ⟨Nat.zero_le _, fun p hp => ?_⟩
    have npa : a ≠ p := by
      obtain ⟨x, y, z, e⟩ := hS
      exact ne_of_none e hp
    refine ⟨_, rfl, (n : Int), rfl, by omega, by omega, for_range (n := n) (fun i σ H' => ∃ (ws : List PySem.Str) (v1 v2 v3 : Option V), σ = [some (.ref a), some (.int (n : Int)), some (.ref p), v1, v2, v3] ∧ But a H H' ∧ Stm H' a ∧ H' p = some (.lst (ws.map V.str)) ∧ ws.length = i ∧ ∀ w ∈ ws, Nm w) ?_ ?_ ?_⟩
    · exact ⟨[], _, _, _, rfl, But.of (same_new (Same.refl H) hp), hS.new hp, upd_same, rfl, fun _ q => nomatch q⟩
    · rintro i σ H1 hi ⟨ws, v1, v2, v3, rfl, b1, s1, l1, len1, all1⟩
      -- the letters
      refine ⟨_, rfl, a, 3, rfl, s1, by decide, by decide, fun r H2 r0 r3 b2 s2 => ⟨_, _, rfl, rfl, _, rfl, by omega, by omega, ?_⟩⟩
      have l2 : H2 p = some (.lst (ws.map V.str)) := b2 _ _ l1 npa.symm
      refine for_range (n := (1 + r).toNat) (fun j σ H' => ∃ (x : PySem.Str) (v3 : Option V), σ = [some (.ref a), some (.int (n : Int)), some (.ref p), some (.int (0 + (i : Int))), some (.str x), v3] ∧ But a H H' ∧ Stm H' a ∧ H' p = some (.lst (ws.map V.str)) ∧ x.length = j ∧ ∀ c ∈ x.cps.toList, 97 ≤ c ∧ c ≤ 122) ?_ ?_ ?_
      · exact ⟨_, _, rfl, b1.trans b2, s2, l2, rfl, fun c q => nomatch q⟩
      · rintro j σ H3 hj ⟨x, v3, rfl, b3, s3, l3, xl, xa⟩
        refine ⟨_, rfl, _, rfl, a, 26, rfl, s3, by decide, by decide, fun q H4 q0 q26 b4 s4 => ?_⟩
        obtain ⟨m, rfl⟩ : ∃ m : Nat, q = (m : Int) := ⟨q.toNat, by omega⟩
        refine ⟨abc, _, 97 + m, rfl, rfl, by decide, atI_nat (abc_at (by omega)), _, _, rfl, rfl, ?_, ?_⟩
        · rw [xl]
          exact Nat.le_trans (by show j + 1 ≤ 100; omega) (by decide)
        · obtain ⟨g1, g2⟩ := nm_grow (c := 97 + m) ⟨xl, xa⟩ (by omega)
          exact ⟨_, _, rfl, b3.trans b4, s4, b4 _ _ l3 npa.symm, g1, g2⟩
      · rintro σ H3 ⟨x, v3, rfl, b3, s3, l3, xl, xa⟩
        have nx : Nm x := ⟨by omega, by omega, xa⟩
        refine ⟨fun σ' H' => ∃ (x : PySem.Str), σ' = [some (.ref a), some (.int (n : Int)), some (.ref p), some (.int (0 + (i : Int))), some (.str x), v3] ∧ H' = H3 ∧ Nm x, ?_, ?_⟩
        · refine ⟨_, rfl, _, rfl, p, _, rfl, .inl (SqL.of l3), rfl, all_flat_strs ws, _, rfl, ?_⟩
          refine ite2 (fun _ => ?_) (fun _ => ⟨x, rfl, rfl, nx⟩)
          refine ⟨_, rfl, abl, _, 97 + i, rfl, rfl, by decide, ?_, _, _, rfl, rfl, ?_, _, rfl, rfl, ?_⟩
          · rw [Int.zero_add]; exact atI_nat (abl_at (by omega))
          · show ("name" : PySem.Str).length + 1 ≤ sizeLine
            decide +kernel
          · have h4 : ("name" : PySem.Str).length = 4 ∧ ∀ c ∈ ("name" : PySem.Str).cps.toList, 97 ≤ c ∧ c ≤ 122 := by decide +kernel
            obtain ⟨g1, g2⟩ := nm_grow (c := 97 + i) h4 (by omega)
            exact ⟨by omega, by omega, g2⟩
        · rintro σ' H' ⟨y, rfl, rfl, ny⟩
          refine ⟨_, rfl, .inl ⟨rfl, _, SqL.of l3⟩, _, rfl, p, _, _, rfl, rfl, l3, ?_, ?_⟩
          · rw [List.length_map, len1]
            exact small1000 (by omega)
          · refine ⟨ws ++ [y], _, _, _, rfl, b3.put hp, s3.put npa.symm, ?_, ?_, ?_⟩
            · rw [List.map_append]; exact upd_same
            · rw [List.length_append, len1]; rfl
            · intro x hx
              rcases List.mem_append.mp hx with q | q
              · exact all1 x q
              · rw [List.mem_singleton.mp q]; exact ny
    · rintro σ H1 ⟨ws, v1, v2, v3, rfl, b1, s1, l1, len1, all1⟩
      exact ⟨_, rfl, k p ws H1 hp b1 s1 l1 len1 all1⟩
theorem cl_names (T : Bt mg) (c_law_draw : Cl P w K mg base 1 "_law_draw" spDraw []) (a : At K mg "_law_names" s_law_names) : Cl P w K mg base 2 "_law_names" spNames [] := a.cal (ps := ["_law_stream_here", "_law_count"]) (fun _ _ F => ok_names T c_law_draw F) (fun _ _ _ _ _ _ us hl => match us, hl with | [_, _], _ => rfl)
end
end Lw

namespace Lw
open PySem PySem.Spec PyProof.Rows L2 Txs
open C8 (pe_gc)
/-! ### kinds of values -/
def nmB (x : PySem.Str) : Bool := decide (1 ≤ (x.length : Int)) && decide ((x.length : Int) ≤ 12) && x.cps.toList.all fun c => decide (c ∈ abc.cps.toList)
theorem abc_mem (c : Nat) : c ∈ abc.cps.toList ↔ 97 ≤ c ∧ c ≤ 122 := by
  have e : abc.cps.toList = (List.range 26).map (97 + ·) := by decide +kernel
  rw [e, List.mem_map]
  constructor
  · rintro ⟨i, hi, rfl⟩
    have := List.mem_range.mp hi
    omega
  · intro h
    exact ⟨c - 97, List.mem_range.mpr (by omega), by omega⟩
theorem nmB_iff {x : PySem.Str} : nmB x = true ↔ Nm x := by
  unfold nmB Nm
  rw [Bool.and_eq_true, Bool.and_eq_true, decide_eq_true_eq, decide_eq_true_eq, List.all_eq_true]
  constructor
  · rintro ⟨⟨a, b⟩, c⟩
    exact ⟨by omega, by omega, fun d hd => (abc_mem d).1 (of_decide_eq_true (c d hd))⟩
  · rintro ⟨a, b, c⟩
    exact ⟨⟨by omega, by omega⟩, fun d hd => decide_eq_true ((abc_mem d).2 (c d hd))⟩
/-- the built-in kind n of a value -/
abbrev Kd (K : PySem.W.Frag) (H : Hp) (x : V) (t : Value) : Prop := TyX K H x t
def spIsInt (K : PySem.W.Frag) : Sp := fun vs H Q _ => ∃ x t b1 b2, vs = [x] ∧ TyX K H x t ∧ PySem.W.kitOne K t (.type "int") = some b1 ∧ (b1 = true → PySem.W.kitOne K t (.type "bool") = some b2) ∧ Q (.bl (b1 && !b2)) H
theorem isInt_int {K : PySem.W.Frag} {H : Hp} {i : Int} {Q : VK} {E : XK} (q : Q (.bl true) H) : spIsInt K [.int i] H Q E :=
  ⟨_, _, true, false, rfl, .base (.int i), kit_ty (by decide +kernel), fun _ => kit_ty (by decide +kernel), q⟩
def spIsName (K : PySem.W.Frag) : Sp := fun vs H Q _ => (∃ z, vs = [.str z] ∧ z.length ≤ sizeLine ∧ Q (.bl (nmB z)) H) ∨ ∃ x t, vs = [x] ∧ TyX K H x t ∧ PySem.W.kitOne K t (.type "str") = some false ∧ Q (.bl false) H
def stB (i : Int) : Bool := decide (0 ≤ i) && decide (i ≤ 99)
def spIsState (K : PySem.W.Frag) : Sp := fun vs H Q _ => (∃ i, vs = [.int i] ∧ Q (.bl (stB i)) H) ∨
  ∃ x t b1 b2, vs = [x] ∧ TyX K H x t ∧ PySem.W.kitOne K t (.type "int") = some b1 ∧ (b1 = true → PySem.W.kitOne K t (.type "bool") = some b2) ∧ (b1 && !b2) = false ∧ Q (.bl false) H
def spIsRow (K : PySem.W.Frag) : Sp := fun vs H Q _ => ∃ x t b, vs = [x] ∧ TyX K H x t ∧ PySem.W.kitAny K t [.type "list", .type "tuple"] = some b ∧ ∀ H', Same H H' → Q (.bl b) H'
theorem tyof_keep {K : PySem.W.Frag} {H H' : Hp} {x : V} {t : Value} (h : TyOf K H x t) (k : Same H H') : TyOf K H' x t := by
  cases h with
  | non => exact .non
  | bl b => exact .bl b
  | int i => exact .int i
  | str z => exact .str z
  | flt z => exact .flt z
  | lst e => exact .lst (k _ _ e)
  | frz e => exact .frz (k _ _ e)
  | tup e => exact .tup (k _ _ e)
  | dK e => exact .dK (k _ _ e)
  | dT e => exact .dT (k _ _ e)
  | ins e c1 c2 c3 c4 c5 => exact .ins (k _ _ e) c1 c2 c3 c4 c5
theorem tyx_keep {K : PySem.W.Frag} {H H' : Hp} {x : V} {t : Value} (h : TyX K H x t) (k : Same H H') : TyX K H' x t := by
  cases h with
  | base b => exact .base (tyof_keep b k)
  | byt b => exact .byt b
  | set e => exact .set (k _ _ e)
  | kList e c => exact .kList e c
  | kTuple e c => exact .kTuple e c
  | kDict e c => exact .kDict e c
  | fTuple e => exact .fTuple (k _ _ e)
  | fDict e => exact .fDict (k _ _ e)
section
variable {P : Program} {w : World} {K : PySem.W.Frag} {mg : PySem.Str → Option Value} {base : Heap}
theorem ok_is_name (T : Bt mg) {f : Addr} {fd : FuncData} (F : FunD K "is_name" "is_name" (defArgs s_is_name) (defBody s_is_name) (defScope s_is_name) [] [] f fd) : FnOk P w K mg base CX0 1 f fd ["thing"] (spIsName K) := by
  refine F.ok sc_is_name (fun vs H Q E h => ?_) (fun cdv A outer s H vs Q E hr h => ?_)
  · rcases h with ⟨z, rfl, _⟩ | ⟨x, t, rfl, _⟩ <;> rfl
  · refine ⟨_, PSs.nox (pss_cons (ps_if (PW.pt (pw_or (pt_not (pt_val (pe_callB call_isi (by rfl) T.b_isinstance (by decide +kernel) (pa_cons (pv 0) (pa_cons (pe_bltn (v := .ty "str") (by rfl) T.b_str (by decide +kernel) rfl) pa_nil))))) (pw_or1 (pt_not (pt_chain op_le op_le pe_int (pe_callB call_len_str (by rfl) T.b_len PySem.boot_len (pa_cons (pv 0) pa_nil)) (pe_gc rfl T.c_LONGEST_NAME)))))) (pss_one (ps_ret pe_bl)) pss_nil) (pss_cons (ps_for PassesOwn.never rfl (pi_str (pv 0)) (pg_name (i := 1) sc_is_name.nd rfl (Or.inl rfl)) (pss_one (ps_if (pt_cmpR op_notIn_sign (pv 1) (pe_gc rfl T.c_LETTERS) (by rfl)) (pss_one (ps_ret pe_bl)) pss_nil))) (pss_one (ps_ret pe_bl)))), ?_⟩
    rcases h with ⟨z, rfl, lz, q⟩ | ⟨x, t, rfl, ty, e1, q⟩
    · refine ⟨_, rfl, _, _, _, _, true, rfl, .ty _, .base (.str z), kit_ty (by decide +kernel), true, rfl, iteF ?_⟩
      refine ⟨_, rfl, z, rfl, lz, _, _, rfl, rfl, _, rfl, ?_⟩
      unfold nmB at q
      by_cases h1 : 1 ≤ (z.length : Int)
      · rw [decide_eq_true h1] at q ⊢
        refine iteT ⟨_, _, rfl, rfl, _, rfl, ?_⟩
        by_cases h2 : (z.length : Int) ≤ 12
        · rw [decide_eq_true h2] at q ⊢
          refine iteF ?_
          refine ⟨_, rfl, z, rfl, for_strN (x := z) (fun i σ H' => H' = H ∧ (∃ v, σ = [some (.str z), v]) ∧ ∀ c ∈ z.cps.toList.take i, c ∈ abc.cps.toList) ?_ ?_ ?_⟩
          · exact ⟨rfl, ⟨_, rfl⟩, fun c hc => nomatch hc⟩
          · rintro i c σ H1 hc ⟨rfl, ⟨v, rfl⟩, all⟩
            refine ⟨_, rfl, c, abc, rfl, rfl, _, rfl, ?_⟩
            by_cases m : c ∈ abc.cps.toList
            · rw [decide_eq_true m]
              refine iteF ⟨rfl, ⟨_, rfl⟩, fun d hd => ?_⟩
              rw [List.take_add_one, hc] at hd
              rcases List.mem_append.mp hd with q | q
              · exact all d q
              · rw [List.mem_singleton.mp q]; exact m
            · rw [decide_eq_false m]
              refine iteT ?_
              have : (z.cps.toList.all fun c => decide (c ∈ abc.cps.toList)) = false := by
                cases e : (z.cps.toList.all fun c => decide (c ∈ abc.cps.toList)) with
                | false => rfl
                | true => exact absurd (of_decide_eq_true (List.all_eq_true.mp e c (List.mem_of_getElem? hc))) m
              rw [this] at q
              exact q
          · rintro σ H1 ⟨rfl, ⟨v, rfl⟩, all⟩
            rw [List.take_of_length_le (by simp)] at all
            have : (z.cps.toList.all fun c => decide (c ∈ abc.cps.toList)) = true := List.all_eq_true.mpr fun c hc => decide_eq_true (all c hc)
            rw [this] at q
            exact q
        · rw [decide_eq_false h2] at q ⊢
          exact iteT q
      · rw [decide_eq_false h1] at q ⊢
        exact iteF ⟨_, rfl, iteT q⟩
    · exact ⟨_, rfl, _, _, _, _, false, rfl, .ty _, ty, e1, false, rfl, iteT q⟩
theorem cl_is_name (T : Bt mg) (a : At K mg "is_name" s_is_name) : Cl P w K mg base 1 "is_name" (spIsName K) [] := a.cal (ps := ["thing"]) (fun _ _ F => ok_is_name T F) (fun _ _ _ _ _ _ us hl => match us, hl with | [_], _ => rfl)
theorem ok_is_row (T : Bt mg) {f : Addr} {fd : FuncData} (F : FunD K "is_row" "is_row" (defArgs s_is_row) (defBody s_is_row) (defScope s_is_row) [] [] f fd) : FnOk P w K mg base CX0 1 f fd ["thing"] (spIsRow K) := by
  refine F.ok sc_is_row (fun vs H Q E h => ?_) (fun cdv A outer s H vs Q E hr h => ?_)
  · obtain ⟨x, t, b, rfl, _⟩ := h
    rfl
  · obtain ⟨x, t, b, rfl, ty, e1, q⟩ := h
    refine ⟨_, PSs.nox (pss_one (ps_ret (pe_callB call_isiT (by rfl) T.b_isinstance (by decide +kernel) (pa_cons (pv 0) (pa_cons (pe_tup (pa_cons (pe_bltn (v := .ty "list") (by rfl) T.b_list (by decide +kernel) rfl) (pa_cons (pe_bltn (v := .ty "tuple") (by rfl) T.b_tuple (by decide +kernel) rfl) pa_nil))) pa_nil))))), ?_⟩
    refine ⟨_, rfl, (by show 2 ≤ sizeLine; decide), fun p hp => ?_⟩
    have ty' : TyX K (L2.upd H p (.tup [.ty "list", .ty "tuple"])) x t := tyx_keep ty (same_new (Same.refl _) hp)
    exact ⟨x, p, _, t, _, b, rfl, upd_same, .cons (.ty _) (.cons (.ty _) .nil), ty', e1, q _ (same_new (Same.refl _) hp)⟩
theorem cl_is_row (T : Bt mg) (a : At K mg "is_row" s_is_row) : Cl P w K mg base 1 "is_row" (spIsRow K) [] := a.cal (ps := ["thing"]) (fun _ _ F => ok_is_row T F) (fun _ _ _ _ _ _ us hl => match us, hl with | [_], _ => rfl)
end
end Lw

namespace Lw
open PySem PySem.Spec PyProof.Rows L2 Txs
open C8 (pe_gc)
/-! ### rows; small things that all parts need -/
/-- a list or a tuple, as isinstance finds it too -/
structure RowAt (K : PySem.W.Frag) (H : Hp) (a : Addr) (xs : List V) : Prop where
  sq : Sq K H a xs
  ty : ∃ t, TyX K H (.ref a) t ∧ PySem.W.kitAny K t [.type "list", .type "tuple"] = some true
theorem kit_list {K : PySem.W.Frag} : PySem.W.kitAny K (.type "list") [.type "list", .type "tuple"] = some true :=
  kitAny_cons (b := true) (kit_ty (by decide +kernel)) (fun q => nomatch q) fun _ => rfl
theorem kit_tuple {K : PySem.W.Frag} : PySem.W.kitAny K (.type "tuple") [.type "list", .type "tuple"] = some true :=
  kitAny_cons (b := false) (kit_ty (by decide +kernel)) (fun _ => kitAny_cons (b := true) (kit_ty (by decide +kernel)) (fun q => nomatch q) fun _ => rfl) fun q => nomatch q
theorem RowAt.lst {K : PySem.W.Frag} {H : Hp} {a : Addr} {xs : List V} (h : H a = some (.lst xs)) : RowAt K H a xs := ⟨.inl (SqL.of h), _, .base (.lst h), kit_list⟩
theorem RowAt.tup {K : PySem.W.Frag} {H : Hp} {a : Addr} {xs : List V} (h : H a = some (.tup xs)) : RowAt K H a xs := ⟨.inr (SqT.of h), _, .base (.tup h), kit_tuple⟩
theorem RowAt.same {K : PySem.W.Frag} {H H' : Hp} {a : Addr} {xs : List V} (h : RowAt K H a xs) (k : Same H H') : RowAt K H' a xs :=
  ⟨h.sq.same k, let ⟨t, y, e⟩ := h.ty; ⟨t, tyx_keep y k, e⟩⟩
theorem nm_len {x : PySem.Str} (h : Nm x) : x.length ≤ sizeLine := Nat.le_trans h.2.1 (by decide)
theorem putF_len (f : PySem.Str) (v : V) : ∀ fs : List (PySem.Str × V), (putF f v fs).length ≤ fs.length + 1
  | [] => Nat.le_refl _
  | q :: fs => by
    unfold putF
    split
    · simp
    · have := putF_len f v fs
      simp only [List.length_cons]
      omega
theorem sq_but {K : PySem.W.Frag} {H H' : Hp} {a p C dx : Addr} {fs : List (PySem.Str × V)} {xs : List V} (h : Sq K H a xs) (k : But p H H') (hp : H p = some (.ins C dx fs)) : Sq K H' a xs := by
  rcases h with ((h | ⟨o, h⟩) | h) | ((h | ⟨o, h⟩) | h)
  · exact .inl (.inl (.inl (k _ _ h (ne_of h hp fun z => nomatch z))))
  · exact .inl (.inl (.inr ⟨o, k _ _ h (ne_of h hp fun z => nomatch z)⟩))
  · exact .inl (.inr h)
  · exact .inr (.inl (.inl (k _ _ h (ne_of h hp fun z => nomatch z))))
  · exact .inr (.inl (.inr ⟨o, k _ _ h (ne_of h hp fun z => nomatch z)⟩))
  · exact .inr (.inr h)
theorem take_at {α : Type} {l : List α} {i : Nat} {x : α} (h : l[i]? = some x) : l.take (i + 1) = l.take i ++ [x] := by rw [List.take_add_one, h]; rfl
theorem not_before {α : Type} {l : List α} {i : Nat} {x : α} (nd : l.Nodup) (h : l[i]? = some x) : x ∉ l.take i := fun m => by
  obtain ⟨j, hj⟩ := List.mem_iff_getElem?.mp m
  rw [List.getElem?_take] at hj
  split at hj
  · have := nd_ix nd hj h
    omega
  · cases hj
theorem nodup_le {α : Type} [DecidableEq α] : ∀ {l m : List α}, l.Nodup → (∀ x ∈ l, x ∈ m) → l.length ≤ m.length
  | [], m, _, _ => Nat.zero_le _
  | a :: l, m, nd, h => by
    obtain ⟨n1, n2⟩ := List.nodup_cons.mp nd
    have am := h a List.mem_cons_self
    have ih := nodup_le (l := l) (m := m.erase a) n2 fun x hx => (List.mem_erase_of_ne fun e => n1 (by rw [← e]; exact hx)).mpr (h x (List.mem_cons_of_mem _ hx))
    have := List.length_erase_of_mem am
    have pos := List.length_pos_of_mem am
    simp only [List.length_cons]
    omega
end Lw

namespace Lw
open PySem PySem.Spec PyProof.Rows L2 Txs
open C8 (pe_gc)
/-! ### the law's own questions -/
theorem dp_ints {K : PySem.W.Frag} {H : Hp} : ∀ ns : List Int, DpAll K H (ns.map V.int) (ns.map PyData.int)
  | [] => .nil
  | n :: ns => .cons (.int n) (dp_ints ns)
theorem dp_strs {K : PySem.W.Frag} {H : Hp} : ∀ ws : List PySem.Str, DpAll K H (ws.map V.str) (ws.map PyData.str)
  | [] => .nil
  | w :: ws => .cons (.str w) (dp_strs ws)
theorem ints_lay : ∀ ns : List Int, PyData.canLayAll0 (ns.map PyData.int) = true
  | [] => by simp [PyData.canLayAll0]
  | n :: ns => by simp [PyData.canLayAll0, PyData.canLay0, ints_lay ns]
theorem ints_depth : ∀ ns : List Int, PyData.depthAll (ns.map PyData.int) ≤ 1
  | [] => by simp [PyData.depthAll]
  | n :: ns => by
    have := ints_depth ns
    simp only [List.map_cons, PyData.depthAll, PyData.depth]
    omega
theorem strs_lay : ∀ {ws : List PySem.Str}, (∀ w ∈ ws, PyData.strOk w = true) → PyData.canLayAll0 (ws.map PyData.str) = true
  | [], _ => by simp [PyData.canLayAll0]
  | w :: ws, h => by simp [PyData.canLayAll0, PyData.canLay0, h w List.mem_cons_self, strs_lay fun u hu => h u (List.mem_cons_of_mem _ hu)]
theorem strs_depth : ∀ ws : List PySem.Str, PyData.depthAll (ws.map PyData.str) ≤ 1
  | [] => by simp [PyData.depthAll]
  | w :: ws => by
    have := strs_depth ws
    simp only [List.map_cons, PyData.depthAll, PyData.depth]
    omega
theorem lst_shaped {ds : List PyData} (h : PyData.canLayAll0 ds = true) (k : PyData.depthAll ds ≤ 1) : SeqAt.shaped (.list ds) = true := by
  have h2 : PyData.depth (.list ds) ≤ 64 := by simp only [PyData.depth]; omega
  show ((PyData.list ds).canLay0 && decide ((PyData.list ds).depth ≤ 64)) = true
  rw [decide_eq_true h2, Bool.and_true]
  simp only [PyData.canLay0]
  exact h
theorem ints_shaped (ns : List Int) : SeqAt.shaped (.list (ns.map PyData.int)) = true := lst_shaped (ints_lay ns) (ints_depth ns)
theorem strs_shaped {ws : List PySem.Str} (h : ∀ w ∈ ws, PyData.strOk w = true) : SeqAt.shaped (.list (ws.map PyData.str)) = true := lst_shaped (strs_lay h) (strs_depth ws)
theorem eqv_same {d : PyData} (h : SeqAt.shaped d = true) : PyData.eqv d d = true := SeqAt.eqv_refl d (Bool.and_eq_true_iff.mp h).1
theorem bools_all (n : Nat) : (List.replicate n true).all id = true := by
  rw [List.all_eq_true]
  intro b hb
  rw [(List.mem_replicate.mp hb).2]
  rfl
end Lw

namespace Lw
open PySem PySem.Spec PyProof.Rows L2 Txs
open C8 (pe_gc)
/-! ### == by a class's own -/
/-- a class, read by its name -/
theorem pe_gref {X : Cx} {x : PySem.Str} {a : Addr} {pos : Pos} (hg : Gl X x) (hm : X.mg x = some (.ref a)) (hd : (x == ("__debug__" : PySem.Str)) = false := by decide) : PE X (.Name x pos) (tC (.ref a)) := pe_glob hg hm rfl hd
structure Oq (P : Program) (w : World) (K : PySem.W.Frag) (mg : PySem.Str → Option Value) (base : Heap) (k : Nat) (C : Addr) (sp : Sp) : Prop where
  ex : ∃ f fd ps, FnOk P w K mg base CX0 k f fd ps sp ∧ Binds K fd ps [] ∧ Cmps.Own K C f
section
variable {X : Cx} {k j : Nat} {C : Addr} {sp : Sp}
theorem op_oq (o : Oq X.prog X.w X.K X.mg X.base k C sp) (hr : Room j X.A) (hk : k ≤ j) : OpR X (compareOp .Eq) (Cmps.rEqI X.K C sp false) :=
  let ⟨_, _, _, F, b, O⟩ := o.ex
  Cmps.op_eqI F b O (hr.mono hk)
theorem op_on (o : Oq X.prog X.w X.K X.mg X.base k C sp) (hr : Room j X.A) (hk : k + 1 ≤ j) : OpR X (compareOp .NotEq) (Cmps.rEqI X.K C sp true) :=
  let ⟨_, _, _, F, b, O⟩ := o.ex
  Cmps.op_neI F b O (hr.mono hk)
end
section
variable {X : Cx} {k k2 j : Nat} {C C2 : Addr} {sp sp2 : Sp} {x : PySem.Str} {dvs : List V} {p pos : Pos}
/-- x == y, y an instance of C, x a built-in value or an instance of C2 -/
theorem op_l (o : Oq X.prog X.w X.K X.mg X.base k C sp) (o2 : Oq X.prog X.w X.K X.mg X.base k2 C2 sp2) (hr : Room j X.A) (hk : k ≤ j) (hk2 : k2 ≤ j) : OpR X (compareOp .Eq) (fun x y H Q => Cmps.rEqL X.K C sp x y H Q ∨ Cmps.rEqI X.K C2 sp2 false x y H Q) :=
  let ⟨_, _, _, F, b, O⟩ := o.ex
  Cmps.OpR.or (Cmps.op_eqL F b O (hr.mono hk)) (op_oq o2 hr hk2)
theorem pe_mr0 (c : Mr X.prog X.w X.K X.mg X.base k x C sp dvs) (hr : Room j X.A) (hk : k + 1 ≤ j) (hg : Gl X x) (h1 : (x == ("__debug__" : PySem.Str)) = false := by decide) : PE X (.Call (.Name x p) [] [] pos) (tMake C sp dvs E0 tNil) :=
  let ⟨_, _, _, _, M, F, hm, b, d⟩ := c.ex
  pe_make0 M F (hr.mono hk) hg hm b d pass0 h1
end
def kinds7 : List String := ["NoneType", "bool", "int", "str", "list", "tuple", "dict"]
/-- a class, as comparisons ask of it -/
def biB (K : PySem.W.Frag) (C : Addr) : Bool := (kinds7.all fun T => PySem.W.notFirst K C (.type T) && (decide (PySem.W.kitOne K (.type T) (.ref C) = some false) && decide (PySem.W.subIn K (.ref C) (.type T) = some false))) &&
  (He.eqO (PySem.W.findIn K (.ref C) "__class__") (some (some (.builtin "object.__class__"))) && (He.eqO (PySem.W.specialIn K (.builtin "object.__class__") "__get__") (some (some (.builtin "getset_descriptor.__get__"))) &&
  (decide (PySem.W.takesIn K (.builtin "object.__class__") = some true) && decide (PySem.W.mroIn K C (.type "object") = some true))))
structure Bi (K : PySem.W.Frag) (C : Addr) : Prop where
  nf : ∀ T ∈ kinds7, PySem.W.notFirst K C (.type T) = true
  kt : ∀ T ∈ kinds7, PySem.W.kitOne K (.type T) (.ref C) = some false
  nb : ∀ T ∈ kinds7, PySem.W.subIn K (.ref C) (.type T) = some false
  ty : ∀ {H : Hp} {a dx : Addr} {fs : List (PySem.Str × V)}, Cls K C → H a = some (.ins C dx fs) → TyX K H (.ref a) (.ref C)
theorem bi_ok {K : PySem.W.Frag} {C : Addr} (h : biB K C = true) : Bi K C := by
  obtain ⟨h1, h2⟩ := He.ba h
  obtain ⟨h3, h4⟩ := He.ba h2
  obtain ⟨h5, h6⟩ := He.ba h4
  obtain ⟨h7, h8⟩ := He.ba h6
  have h1 := List.all_eq_true.mp h1
  exact ⟨fun T hT => (He.ba (h1 T hT)).1, fun T hT => of_decide_eq_true (He.ba (He.ba (h1 T hT)).2).1, fun T hT => of_decide_eq_true (He.ba (He.ba (h1 T hT)).2).2, fun cl e => .base (.ins e cl (He.eqO_ok h3) (He.eqO_ok h5) (of_decide_eq_true h7) (of_decide_eq_true h8))⟩
def ownB (K : PySem.W.Frag) (C : Addr) : Bool := He.eqO (PySem.W.findIn K (.ref C) "__eq__") (some (some (.ref (He.ma K C "__eq__")))) && (PySem.W.isFn K (.ref (He.ma K C "__eq__")) && (He.eqO (PySem.W.findIn K (.ref C) "__ne__") (some (some (.builtin "object.__ne__"))) && decide (PySem.W.subIn K (.ref C) (.type "object") = some true)))
theorem own_ok {K : PySem.W.Frag} {C : Addr} (h : ownB K C = true) : Cmps.Own K C (He.ma K C "__eq__") := by
  obtain ⟨h1, h2⟩ := He.ba h
  obtain ⟨h3, h4⟩ := He.ba h2
  obtain ⟨h5, h6⟩ := He.ba h4
  exact ⟨He.eqO_ok h1, h3, He.eqO_ok h5, of_decide_eq_true h6⟩
theorem eqv_ints : ∀ ts us : List Int, PyData.eqvAll (ts.map PyData.int) (us.map PyData.int) = decide (ts = us)
  | [], [] => by simp [PyData.eqvAll]
  | [], u :: us => by simp [PyData.eqvAll]
  | t :: ts, [] => by simp [PyData.eqvAll]
  | t :: ts, u :: us => by
    have e : PyData.eqv (.int t) (.int u) = (t == u) := by simp only [PyData.eqv]
    simp only [List.map_cons, PyData.eqvAll, e, eqv_ints ts us]
    rw [Bool.beq_eq_decide_eq, ← Bool.decide_and]
    exact decide_eq_decide.mpr (by simp)
theorem eqv_intsL (ts us : List Int) : PyData.eqv (.list (ts.map PyData.int)) (.list (us.map PyData.int)) = decide (ts = us) := by simp only [PyData.eqv]; exact eqv_ints ts us
/-- a view's own == with what is no view -/
def spVwNo (K : PySem.W.Frag) (C : Addr) : Sp := fun vs H Q _ => ∃ p y t, vs = [.ref p, y] ∧ TyX K H y t ∧ PySem.W.kitOne K t (.ref C) = some false ∧ Q (.bl false) H
def spFlag : Sp := fun vs H Q _ => ∃ b, vs = [.bl b, .bl b] ∧ Q (.bl true) H
section
variable {P : Program} {w : World} {K : PySem.W.Frag} {mg : PySem.Str → Option Value} {base : Heap} {C : Addr}
theorem ok_vw_no (T : Bt mg) (g_View : mg "View" = some (.ref C)) {f : Addr} {fd : FuncData} (F : FunD K "__eq__" "View.__eq__" (defArgs s_View___eq__) (defBody s_View___eq__) (defScope s_View___eq__) [] [] f fd) : FnOk P w K mg base CX0 1 f fd ["self", "other"] (spVwNo K C) := by
  refine F.ok sc_View___eq__ (fun vs H Q E h => ?_) (fun cdv A0 outer s H vs Q E hr h => ?_)
  · obtain ⟨p, y, t, rfl, _⟩ := h
    rfl
  · have hu64 := hu64_of hr
    have hu := hu_of hr
    refine ⟨_, PSs.nox (pss_one (ps_ret (pe_and (pe_callB call_isi (by rfl) T.b_isinstance (by decide +kernel) (pa_cons (pv 1) (pa_cons (pe_gref rfl g_View) pa_nil))) (pe_and (pe_cmpR (Txs.op_eq_dictT hu) (pe_fld (pv 0) rfl) (pe_fld (pv 1) rfl) (nomark _)) (pe_one (pe_cmpR (op_eqD hu64) (pe_fld (pv 0) rfl) (pe_fld (pv 1) rfl) (nomark _))))))), ?_⟩
    obtain ⟨p, y, t, rfl, ty, kt, q⟩ := h
    exact ⟨_, rfl, _, _, _, _, false, rfl, .own _, ty, kt, false, rfl, q⟩
theorem ok_flag (T : Bt mg) {f : Addr} {fd : FuncData} (F : FunD K "_law_flag" "_law_flag" (defArgs s_law_flag) (defBody s_law_flag) (defScope s_law_flag) [] [] f fd) : FnOk P w K mg base CX0 1 f fd ["_law_told", "_law_due"] spFlag := by
  refine F.ok sc_law_flag (fun vs H Q E h => ?_) (fun cdv A0 outer s H vs Q E hr h => ?_)
  · obtain ⟨b, rfl, _⟩ := h
    rfl
  · refine ⟨_, PSs.nox (pss_one (ps_ret (pe_and (pe_callB call_isi (by rfl) T.b_isinstance (by decide +kernel) (pa_cons (pv 0) (pa_cons (pe_bltn (v := .ty "bool") (by rfl) T.b_bool (by decide +kernel) rfl) pa_nil))) (pe_one (pe_cmpR op_eq (pv 0) (pv 1) (nomark _)))))), ?_⟩
    obtain ⟨b, rfl, q⟩ := h
    refine ⟨_, rfl, _, _, _, _, true, rfl, .ty _, .base (.bl b), kit_ty (by decide +kernel), true, rfl, _, rfl, _, rfl, rfl, ?_⟩
    rw [decide_eq_true rfl]
    exact q
theorem cl_flag (T : Bt mg) (a : At K mg "_law_flag" s_law_flag) : Cl P w K mg base 1 "_law_flag" spFlag [] := a.cal (ps := ["_law_told", "_law_due"]) (fun _ _ F => ok_flag T F) (fun _ _ _ _ _ _ us hl => match us, hl with | [_, _], _ => rfl)
end
end Lw

namespace Lw
open PySem PySem.Spec PyProof.Rows L2 Txs
open C8 (pe_gc)
/-! ### views -/
def sgV (es : List (PySem.Str × PySem.Str)) : List (Key × V) := es.map fun e => (.inr e.1, .str e.2)
structure VwC (K : PySem.W.Frag) (C : Addr) : Prop where
  cl : Cls K C
  n1 : NoAttr K C "sight_table"
  n2 : NoAttr K C "hold_list"
structure Vw where
  sights : List (PySem.Str × PySem.Str)
  holds : List PySem.Str
structure VwAt where
  p : Addr
  dx : Addr
  l1 : Addr
  l2 : Addr
def VwAt.lists (A : VwAt) : List Addr := [A.l1, A.l2]
def vwF (l1 l2 : Addr) : List (PySem.Str × V) := putF "hold_list" (.ref l2) (putF "sight_table" (.ref l1) [])
theorem vwF_sights (l1 l2 : Addr) : (vwF l1 l2).lookup ("sight_table" : PySem.Str) = some (.ref l1) := by
  unfold vwF
  rw [lookup_putF, if_neg (by decide +kernel), lookup_putF, if_pos rfl]
theorem vwF_holds (l1 l2 : Addr) : (vwF l1 l2).lookup ("hold_list" : PySem.Str) = some (.ref l2) := by
  unfold vwF
  rw [lookup_putF, if_pos rfl]
structure IsVw (C : Addr) (H : Hp) (A : VwAt) (d : Vw) : Prop where
  ins : H A.p = some (.ins C A.dx (vwF A.l1 A.l2))
  sights : H A.l1 = some (.dK (sgV d.sights))
  holds : H A.l2 = some (.lst (d.holds.map V.str))
  nd : (d.sights.map (·.1)).Nodup
  ok : ∀ e ∈ d.sights, Nm e.1 ∧ Nm e.2
  hk : ∀ h ∈ d.holds, Nm h
  asc : Asc d.holds
  small : d.sights.length ≤ 100 ∧ d.holds.length ≤ 60
theorem IsVw.same {C : Addr} {H H' : Hp} {A : VwAt} {d : Vw} (h : IsVw C H A d) (k : Same H H') : IsVw C H' A d :=
  ⟨k _ _ h.ins, k _ _ h.sights, k _ _ h.holds, h.nd, h.ok, h.hk, h.asc, h.small⟩
def spCheckSights (K : PySem.W.Frag) : Sp := fun vs H Q _ => ∃ a es, vs = [.ref a] ∧ H a = some (.dK (sgV es)) ∧ (∀ e ∈ es, Nm e.1 ∧ Nm e.2) ∧ ∀ H', Same H H' → Q .non H'
def spCheckWords (K : PySem.W.Frag) : Sp := fun vs H Q _ => ∃ (a : Addr) (hs : List PySem.Str), vs = [.ref a] ∧ RowAt K H a (hs.map V.str) ∧ (∀ h ∈ hs, Nm h) ∧ ∀ H', Same H H' → Q .non H'
def spView (K : PySem.W.Frag) (C : Addr) : Sp := fun vs H Q _ => ∃ (p dx : Addr) (sv : V) (b : Addr) (es : List (PySem.Str × PySem.Str)) (hs : List PySem.Str), vs = [.ref p, sv, .ref b] ∧ H p = some (.ins C dx []) ∧
  ((sv = .non ∧ es = []) ∨ ∃ a, sv = .ref a ∧ H a = some (.dK (sgV es))) ∧ (es.map (·.1)).Nodup ∧ (∀ e ∈ es, Nm e.1 ∧ Nm e.2) ∧ es.length ≤ 100 ∧ RowAt K H b (hs.map V.str) ∧ (∀ h ∈ hs, Nm h) ∧ hs.length ≤ 60 ∧
  ∀ (A : VwAt) (d : Vw) H', A.p = p → A.dx = dx → (∀ l ∈ A.lists, H l = none) → But p H H' → IsVw C H' A d → d.sights = es → (∀ x, x ∈ d.holds ↔ x ∈ hs) → Q .non H'
theorem same_unlock {a : Addr} {H H' : Hp} {u o : HO} (h : H a = some u) (k : But a (L2.upd H a o) H') : Same H (L2.upd H' a u) := fun b x e => by
  by_cases n : b = a
  · subst n
    rw [h] at e
    rw [upd_same]; exact e
  · rw [upd_ne n]
    exact k b x (by rw [upd_ne n]; exact e) n
theorem nm_size {x : PySem.Str} (h : Nm x) : x.length ≤ sizeLine := Nat.le_trans h.2.1 (by decide)
section
variable {P : Program} {w : World} {K : PySem.W.Frag} {mg : PySem.Str → Option Value} {base : Heap} {C : Addr}
theorem ok_check_sights (T : Bt mg) (c_is_name : Cl P w K mg base 1 "is_name" (spIsName K) []) {f : Addr} {fd : FuncData} (F : FunD K "check_sights" "check_sights" (defArgs s_check_sights) (defBody s_check_sights) (defScope s_check_sights) [] [] f fd) : FnOk P w K mg base CX0 2 f fd ["sights"] (spCheckSights K) := by
  refine F.ok sc_check_sights (fun vs H Q E h => ?_) (fun cdv A outer s H vs Q E hr h => ?_)
  · obtain ⟨a, es, rfl, _⟩ := h
    rfl
  · obtain ⟨a, es, rfl, ha, ok, k⟩ := h
    refine ⟨_, PSs.nox (pss_cons (ps_if (pt_not (pt_val (pe_callB call_isi (by rfl) T.b_isinstance (by decide +kernel) (pa_cons (pv 0) (pa_cons (pe_bltn (v := .ty "dict") (by rfl) T.b_dict (by decide +kernel) rfl) pa_nil))))) (pss_one ps_never) pss_nil) (pss_one (ps_lock (ps_for PassesOwn.never rfl (pi_items (pv 0)) (pg_tup rfl (pgs_cons (pg_name (i := 1) sc_check_sights.nd rfl (Or.inl rfl)) (pgs_cons (pg_name (i := 2) sc_check_sights.nd rfl (Or.inl rfl)) pgs_nil))) (pss_one (ps_if (PW.pt (pw_or (pt_not (pt_val (pe_cl c_is_name hr (by decide) rfl (pa_cons (pv 1) pa_nil)))) (pw_or1 (pt_not (pt_val (pe_cl c_is_name hr (by decide) rfl (pa_cons (pv 2) pa_nil))))))) (pss_one ps_never) pss_nil)))))), ?_⟩
    refine ⟨_, rfl, _, _, _, _, true, rfl, .ty _, .base (.dK ha), kit_ty (by decide +kernel), true, rfl, iteF ?_⟩
    refine ⟨a, _, ha, trivial, fun od => ?_⟩
    refine ⟨_, rfl, a, od, _, rfl, upd_same, for_it walk_items (fun i σ H' => ∃ v1 v2 : Option V, σ = [some (.ref a), v1, v2] ∧ But a (L2.upd H a (.frz od (.dK (sgV es)))) H' ∧ H' a = some (.frz od (.dK (sgV es)))) ?_ ?_ ?_ ?_⟩
    · exact ⟨_, _, rfl, But.refl, upd_same⟩
    · rintro i σ H' _ ⟨_, _, _, _, e⟩
      exact e
    · rintro i x σ H1 H2 hi ⟨v1, v2, rfl, b, e⟩ ⟨Tp, x1, y1, rfl, hT, rfl, hx, hy⟩
      replace hx : ((es.map fun e => ((Sum.inr e.1 : Key), V.str e.2))[i]?.map fun kv => kV kv.1) = some x1 := hx
      replace hy : ((es.map fun e => ((Sum.inr e.1 : Key), V.str e.2))[i]?.map Prod.snd) = some y1 := hy
      rw [List.getElem?_map] at hx hy
      obtain ⟨z, hz⟩ : ∃ z, es[i]? = some z := by
        cases q : es[i]? with
        | none => rw [q] at hx; cases hx
        | some z => exact ⟨z, rfl⟩
      rw [hz] at hx hy
      have hx : V.str z.1 = x1 := Option.some.inj hx
      have hy : V.str z.2 = y1 := Option.some.inj hy
      subst hx hy
      obtain ⟨o1, o2⟩ := ok z (List.mem_of_getElem? hz)
      have nT : a ≠ Tp := ne_of_none e hT
      refine ⟨Tp, _, rfl, SqT.of upd_same, rfl, _, _, rfl, _, _, rfl, rfl, ?_⟩
      refine ⟨_, rfl, .inl ⟨z.1, rfl, nm_size o1, ?_⟩⟩
      rw [nmB_iff.2 o1]
      refine ⟨true, rfl, iteF ?_⟩
      refine ⟨_, rfl, .inl ⟨z.2, rfl, nm_size o2, ?_⟩⟩
      rw [nmB_iff.2 o2]
      refine ⟨true, rfl, iteF ?_⟩
      exact ⟨_, _, rfl, b.new hT, by rw [upd_ne nT]; exact e⟩
    · rintro σ H1 ⟨v1, v2, rfl, b, e⟩
      exact ⟨e, k _ (same_unlock ha b)⟩
theorem cl_check_sights (T : Bt mg) (c_is_name : Cl P w K mg base 1 "is_name" (spIsName K) []) (a : At K mg "check_sights" s_check_sights) : Cl P w K mg base 2 "check_sights" (spCheckSights K) [] := a.cal (ps := ["sights"]) (fun _ _ F => ok_check_sights T c_is_name F) (fun _ _ _ _ _ _ us hl => match us, hl with | [_], _ => rfl)
theorem ok_check_words (T : Bt mg) (c_is_row : Cl P w K mg base 1 "is_row" (spIsRow K) []) (c_is_name : Cl P w K mg base 1 "is_name" (spIsName K) []) {f : Addr} {fd : FuncData} (F : FunD K "check_words" "check_words" (defArgs s_check_words) (defBody s_check_words) (defScope s_check_words) [] [] f fd) : FnOk P w K mg base CX0 2 f fd ["words"] (spCheckWords K) := by
  refine F.ok sc_check_words (fun vs H Q E h => ?_) (fun cdv A outer s H vs Q E hr h => ?_)
  · obtain ⟨a, hs, rfl, _⟩ := h
    rfl
  · obtain ⟨a, hs, rfl, row, ok, k⟩ := h
    refine ⟨_, PSs.nox (pss_cons (ps_if (pt_not (pt_val (pe_cl c_is_row hr (by decide) rfl (pa_cons (pv 0) pa_nil)))) (pss_one ps_never) pss_nil) (pss_one (ps_for PassesOwn.never rfl (pi_seq (pv 0)) (pg_name (i := 1) sc_check_words.nd rfl (Or.inl rfl)) (pss_one (ps_if (pt_not (pt_val (pe_cl c_is_name hr (by decide) rfl (pa_cons (pv 1) pa_nil)))) (pss_one ps_never) pss_nil))))), ?_⟩
    obtain ⟨t, ty, kt⟩ := row.ty
    refine ⟨_, rfl, _, t, true, rfl, ty, kt, fun H1 sm1 => ⟨true, rfl, iteF ?_⟩⟩
    refine ⟨_, rfl, a, rfl, for_seq (K := K) (xs := hs.map V.str) row.sq (fun i σ H' => ∃ v1 : Option V, σ = [some (.ref a), v1] ∧ Same H H') ?_ ?_ ?_ ?_⟩
    · exact ⟨_, rfl, sm1⟩
    · rintro i σ' H' _ ⟨_, _, sm⟩ o e
      exact sm _ _ e
    · rintro i x σ H2 hx ⟨v1, rfl, sm⟩
      rw [List.getElem?_map] at hx
      obtain ⟨z, hz, rfl⟩ := Option.map_eq_some_iff.mp hx
      have o1 := ok z (List.mem_of_getElem? hz)
      refine ⟨_, rfl, .inl ⟨z, rfl, nm_size o1, ?_⟩⟩
      rw [nmB_iff.2 o1]
      exact ⟨true, rfl, iteF ⟨_, rfl, sm⟩⟩
    · rintro σ H2 ⟨v1, rfl, sm⟩
      exact k H2 sm
theorem cl_check_words (T : Bt mg) (c_is_row : Cl P w K mg base 1 "is_row" (spIsRow K) []) (c_is_name : Cl P w K mg base 1 "is_name" (spIsName K) []) (a : At K mg "check_words" s_check_words) : Cl P w K mg base 2 "check_words" (spCheckWords K) [] := a.cal (ps := ["words"]) (fun _ _ F => ok_check_words T c_is_row c_is_name F) (fun _ _ _ _ _ _ us hl => match us, hl with | [_], _ => rfl)
theorem ok_view (T : Bt mg) (vc : VwC K C) (c_check_sights : Cl P w K mg base 2 "check_sights" (spCheckSights K) []) (c_check_words : Cl P w K mg base 2 "check_words" (spCheckWords K) []) {f : Addr} {fd : FuncData} {dvs : List V}
    (F : FunD K "__init__" "View.__init__" (defArgs s_View___init__) (defBody s_View___init__) (defScope s_View___init__) dvs [] f fd) : FnOk P w K mg base CX0 3 f fd ["self", "sights", "holds"] (spView K C) := by
  refine F.ok sc_View___init__ (fun vs H Q E h => ?_) (fun cdv A outer s H vs Q E hr h => ?_)
  · obtain ⟨p, dx, sv, b, es, hs, rfl, _⟩ := h
    rfl
  · obtain ⟨p, dx, sv, b, es, hs, rfl, hp, hsv, nd, ok, e100, rb, okh, h60, k⟩ := h
    refine ⟨_, PSs.nox (Evl.pss_cut (ps_if (pt_cmpR op_isN (pv 1) pe_non (nomark _)) (pss_one (ps_set (i := 1) sc_View___init__.nd rfl (Or.inl rfl) pe_dnewK)) pss_nil) (pss_cons (ps_expr (pe_cl c_check_sights hr (by decide) rfl (pa_cons (pv 1) pa_nil))) (pss_cons (ps_expr (pe_cl c_check_words hr (by decide) rfl (pa_cons (pv 2) pa_nil))) (pss_cons (ps_fld (pv 0) (pe_callTy call_dictD (by rfl) T.b_dict (by decide +kernel) (pa_cons (pv 1) pa_nil)) rfl) (pss_one (ps_fld (pv 0) (pe_callB (cr_sortedX rfl) (by rfl) T.b_sorted (by decide +kernel) (pa_cons (pe_callTy (cr_setL rfl) (by rfl) T.b_set (by decide +kernel) (pa_cons (pv 2) pa_nil)) pa_nil)) rfl)))))), ?_⟩
    refine ⟨fun σ' H' => ∃ a, σ' = [some (.ref p), some (.ref a), some (.ref b)] ∧ Same H H' ∧ H' a = some (.dK (sgV es)), ?_, ?_⟩
    · rcases hsv with ⟨rfl, rfl⟩ | ⟨a, rfl, ha⟩
      · refine ⟨_, rfl, rfl, _, rfl, ?_⟩
        refine iteT (fun a ha => ?_)
        exact ⟨a, rfl, same_new (Same.refl _) ha, upd_same⟩
      · refine ⟨_, rfl, rfl, _, rfl, ?_⟩
        exact iteF ⟨a, rfl, Same.refl _, ha⟩
    · rintro σ' H1 ⟨a, rfl, m1, ha⟩
      refine ⟨_, rfl, a, es, rfl, ha, ok, fun H2 m2 => ?_⟩
      have m2' := m1.trans m2
      refine ⟨_, rfl, b, hs, rfl, rb.same m2', okh, fun H3 m3 => ?_⟩
      have m3' := m2'.trans m3
      refine ⟨_, rfl, a, _, rfl, .inl (m3 _ _ (m2 _ _ ha)), fun l1 h1 => ?_⟩
      have p3 := m3' _ _ hp
      have z1 : p ≠ l1 := ne_of_none p3 h1
      have m4 := same_new m3' h1 (o := .dK (sgV es))
      have e4 : (L2.upd H3 l1 (.dK (sgV es))) l1 = some (.dK (sgV es)) := upd_same
      have p4 := m4 _ _ hp
      generalize L2.upd H3 l1 (.dK (sgV es)) = H4 at m4 e4 p4 ⊢
      refine ⟨_, rfl, p, C, dx, _, rfl, p4, vc.cl, vc.n1, by show 0 < 1000; decide, ?_⟩
      have b5 : But p H (L2.upd H4 p (.ins C dx (putF "sight_table" (.ref l1) []))) := (But.of m4).trans But.upd
      have p5 : (L2.upd H4 p (.ins C dx (putF "sight_table" (.ref l1) []))) p = some (.ins C dx (putF "sight_table" (.ref l1) [])) := upd_same
      have e5 : (L2.upd H4 p (.ins C dx (putF "sight_table" (.ref l1) []))) l1 = some (.dK (sgV es)) := by rw [upd_ne z1.symm]; exact e4
      have rb5 : Sq K (L2.upd H4 p (.ins C dx (putF "sight_table" (.ref l1) []))) b (hs.map V.str) := sq_but rb.sq b5 hp
      generalize L2.upd H4 p (.ins C dx (putF "sight_table" (.ref l1) [])) = H5 at b5 p5 e5 rb5 ⊢
      refine ⟨_, rfl, b, hs, rfl, rb5, by unfold scanBound; omega, fun q c hq hc => ?_⟩
      refine ⟨q, _, c, rfl, upd_same, by omega, fun ys l2 asc mem len h2 => ?_⟩
      generalize SetX (cxOf CX0 P w K mg base N_View___init__ "View.__init__" (defScope s_View___init__) f cdv A outer s H E).nox.prog (cxOf CX0 P w K mg base N_View___init__ "View.__init__" (defScope s_View___init__) f cdv A outer s H E).nox.w q (fun x => decide (x ∈ hs)) c = so at h2 ⊢
      have n6 := same_new (Same.refl H5) hq (o := so)
      have n7 := same_new n6 h2 (o := .lst (ys.map V.str))
      have f2 : H l2 = none := by
        cases z : H l2 with
        | none => rfl
        | some u =>
          have np : l2 ≠ p := fun e => by
            have := n6 _ _ p5
            rw [e, this] at h2; cases h2
          have := n6 _ _ (b5 _ _ z np)
          rw [this] at h2; cases h2
      have f1 : H l1 = none := m3'.free h1
      have p7 := n7 _ _ p5
      have z2 : l2 ≠ p := fun e => by
        have := n6 _ _ p5
        rw [e, this] at h2; cases h2
      refine ⟨_, rfl, p, C, dx, _, rfl, p7, vc.cl, vc.n2, Nat.lt_of_le_of_lt (putF_len _ _ _) (by decide), ?_⟩
      refine k ⟨p, dx, l1, l2⟩ ⟨es, ys⟩ _ rfl rfl ?_ ?_ ⟨upd_same, ?_, ?_, nd, ok, ?_, asc, e100, ?_⟩ rfl ?_
      · intro l hl
        simp only [VwAt.lists, List.mem_cons, List.not_mem_nil, or_false] at hl
        rcases hl with rfl | rfl
        · exact f1
        · exact f2
      · exact (b5.trans (But.of n7)).trans But.upd
      · rw [upd_ne z1.symm]; exact n7 _ _ e5
      · rw [upd_ne z2]; exact upd_same
      · exact fun h hh => okh h (of_decide_eq_true ((mem h).1 hh))
      · show ys.length ≤ 60
        omega
      · exact fun x => (mem x).trans decide_eq_true_iff
theorem ok_vw_eq (T : Bt mg) (vc : VwC K C) (g_View : mg "View" = some (.ref C)) {f : Addr} {fd : FuncData} (F : FunD K "__eq__" "View.__eq__" (defArgs s_View___eq__) (defBody s_View___eq__) (defScope s_View___eq__) [] [] f fd) : True := trivial
end
end Lw

namespace Lw
open PySem PySem.Spec PyProof.Rows L2 Txs
open C8 (pe_gc)
/-! ### what a view answers -/
/-- an own special method, with its promise -/
structure Ow (P : Program) (w : World) (K : PySem.W.Frag) (mg : PySem.Str → Option Value) (base : Heap) (k : Nat) (C : Addr) (n : PySem.Str) (sp : Sp) : Prop where
  ex : ∃ f fd ps, FnOk P w K mg base CX0 k f fd ps sp ∧ Binds K fd ps [] ∧ Itms.Spc K C n f
/-- a method that is called by its name -/
structure Me (P : Program) (w : World) (K : PySem.W.Frag) (mg : PySem.Str → Option Value) (base : Heap) (k : Nat) (C : Addr) (m : PySem.Str) (sp : Sp) : Prop where
  ex : ∃ f fd ps, Meth K C m f ∧ Cls K C ∧ FnOk P w K mg base CX0 k f fd ps sp ∧ Binds K fd ps []
section
variable {X : Cx} {k j : Nat} {C : Addr} {sp : Sp} {m : PySem.Str} {o e a b : Expr} {es : List Expr} {ta tb : TE} {t : TA} {apos pos : Pos}
theorem op_wn (c : Ow X.prog X.w X.K X.mg X.base k C "__contains__" sp) (hr : Room j X.A) (hk : k ≤ j) : OpR X (compareOp .In) (Itms.rInI C sp false) :=
  let ⟨_, _, _, F, b, O⟩ := c.ex
  Itms.op_inI F b O (hr.mono hk)
theorem call_wl (c : Ow X.prog X.w X.K X.mg X.base k C "__len__" sp) (hr : Room j X.A) (hk : k + 1 ≤ j) : CallR X (.builtin "len") (Itms.rLenI C sp) :=
  let ⟨_, _, _, F, b, O⟩ := c.ex
  Itms.call_lenI F b O (hr.mono hk)
theorem pe_wi (c : Ow X.prog X.w X.K X.mg X.base k C "__getitem__" sp) (hr : Room j X.A) (hk : k + 1 ≤ j) (ha : PE X a ta) (he : PE X b tb)
    (hs : ∀ (o : Addr) (i : Value), subscripted b true (.ref o) i = runValue (.builtin "lifetime.subscript" ⟨[.ref o, i], []⟩) := by intro _ _; with_unfolding_all rfl) : PE X (.Subscript a b pos) (tOp (Itms.rIxI C sp) ta tb) :=
  let ⟨_, _, _, F, b, O⟩ := c.ex
  Itms.pe_ixI F b O (hr.mono hk) ha he hs
theorem set_wi (c : Ow X.prog X.w X.K X.mg X.base k C "__setitem__" sp) (hr : Room j X.A) (hk : k ≤ j) : PSet X (Itms.rSetI C sp) :=
  let ⟨_, _, _, F, b, O⟩ := c.ex
  Itms.set_insI F b O (hr.mono hk)
theorem pe_me {pl : Sem Bool} (c : Me X.prog X.w X.K X.mg X.base k C m sp) (hr : Room j X.A) (hk : k ≤ j) (he : PE X o ta) (ha : PA X (e :: es) t)
    (hst : starEach (e :: es) X.env = (false, eval e X.env) :: starEach es X.env := by rfl) (hpl : (backTo pos (starEach es X.env)).any (·.1) = false := by rfl)
    (ht : eval (.Call (.Attribute o m apos) (e :: es) [] pos) X.env = (do
      let ov ← eval o X.env
      standAt apos.atName
      let (f, first) ← holding [ov] (getMethod ov m pl)
      callWith pos f first (backTo pos (starEach (e :: es) X.env)) (backToKw pos (keywordEach [] X.env))) := by rfl) :
    PE X (.Call (.Attribute o m apos) (e :: es) [] pos) (tMeth C m sp [] E0 ta t) :=
  let ⟨_, _, _, M, cl, F, b⟩ := c.ex
  pe_meth (pl := pl) he cl M F (hr.mono hk) b .nil pass0 ha hst hpl ht
theorem pe_me0 {pl : Sem Bool} (c : Me X.prog X.w X.K X.mg X.base k C m sp) (hr : Room j X.A) (hk : k ≤ j) (he : PE X o ta)
    (ht : eval (.Call (.Attribute o m apos) [] [] pos) X.env = (do
      let ov ← eval o X.env
      standAt apos.atName
      let (f, first) ← holding [ov] (getMethod ov m pl)
      callWith pos f first (backTo pos (starEach [] X.env)) (backToKw pos (keywordEach [] X.env))) := by rfl) :
    PE X (.Call (.Attribute o m apos) [] [] pos) (tMeth C m sp [] E0 ta tNil) :=
  let ⟨_, _, _, M, cl, F, b⟩ := c.ex
  pe_meth0 (pl := pl) he cl M F (hr.mono hk) b .nil pass0 ht
end
/-- what a class's own special method needs of the top -/
def spcB (K : PySem.W.Frag) (C : Addr) (n : PySem.Str) : Bool := He.eqO (PySem.W.findIn K (.ref C) n) (some (some (.ref (He.ma K C n)))) && (PySem.W.isFn K (.ref (He.ma K C n)) && (PySem.W.fnIn K (He.ma K C n) && PySem.W.noSeq K C))
theorem spc_ok {K : PySem.W.Frag} {C : Addr} {n : PySem.Str} (h : spcB K C n = true) : Itms.Spc K C n (He.ma K C n) := by
  obtain ⟨h1, h2⟩ := He.ba h
  obtain ⟨h3, h4⟩ := He.ba h2
  obtain ⟨h5, h6⟩ := He.ba h4
  exact ⟨He.eqO_ok h1, h3, h5, h6⟩
/-! tables of texts -/
theorem inr_eq {x y : PySem.Str} : ((.inr x : Key) = .inr y) = (x = y) := propext ⟨fun h => by injection h, fun h => by rw [h]⟩
theorem str_eq {x y : PySem.Str} : (V.str x = V.str y) = (x = y) := propext ⟨fun h => by injection h, fun h => by rw [h]⟩
theorem sg_in {es : List (PySem.Str × PySem.Str)} (nd : (es.map (·.1)).Nodup) {x y : PySem.Str} (h : (x, y) ∈ es) : valV (sgV es) (.inr x) = some (.str y) := by
  induction es with
  | nil => cases h
  | cons e es ih =>
    simp only [List.map_cons, List.nodup_cons] at nd
    show valV (((.inr e.1 : Key), V.str e.2) :: sgV es) (.inr x) = _
    rcases List.mem_cons.mp h with q | q
    · rw [← q]
      exact valV_pos rfl
    · rw [valV_neg (by
        intro z
        have z : e.1 = x := by simpa [inr_eq] using z
        exact nd.1 (by rw [z]; exact List.mem_map.mpr ⟨_, q, rfl⟩))]
      exact ih nd.2 q
theorem sg_some {es : List (PySem.Str × PySem.Str)} {x : PySem.Str} {v : V} (h : valV (sgV es) (.inr x) = some v) : ∃ y, v = .str y ∧ (x, y) ∈ es := by
  induction es with
  | nil => cases h
  | cons e es ih =>
    change valV (((.inr e.1 : Key), V.str e.2) :: sgV es) (.inr x) = _ at h
    by_cases q : (.inr e.1 : Key) = .inr x
    · rw [valV_pos q] at h
      have q : e.1 = x := by simpa [inr_eq] using q
      exact ⟨e.2, (Option.some.inj h).symm, by rw [← q]; exact List.mem_cons_self⟩
    · rw [valV_neg q] at h
      obtain ⟨y, e1, e2⟩ := ih h
      exact ⟨y, e1, List.mem_cons_of_mem _ e2⟩
theorem sg_perm {es fs : List (PySem.Str × PySem.Str)} (p : es.Perm fs) (nd : (es.map (·.1)).Nodup) (x : PySem.Str) : valV (sgV es) (.inr x) = valV (sgV fs) (.inr x) := by
  have nd' : (fs.map (·.1)).Nodup := (p.map _).nodup_iff.1 nd
  cases h : valV (sgV es) (.inr x) with
  | some v =>
    obtain ⟨y, rfl, m⟩ := sg_some h
    exact (sg_in nd' (p.mem_iff.1 m)).symm
  | none =>
    cases g : valV (sgV fs) (.inr x) with
    | none => rfl
    | some v =>
      obtain ⟨y, rfl, m⟩ := sg_some g
      rw [sg_in nd (p.mem_iff.2 m)] at h
      cases h
theorem sg_keys (es : List (PySem.Str × PySem.Str)) : (sgV es).map (·.1) = (es.map (·.1)).map Sum.inr := by
  unfold sgV
  rw [List.map_map, List.map_map]
  rfl
theorem sg_len (es : List (PySem.Str × PySem.Str)) : (sgV es).length = es.length := by unfold sgV; rw [List.length_map]
/-- equal dicts, as == asks of them -/
theorem sg_deq {es fs : List (PySem.Str × PySem.Str)} (p : es.Perm fs) (nd : (es.map (·.1)).Nodup) : (sgV es).length = (sgV fs).length ∧ ∀ q ∈ sgV es, valV (sgV fs) q.1 = some q.2 ∧ flatB q.2 = true := by
  refine ⟨by rw [sg_len, sg_len, p.length_eq], fun q hq => ?_⟩
  obtain ⟨e, he, rfl⟩ := List.mem_map.mp hq
  exact ⟨sg_in ((p.map _).nodup_iff.1 nd) (p.mem_iff.1 he), rfl⟩
theorem asc_of {ys zs : List PySem.Str} (p : ys.Perm zs) (s : sortedS ys = true) (nd : zs.Nodup) : Asc ys := ⟨s, p.nodup_iff.2 nd⟩
def spVwWords (C : Addr) : Sp := fun vs H Q _ => ∃ A d, vs = [.ref A.p] ∧ IsVw C H A d ∧ d.sights.length < 64 ∧ ∀ (ys : List PySem.Str) p, Asc ys → (∀ x, x ∈ ys ↔ x ∈ d.sights.map (·.1)) → H p = none → Q (.ref p) (upd H p (.lst (ys.map V.str)))
def spVwSights (C : Addr) : Sp := fun vs H Q _ => ∃ A d, vs = [.ref A.p] ∧ IsVw C H A d ∧ ∀ p, H p = none → Q (.ref p) (upd H p (.dK (sgV d.sights)))
def spVwHolds (C : Addr) : Sp := fun vs H Q _ => ∃ A d, vs = [.ref A.p] ∧ IsVw C H A d ∧ ∀ p, H p = none → Q (.ref p) (upd H p (.lst (d.holds.map V.str)))
def spVwLen (C : Addr) : Sp := fun vs H Q _ => ∃ A d, vs = [.ref A.p] ∧ IsVw C H A d ∧ Q (.int d.sights.length) H
def spVwIn (K : PySem.W.Frag) (C : Addr) : Sp := fun vs H Q _ => ∃ A d x, vs = [.ref A.p, x] ∧ IsVw C H A d ∧ ((∃ z, x = .str z ∧ z.length ≤ sizeLine ∧ Q (.bl (nmB z && (valV (sgV d.sights) (.inr z)).isSome)) H) ∨ ∃ t, TyX K H x t ∧ PySem.W.kitOne K t (.type "str") = some false ∧ Q (.bl false) H)
def spVwItem (C : Addr) : Sp := fun vs H Q _ => ∃ A d z, vs = [.ref A.p, .str z] ∧ IsVw C H A d ∧ Nm z ∧ Q ((valV (sgV d.sights) (.inr z)).getD .non) H
def spVwSet (C : Addr) : Sp := fun vs H Q _ => ∃ A d z v, vs = [.ref A.p, .str z, v] ∧ IsVw C H A d ∧ Nm z ∧ ((∃ y, v = .str y ∧ Nm y ∧ Q .non (upd H A.l1 (.dK (putK (sgV d.sights) (.inr z) (.str y))))) ∨
  (v = .non ∧ (valV (sgV d.sights) (.inr z) = none → Q .non H) ∧ ((valV (sgV d.sights) (.inr z)).isSome = true → Q .non (upd H A.l1 (.dK (dropK (sgV d.sights) (.inr z)))))))
def spVwHold (K : PySem.W.Frag) (C : Addr) : Sp := fun vs H Q _ => ∃ (A : VwAt) (d : Vw) (b : Addr) (hs : List PySem.Str), vs = [.ref A.p, .ref b] ∧ IsVw C H A d ∧ RowAt K H b (hs.map V.str) ∧ (∀ h ∈ hs, Nm h) ∧ hs.length ≤ 60 ∧
  ∀ (l2 : Addr) (ys : List PySem.Str) H', H l2 = none → But A.p H H' → IsVw C H' ⟨A.p, A.dx, A.l1, l2⟩ ⟨d.sights, ys⟩ → (∀ x, x ∈ ys ↔ x ∈ hs) → Q .non H'
def spVwCopy (C : Addr) : Sp := fun vs H Q _ => ∃ A d, vs = [.ref A.p] ∧ IsVw C H A d ∧ ∀ (B : VwAt) H', H B.p = none → (∀ l ∈ B.lists, H l = none) → Same H H' → IsVw C H' B d → Q (.ref B.p) H'
def spVwEq (K : PySem.W.Frag) (C : Addr) : Sp := fun vs H Q _ => (∃ A B d e, vs = [.ref A.p, .ref B.p] ∧ IsVw C H A d ∧ IsVw C H B e ∧ TyX K H (.ref B.p) (.ref C) ∧ d.sights.Perm e.sights ∧ Q (.bl (decide (d.holds = e.holds))) H) ∨ spVwNo K C vs H Q E0
theorem nm_ok1 {x : PySem.Str} (h : Nm x) : PyData.strOk x = true := by
  unfold PyData.strOk
  rw [← Array.all_toList, List.all_eq_true]
  intro c hc
  have := h.2.2 c hc
  exact decide_eq_true (by omega)
theorem eqv_strs : ∀ ts us : List PySem.Str, PyData.eqvAll (ts.map PyData.str) (us.map PyData.str) = decide (ts = us)
  | [], [] => by simp [PyData.eqvAll]
  | [], u :: us => by simp [PyData.eqvAll]
  | t :: ts, [] => by simp [PyData.eqvAll]
  | t :: ts, u :: us => by
    have e : PyData.eqv (.str t) (.str u) = (t == u) := by simp only [PyData.eqv]
    simp only [List.map_cons, PyData.eqvAll, e, eqv_strs ts us]
    rw [Bool.beq_eq_decide_eq, ← Bool.decide_and]
    exact decide_eq_decide.mpr (by simp)
theorem eqv_strsL (ts us : List PySem.Str) : PyData.eqv (.list (ts.map PyData.str)) (.list (us.map PyData.str)) = decide (ts = us) := by simp only [PyData.eqv]; exact eqv_strs ts us
section
variable {P : Program} {w : World} {K : PySem.W.Frag} {mg : PySem.Str → Option Value} {base : Heap} {C : Addr}
theorem ok_vw_words (T : Bt mg) (vc : VwC K C) {f : Addr} {fd : FuncData} (F : FunD K "words" "View.words" (defArgs s_View_words) (defBody s_View_words) (defScope s_View_words) [] [] f fd) : FnOk P w K mg base CX0 1 f fd ["self"] (spVwWords C) := by
  refine F.ok sc_View_words (fun vs H Q E h => ?_) (fun cdv A0 outer s H vs Q E hr h => ?_)
  · obtain ⟨A, d, rfl, _⟩ := h
    rfl
  · refine ⟨_, PSs.nox (pss_one (ps_ret (pe_callB (call_sortedD rfl) (by rfl) T.b_sorted (by decide +kernel) (pa_cons (pe_fld (pv 0) rfl) pa_nil)))), ?_⟩
    obtain ⟨A, d, rfl, i, lt, k⟩ := h
    refine ⟨_, rfl, A.p, C, A.dx, _, _, rfl, i.ins, vc.cl, vc.n1, vwF_sights _ _, A.l1, _, d.sights.map (·.1), rfl, .inl i.sights, sg_keys _, by rw [List.length_map]; exact lt, fun ys p pm so hp => ?_⟩
    exact k ys p (asc_of pm so i.nd) (fun x => pm.mem_iff) hp
theorem ok_vw_sights (T : Bt mg) (vc : VwC K C) {f : Addr} {fd : FuncData} (F : FunD K "sights" "View.sights" (defArgs s_View_sights) (defBody s_View_sights) (defScope s_View_sights) [] [] f fd) : FnOk P w K mg base CX0 1 f fd ["self"] (spVwSights C) := by
  refine F.ok sc_View_sights (fun vs H Q E h => ?_) (fun cdv A0 outer s H vs Q E hr h => ?_)
  · obtain ⟨A, d, rfl, _⟩ := h
    rfl
  · refine ⟨_, PSs.nox (pss_one (ps_ret (pe_callTy call_dictD (by rfl) T.b_dict (by decide +kernel) (pa_cons (pe_fld (pv 0) rfl) pa_nil)))), ?_⟩
    obtain ⟨A, d, rfl, i, k⟩ := h
    exact ⟨_, rfl, A.p, C, A.dx, _, _, rfl, i.ins, vc.cl, vc.n1, vwF_sights _ _, A.l1, _, rfl, .inl i.sights, k⟩
theorem ok_vw_holds (T : Bt mg) (vc : VwC K C) {f : Addr} {fd : FuncData} (F : FunD K "holds" "View.holds" (defArgs s_View_holds) (defBody s_View_holds) (defScope s_View_holds) [] [] f fd) : FnOk P w K mg base CX0 1 f fd ["self"] (spVwHolds C) := by
  refine F.ok sc_View_holds (fun vs H Q E h => ?_) (fun cdv A0 outer s H vs Q E hr h => ?_)
  · obtain ⟨A, d, rfl, _⟩ := h
    rfl
  · refine ⟨_, PSs.nox (pss_one (ps_ret (pe_callTy call_list_of (by rfl) T.b_list (by decide +kernel) (pa_cons (pe_fld (pv 0) rfl) pa_nil)))), ?_⟩
    obtain ⟨A, d, rfl, i, k⟩ := h
    exact ⟨_, rfl, A.p, C, A.dx, _, _, rfl, i.ins, vc.cl, vc.n2, vwF_holds _ _, A.l2, _, rfl, .inl (SqL.of i.holds), k⟩
theorem ok_vw_len (T : Bt mg) (vc : VwC K C) {f : Addr} {fd : FuncData} (F : FunD K "__len__" "View.__len__" (defArgs s_View___len__) (defBody s_View___len__) (defScope s_View___len__) [] [] f fd) : FnOk P w K mg base CX0 1 f fd ["self"] (spVwLen C) := by
  refine F.ok sc_View___len__ (fun vs H Q E h => ?_) (fun cdv A0 outer s H vs Q E hr h => ?_)
  · obtain ⟨A, d, rfl, _⟩ := h
    rfl
  · refine ⟨_, PSs.nox (pss_one (ps_ret (pe_callB call_lenD (by rfl) T.b_len PySem.boot_len (pa_cons (pe_fld (pv 0) rfl) pa_nil)))), ?_⟩
    obtain ⟨A, d, rfl, i, k⟩ := h
    refine ⟨_, rfl, A.p, C, A.dx, _, _, rfl, i.ins, vc.cl, vc.n1, vwF_sights _ _, A.l1, _, rfl, i.sights, ?_⟩
    rw [sg_len]
    exact k
theorem ok_vw_in (T : Bt mg) (vc : VwC K C) (c_is_name : Cl P w K mg base 1 "is_name" (spIsName K) []) {f : Addr} {fd : FuncData} (F : FunD K "__contains__" "View.__contains__" (defArgs s_View___contains__) (defBody s_View___contains__) (defScope s_View___contains__) [] [] f fd) : FnOk P w K mg base CX0 2 f fd ["self", "x"] (spVwIn K C) := by
  refine F.ok sc_View___contains__ (fun vs H Q E h => ?_) (fun cdv A0 outer s H vs Q E hr h => ?_)
  · obtain ⟨A, d, x, rfl, _⟩ := h
    rfl
  · have hu := hu_of hr
    refine ⟨_, PSs.nox (pss_one (ps_ret (pe_and (pe_cl c_is_name hr (by decide) rfl (pa_cons (pv 1) pa_nil)) (pe_one (pe_cmp (pc_din hu (pv 1) (pe_fld (pv 0) rfl))))))), ?_⟩
    obtain ⟨A, d, x, rfl, i, ⟨z, rfl, lz, k⟩ | ⟨t, ty, kt, k⟩⟩ := h
    · refine ⟨_, rfl, .inl ⟨z, rfl, lz, ?_⟩⟩
      cases q : nmB z with
      | false =>
        rw [q] at k
        exact ⟨_, rfl, k⟩
      | true =>
        rw [q] at k
        refine ⟨_, rfl, _, rfl, _, rfl, A.p, C, A.dx, _, _, rfl, i.ins, vc.cl, vc.n1, vwF_sights _ _, A.l1, _, rfl, DGet.k (k := .inr z) i.sights, k⟩
    · exact ⟨_, rfl, .inr ⟨_, t, rfl, ty, kt, _, rfl, k⟩⟩
theorem ok_vw_item (T : Bt mg) (vc : VwC K C) (c_is_name : Cl P w K mg base 1 "is_name" (spIsName K) []) {f : Addr} {fd : FuncData} (F : FunD K "__getitem__" "View.__getitem__" (defArgs s_View___getitem__) (defBody s_View___getitem__) (defScope s_View___getitem__) [] [] f fd) : FnOk P w K mg base CX0 2 f fd ["self", "at"] (spVwItem C) := by
  refine F.ok sc_View___getitem__ (fun vs H Q E h => ?_) (fun cdv A0 outer s H vs Q E hr h => ?_)
  · obtain ⟨A, d, x, rfl, _⟩ := h
    rfl
  · have hu := hu_of hr
    refine ⟨_, PSs.nox (pss_cons (ps_if (pt_not (pt_val (pe_cl c_is_name hr (by decide) rfl (pa_cons (pv 1) pa_nil)))) (pss_one ps_never) pss_nil) (pss_one (ps_ret (pe_dget1 hu (pe_fld (pv 0) rfl) (pv 1) ⟨by rfl, by rfl, by rfl, by rfl⟩)))), ?_⟩
    obtain ⟨A, d, z, rfl, i, nz, k⟩ := h
    refine ⟨_, rfl, .inl ⟨z, rfl, nm_size nz, ?_⟩⟩
    rw [nmB_iff.2 nz]
    refine ⟨true, rfl, iteF ?_⟩
    exact ⟨_, rfl, A.p, C, A.dx, _, _, rfl, i.ins, vc.cl, vc.n1, vwF_sights _ _, A.l1, rfl, .inl ⟨_, .inl i.sights⟩, _, rfl, _, DGet.k (k := .inr z) i.sights, k⟩
theorem ok_vw_set (T : Bt mg) (vc : VwC K C) (c_is_name : Cl P w K mg base 1 "is_name" (spIsName K) []) {f : Addr} {fd : FuncData} (F : FunD K "__setitem__" "View.__setitem__" (defArgs s_View___setitem__) (defBody s_View___setitem__) (defScope s_View___setitem__) [] [] f fd) : FnOk P w K mg base CX0 2 f fd ["self", "at", "worth"] (spVwSet C) := by
  refine F.ok sc_View___setitem__ (fun vs H Q E h => ?_) (fun cdv A0 outer s H vs Q E hr h => ?_)
  · obtain ⟨A, d, x, v, rfl, _⟩ := h
    rfl
  · have hu := hu_of hr
    refine ⟨_, PSs.nox (pss_cons (ps_if (pt_not (pt_val (pe_cl c_is_name hr (by decide) rfl (pa_cons (pv 1) pa_nil)))) (pss_one ps_never) pss_nil) (pss_cons (ps_if (PW.pt (pw_and (pt_cmpR op_notN (pv 2) pe_non (nomark _)) (pw_and1 (pt_not (pt_val (pe_cl c_is_name hr (by decide) rfl (pa_cons (pv 2) pa_nil))))))) (pss_one ps_never) pss_nil) (pss_one (ps_if (pt_cmpR op_notN (pv 2) pe_non (nomark _)) (pss_one (ps_dput hu (pe_fld (pv 0) rfl) (pv 1) (pv 2) rfl)) (pss_one (ps_if (pt_cmp (pc_din hu (pv 1) (pe_fld (pv 0) rfl))) (pss_one (ps_ddel (pe_fld (pv 0) rfl) (pv 1))) pss_nil)))))), ?_⟩
    obtain ⟨A, d, z, v, rfl, i, nz, h⟩ := h
    have few : (sgV d.sights).length ≤ 100 := by rw [sg_len]; exact i.small.1
    refine ⟨_, rfl, .inl ⟨z, rfl, nm_size nz, ?_⟩⟩
    rw [nmB_iff.2 nz]
    refine ⟨true, rfl, iteF ?_⟩
    rcases h with ⟨y, rfl, ny, k⟩ | ⟨rfl, k1, k2⟩
    · refine ⟨_, rfl, rfl, _, rfl, iteT ?_⟩
      refine ⟨_, rfl, .inl ⟨y, rfl, nm_size ny, ?_⟩⟩
      rw [nmB_iff.2 ny]
      refine ⟨true, rfl, iteF ?_⟩
      refine ⟨_, rfl, rfl, _, rfl, iteT ?_⟩
      exact ⟨_, rfl, _, rfl, A.p, C, A.dx, _, _, rfl, i.ins, vc.cl, vc.n1, vwF_sights _ _, _, rfl, A.l1, _, rfl, DPut.k (k := .inr z) i.sights (small1000 (by omega)), k⟩
    · refine ⟨_, rfl, rfl, _, rfl, iteF ?_⟩
      refine ⟨_, rfl, rfl, _, rfl, iteF ?_⟩
      refine ⟨_, rfl, _, rfl, A.p, C, A.dx, _, _, rfl, i.ins, vc.cl, vc.n1, vwF_sights _ _, A.l1, _, rfl, DGet.k (k := .inr z) i.sights, _, rfl, ?_⟩
      cases q : valV (sgV d.sights) (.inr z : Key) with
      | none => exact iteF (k1 q)
      | some u => exact iteT ⟨_, rfl, A.p, C, A.dx, _, _, rfl, i.ins, vc.cl, vc.n1, vwF_sights _ _, _, rfl, A.l1, _, .inr z, rfl, i.sights, rfl, by rw [q]; rfl, k2 (by rw [q]; rfl)⟩
theorem ok_vw_hold (T : Bt mg) (vc : VwC K C) (c_check_words : Cl P w K mg base 2 "check_words" (spCheckWords K) []) {f : Addr} {fd : FuncData} (F : FunD K "hold_just" "View.hold_just" (defArgs s_View_hold_just) (defBody s_View_hold_just) (defScope s_View_hold_just) [] [] f fd) : FnOk P w K mg base CX0 3 f fd ["self", "words"] (spVwHold K C) := by
  refine F.ok sc_View_hold_just (fun vs H Q E h => ?_) (fun cdv A0 outer s H vs Q E hr h => ?_)
  · obtain ⟨A, d, b, hs, rfl, _⟩ := h
    rfl
  · refine ⟨_, PSs.nox (pss_cons (ps_expr (pe_cl c_check_words hr (by decide) rfl (pa_cons (pv 1) pa_nil))) (pss_one (ps_fld (pv 0) (pe_callB (cr_sortedX rfl) (by rfl) T.b_sorted (by decide +kernel) (pa_cons (pe_callTy (cr_setL rfl) (by rfl) T.b_set (by decide +kernel) (pa_cons (pv 1) pa_nil)) pa_nil)) rfl))), ?_⟩
    obtain ⟨A, d, b, hs, rfl, i, rb, okh, h60, k⟩ := h
    refine ⟨_, rfl, b, hs, rfl, rb, okh, fun H3 m3 => ?_⟩
    have i3 := i.same m3
    refine ⟨_, rfl, b, hs, rfl, (rb.same m3).sq, by unfold scanBound; omega, fun q c hq hc => ?_⟩
    refine ⟨q, _, c, rfl, upd_same, by omega, fun ys l2 asc mem len h2 => ?_⟩
    generalize SetX (cxOf CX0 P w K mg base ["self", "words"] "View.hold_just" (defScope s_View_hold_just) f cdv A0 outer s H E).nox.prog (cxOf CX0 P w K mg base ["self", "words"] "View.hold_just" (defScope s_View_hold_just) f cdv A0 outer s H E).nox.w q (fun x => decide (x ∈ hs)) c = so at h2 ⊢
    have n6 := same_new m3 hq (o := so)
    have f2 : H l2 = none := n6.free h2
    have n7 := same_new n6 h2 (o := .lst (ys.map V.str))
    have i7 := i.same n7
    have e7 : (L2.upd (L2.upd H3 q so) l2 (.lst (ys.map V.str))) l2 = some (.lst (ys.map V.str)) := upd_same
    generalize L2.upd (L2.upd H3 q so) l2 (.lst (ys.map V.str)) = H7 at n7 i7 e7 ⊢
    have z1 : A.p ≠ A.l1 := ne_of i7.ins i7.sights fun z => nomatch z
    have z2 : A.p ≠ l2 := ne_of i7.ins e7 fun z => nomatch z
    refine ⟨_, rfl, A.p, C, A.dx, _, rfl, i7.ins, vc.cl, vc.n2, Nat.lt_of_le_of_lt (Nat.le_trans (putF_len _ _ _) (Nat.succ_le_succ (putF_len _ _ _))) (by decide), ?_⟩
    refine k l2 ys _ f2 ((But.of n7).trans But.upd) ⟨?_, ?_, ?_, i.nd, i.ok, fun h hh => okh h (of_decide_eq_true ((mem h).1 hh)), asc, i.small.1, ?_⟩ fun x => (mem x).trans decide_eq_true_iff
    · show (L2.upd H7 A.p (.ins C A.dx (putF "hold_list" (.ref l2) (vwF A.l1 A.l2)))) A.p = some (.ins C A.dx (vwF A.l1 l2))
      rw [upd_same]
      rfl
    · rw [upd_ne z1.symm]; exact i7.sights
    · rw [upd_ne z2.symm]; exact e7
    · show ys.length ≤ 60
      omega
theorem ok_vw_copy (T : Bt mg) (vc : VwC K C) (k_View : Mr P w K mg base 3 "View" C (spView K C) []) {f : Addr} {fd : FuncData} (F : FunD K "copy" "View.copy" (defArgs s_View_copy) (defBody s_View_copy) (defScope s_View_copy) [] [] f fd) : FnOk P w K mg base CX0 5 f fd ["self"] (spVwCopy C) := by
  refine F.ok sc_View_copy (fun vs H Q E h => ?_) (fun cdv A0 outer s H vs Q E hr h => ?_)
  · obtain ⟨A, d, rfl, _⟩ := h
    rfl
  · refine ⟨_, PSs.nox (pss_one (ps_ret (pe_mr k_View hr (by decide) rfl (pa_cons (pe_fld (pv 0) rfl) (pa_cons (pe_fld (pv 0) rfl) pa_nil))))), ?_⟩
    obtain ⟨A, d, rfl, i, k⟩ := h
    refine ⟨_, rfl, A.p, C, A.dx, _, _, rfl, i.ins, vc.cl, vc.n1, vwF_sights _ _, _, rfl, A.p, C, A.dx, _, _, rfl, i.ins, vc.cl, vc.n2, vwF_holds _ _, fun x dx nx ndx nex => ?_⟩
    have mx : Same H (L2.upd (L2.upd H dx (.own x)) x (.ins C dx [])) := same_new (same_new (Same.refl _) ndx) (by rw [upd_ne nex.symm]; exact nx)
    refine ⟨x, dx, .ref A.l1, A.l2, d.sights, d.holds, rfl, upd_same, .inr ⟨_, rfl, mx _ _ i.sights⟩, i.nd, i.ok, i.small.1, .lst (mx _ _ i.holds), i.hk, i.small.2, fun B e H' eB edx fr bu iw es eh => ⟨rfl, ?_⟩⟩
    subst eB
    have ee : e = d := by
      obtain ⟨es', eh'⟩ := e
      obtain ⟨ds', dh'⟩ := d
      have h1 : es' = ds' := es
      have h2 : eh' = dh' := iw.asc.one i.asc eh
      rw [h1, h2]
    subst ee
    exact k B H' nx (fun l hl => mx.free (fr l hl)) (fun b o e => bu b o (mx b o e) (ne_of_none e nx)) iw
end
end Lw

namespace Lw
open PySem PySem.Spec PyProof.Rows L2 Txs
open C8 (pe_gc)
theorem inV_strs (n : PySem.Str) (ms : List PySem.Str) : inV (.str n) (ms.map V.str) = decide (n ∈ ms) := by
  unfold inV
  rw [List.any_map]
  by_cases h : n ∈ ms
  · rw [decide_eq_true h]
    exact List.any_eq_true.mpr ⟨n, h, by show (n == n) = true; simp⟩
  · rw [decide_eq_false h]
    refine List.any_eq_false.mpr fun m hm q => h ?_
    have q : (m == n) = true := q
    rw [← beq_iff_eq.mp q]; exact hm
theorem nd_add {α : Type} {l : List α} {x : α} (h : l.Nodup) (n : x ∉ l) : (l ++ [x]).Nodup :=
  List.nodup_append.mpr ⟨h, by simp, fun a ha b hb e => n (by rw [← List.mem_singleton.mp hb, ← e]; exact ha)⟩
def spLong : Sp := fun vs H Q _ => ∃ (a : Addr) (n : Nat), vs = [.ref a, .int (n : Int)] ∧ Stm H a ∧ 0 < n ∧ n ≤ 20 ∧
  ∀ p (ws : List PySem.Str) H', H p = none → But a H H' → Stm H' a → H' p = some (.lst (ws.map V.str)) → 0 < ws.length → ws.length ≤ n → ws.Nodup → (∀ w ∈ ws, Nm w) → Q (.ref p) H'
section
variable {P : Program} {w : World} {K : PySem.W.Frag} {mg : PySem.Str → Option Value} {base : Heap}
end
end Lw

namespace Lw
open PySem PySem.Spec PyProof.Rows L2 Txs
open C8 (pe_gc)
/-! ### tables of texts that are changed; views in a changed heap -/
/-- x sees y, too: in its place, or at the end -/
def setS (es : List (PySem.Str × PySem.Str)) (x y : PySem.Str) : List (PySem.Str × PySem.Str) :=
  if (es.any fun e => decide (e.1 = x)) = true then es.map (fun e => if e.1 = x then (e.1, y) else e) else es ++ [(x, y)]
theorem sg_set (es : List (PySem.Str × PySem.Str)) (x y : PySem.Str) : sgV (setS es x y) = putK (sgV es) (.inr x) (.str y) := by
  have ea : ((sgV es).any fun kv => decide (kv.1 = .inr x)) = es.any fun e => decide (e.1 = x) := by
    unfold sgV
    rw [List.any_map]
    congr 1
    funext e
    show decide ((.inr e.1 : Key) = .inr x) = decide (e.1 = x)
    simp only [inr_eq]
  unfold setS putK
  rw [ea]
  split
  · unfold sgV
    rw [List.map_map, List.map_map]
    refine List.map_congr_left fun e _ => ?_
    show ((.inr (if e.1 = x then (e.1, y) else e).1 : Key), V.str (if e.1 = x then (e.1, y) else e).2) = if (.inr e.1 : Key) = .inr x then ((.inr e.1 : Key), V.str y) else ((.inr e.1 : Key), V.str e.2)
    by_cases q : e.1 = x
    · rw [if_pos q, if_pos (by rw [q])]
    · rw [if_neg q, if_neg (by rw [inr_eq]; exact q)]
  · unfold sgV
    rw [List.map_append]
    rfl
theorem set_keys (es : List (PySem.Str × PySem.Str)) (x y : PySem.Str) (nd : (es.map (·.1)).Nodup) : ((setS es x y).map (·.1)).Nodup := by
  unfold setS
  split
  · rw [List.map_map]
    have : ((·.1) ∘ fun e : PySem.Str × PySem.Str => if e.1 = x then (e.1, y) else e) = (·.1) := by
      funext e
      show (if e.1 = x then (e.1, y) else e).1 = e.1
      split <;> rfl
    rw [this]
    exact nd
  · rename_i h
    rw [List.map_append]
    refine nd_add nd fun m => h ?_
    obtain ⟨e, he, q⟩ := List.mem_map.mp m
    exact List.any_eq_true.mpr ⟨e, he, decide_eq_true q⟩
theorem set_mem {es : List (PySem.Str × PySem.Str)} {x y : PySem.Str} {e : PySem.Str × PySem.Str} (h : e ∈ setS es x y) : e ∈ es ∨ e = (x, y) := by
  unfold setS at h
  split at h
  · obtain ⟨g, hg, rfl⟩ := List.mem_map.mp h
    by_cases q : g.1 = x
    · rw [if_pos q]
      exact .inr (by rw [q])
    · rw [if_neg q]
      exact .inl hg
  · rcases List.mem_append.mp h with q | q
    · exact .inl q
    · exact .inr (List.mem_singleton.mp q)
theorem set_len (es : List (PySem.Str × PySem.Str)) (x y : PySem.Str) : (setS es x y).length ≤ es.length + 1 := by
  unfold setS
  split
  · rw [List.length_map]; omega
  · rw [List.length_append]; exact Nat.le_refl _
theorem IsVw.put {C : Addr} {H : Hp} {A : VwAt} {d : Vw} {q : Addr} {o : HO} (h : IsVw C H A d) (n1 : A.p ≠ q) (n2 : A.l1 ≠ q) (n3 : A.l2 ≠ q) : IsVw C (L2.upd H q o) A d :=
  ⟨by rw [upd_ne n1]; exact h.ins, by rw [upd_ne n2]; exact h.sights, by rw [upd_ne n3]; exact h.holds, h.nd, h.ok, h.hk, h.asc, h.small⟩
theorem IsVw.but {C : Addr} {H H' : Hp} {A : VwAt} {d : Vw} {q : Addr} (h : IsVw C H A d) (k : But q H H') (n1 : A.p ≠ q) (n2 : A.l1 ≠ q) (n3 : A.l2 ≠ q) : IsVw C H' A d :=
  ⟨k _ _ h.ins n1, k _ _ h.sights n2, k _ _ h.holds n3, h.nd, h.ok, h.hk, h.asc, h.small⟩
theorem vwF_no {l1 l2 : Addr} {m : PySem.Str} (h1 : ("hold_list" : PySem.Str) ≠ m := by decide +kernel) (h2 : ("sight_table" : PySem.Str) ≠ m := by decide +kernel) : (vwF l1 l2).lookup m = none := by
  unfold vwF
  rw [lookup_putF, if_neg (fun e => h1 e.symm), lookup_putF, if_neg (fun e => h2 e.symm)]
  rfl
theorem pairs_perm {fs es : List (PySem.Str × PySem.Str)} {ss : List PySem.Str} (hs : ss.Perm (es.map (·.1))) (nd : (es.map (·.1)).Nodup) (hk : fs.map (·.1) = ss) (hm : ∀ e ∈ fs, e ∈ es) : fs.Perm es := by
  have ndk : (fs.map (·.1)).Nodup := by rw [hk]; exact hs.nodup_iff.2 nd
  have nf : ∀ {l : List (PySem.Str × PySem.Str)}, (l.map (·.1)).Nodup → l.Nodup := fun h => List.Pairwise.of_map (·.1) (fun a b n e => n (by rw [e])) h
  refine (List.perm_ext_iff_of_nodup (nf ndk) (nf nd)).2 fun e => ⟨hm e, fun he => ?_⟩
  have : e.1 ∈ fs.map (·.1) := by rw [hk]; exact hs.mem_iff.2 (List.mem_map.mpr ⟨e, he, rfl⟩)
  obtain ⟨g, hg, q⟩ := List.mem_map.mp this
  have e1 := sg_in nd (x := e.1) (y := e.2) he
  have e2 := sg_in nd (x := g.1) (y := g.2) (hm g hg)
  rw [q, e1] at e2
  have : e.2 = g.2 := by injection (Option.some.inj e2)
  have : g = e := Prod.ext q this.symm
  rw [← this]
  exact hg
theorem last_of {ws : List PySem.Str} (h : 0 < ws.length) : ∃ z, z ∈ ws ∧ atI (ws.map V.str) (-1) = some (V.str z) := by
  obtain ⟨ys, z, e⟩ : ∃ ys z, ws = ys ++ [z] := by
    rcases List.eq_nil_or_concat ws with q | ⟨ys, z, q⟩
    · rw [q] at h; exact absurd h (by simp)
    · exact ⟨ys, z, by rw [q]; simp⟩
  refine ⟨z, by rw [e]; simp, ?_⟩
  rw [e, List.map_append]
  exact atI_last _ _
theorem cut_take (xs : List V) (k : Nat) : cutV xs none (some (k : Int)) = xs.take k := by
  unfold cutV
  rw [HT.sIx_none, HT.sIx_nat, List.drop_zero, Nat.sub_zero]
  by_cases h : k ≤ xs.length
  · rw [Nat.min_eq_left h]
  · rw [Nat.min_eq_right (by omega), List.take_of_length_le (Nat.le_refl _), List.take_of_length_le (by omega)]
theorem cut_mid (xs : List V) (j k : Nat) (h : k ≤ xs.length) (hj : j ≤ k) : cutV xs (some (j : Int)) (some (k : Int)) = (xs.drop j).take (k - j) := by
  unfold cutV
  rw [HT.sIx_nat, HT.sIx_nat, Nat.min_eq_left h, Nat.min_eq_left (Nat.le_trans hj h)]
end Lw

namespace Lw
open PySem PySem.Spec PyProof.Rows L2 Txs
open C8 (pe_gc)
theorem opNotInX (P : Program) (w : World) {X : Cx} (hp : X.prog = P := by rfl) (hw : X.w = w := by rfl) : OpR X (compareOp .NotIn) (rInX P w true) := by
  subst hp hw
  exact op_notInX
/-! ### tables put together, tables without some words -/
def mrg (es fs : List (PySem.Str × PySem.Str)) : List (PySem.Str × PySem.Str) := fs.foldl (fun acc e => setS acc e.1 e.2) es
theorem mrg_cons (es fs : List (PySem.Str × PySem.Str)) (e : PySem.Str × PySem.Str) : mrg es (e :: fs) = mrg (setS es e.1 e.2) fs := rfl
theorem sg_mrg : ∀ (fs es : List (PySem.Str × PySem.Str)), sgV (mrg es fs) = mergeK (sgV es) (sgV fs)
  | [], _ => rfl
  | e :: fs, es => by
    rw [mrg_cons, sg_mrg fs (setS es e.1 e.2), sg_set]
    rfl
theorem sg_none {es : List (PySem.Str × PySem.Str)} {x : PySem.Str} (h : x ∉ es.map (·.1)) : valV (sgV es) (.inr x) = none := by
  cases q : valV (sgV es) (.inr x) with
  | none => rfl
  | some u =>
    obtain ⟨y, _, m⟩ := sg_some q
    exact absurd (List.mem_map.mpr ⟨_, m, rfl⟩) h
theorem set_lk (es : List (PySem.Str × PySem.Str)) (x y z : PySem.Str) : valV (sgV (setS es x y)) (.inr z) = if z = x then some (.str y) else valV (sgV es) (.inr z) := by
  rw [sg_set, valV_put]
  by_cases q : z = x
  · rw [if_pos q, if_pos (by rw [q])]
  · rw [if_neg q, if_neg (by rw [inr_eq]; exact q)]
theorem mrg_lk : ∀ (fs es : List (PySem.Str × PySem.Str)), (fs.map (·.1)).Nodup → ∀ z, valV (sgV (mrg es fs)) (.inr z) = (valV (sgV fs) (.inr z)).or (valV (sgV es) (.inr z))
  | [], _, _, _ => rfl
  | e :: fs, es, nd, z => by
    simp only [List.map_cons, List.nodup_cons] at nd
    rw [mrg_cons, mrg_lk fs _ nd.2, set_lk]
    show _ = (valV (((.inr e.1 : Key), V.str e.2) :: sgV fs) (.inr z)).or _
    by_cases q : z = e.1
    · rw [if_pos q, valV_pos (by rw [q]), q, sg_none nd.1]
      rfl
    · rw [if_neg q, valV_neg (by rw [inr_eq]; exact fun w => q w.symm)]
theorem mrg_nd : ∀ (fs es : List (PySem.Str × PySem.Str)), (es.map (·.1)).Nodup → ((mrg es fs).map (·.1)).Nodup
  | [], _, h => h
  | e :: fs, es, h => mrg_nd fs _ (set_keys es e.1 e.2 h)
theorem mrg_len : ∀ (fs es : List (PySem.Str × PySem.Str)), (mrg es fs).length ≤ es.length + fs.length
  | [], es => Nat.le_refl _
  | e :: fs, es => by
    have h1 := mrg_len fs (setS es e.1 e.2)
    have h2 := set_len es e.1 e.2
    rw [mrg_cons, List.length_cons]
    omega
theorem mrg_mem : ∀ {fs es : List (PySem.Str × PySem.Str)} {p : PySem.Str × PySem.Str}, p ∈ mrg es fs → p ∈ es ∨ p ∈ fs
  | [], _, _, h => .inl h
  | e :: fs, es, p, h => by
    rcases mrg_mem (fs := fs) (es := setS es e.1 e.2) h with h | h
    · rcases set_mem h with h | h
      · exact .inl h
      · exact .inr (by rw [h]; exact List.mem_cons_self)
    · exact .inr (List.mem_cons_of_mem _ h)
theorem set_new {es : List (PySem.Str × PySem.Str)} {x y : PySem.Str} (h : x ∉ es.map (·.1)) : setS es x y = es ++ [(x, y)] := by
  unfold setS
  rw [if_neg]
  intro q
  obtain ⟨e, he, q⟩ := List.any_eq_true.mp q
  exact h (List.mem_map.mpr ⟨e, he, of_decide_eq_true q⟩)
theorem mrg_app : ∀ (fs es : List (PySem.Str × PySem.Str)), ((es ++ fs).map (·.1)).Nodup → mrg es fs = es ++ fs
  | [], es, _ => by rw [List.append_nil]; rfl
  | e :: fs, es, nd => by
    have n1 : e.1 ∉ es.map (·.1) := fun m => by
      rw [List.map_append, List.map_cons, List.nodup_append] at nd
      exact nd.2.2 e.1 m e.1 List.mem_cons_self rfl
    rw [mrg_cons, set_new n1, mrg_app fs (es ++ [(e.1, e.2)]) (by simpa using nd)]
    simp
theorem mrg_nil {es : List (PySem.Str × PySem.Str)} (nd : (es.map (·.1)).Nodup) : mrg [] es = es := mrg_app es [] nd
theorem nd_pairs {es : List (PySem.Str × PySem.Str)} (nd : (es.map (·.1)).Nodup) : es.Nodup := by
  induction es with
  | nil => exact List.nodup_nil
  | cons e es ih =>
    simp only [List.map_cons, List.nodup_cons] at nd
    exact List.nodup_cons.mpr ⟨fun m => nd.1 (List.mem_map.mpr ⟨e, m, rfl⟩), ih nd.2⟩
theorem sg_iff {es : List (PySem.Str × PySem.Str)} (nd : (es.map (·.1)).Nodup) (e : PySem.Str × PySem.Str) : e ∈ es ↔ valV (sgV es) (.inr e.1) = some (.str e.2) := by
  refine ⟨fun h => sg_in nd h, fun h => ?_⟩
  obtain ⟨y, q, m⟩ := sg_some h
  have : e.2 = y := by injection q
  have : e = (e.1, y) := by rw [← this]
  rw [this]; exact m
/-- the same table in another order -/
theorem tb_perm {es fs : List (PySem.Str × PySem.Str)} (n1 : (es.map (·.1)).Nodup) (n2 : (fs.map (·.1)).Nodup) (h : ∀ z, valV (sgV es) (.inr z) = valV (sgV fs) (.inr z)) : es.Perm fs :=
  (List.perm_ext_iff_of_nodup (nd_pairs n1) (nd_pairs n2)).mpr fun e => by rw [sg_iff n1, sg_iff n2, h]
def wout (es : List (PySem.Str × PySem.Str)) (hs : List PySem.Str) : List (PySem.Str × PySem.Str) := es.filter fun e => !decide (e.1 ∈ hs)
theorem wout_nd {es : List (PySem.Str × PySem.Str)} {hs : List PySem.Str} (nd : (es.map (·.1)).Nodup) : ((wout es hs).map (·.1)).Nodup := nd.sublist ((List.filter_sublist).map _)
theorem wout_mem {es : List (PySem.Str × PySem.Str)} {hs : List PySem.Str} {e : PySem.Str × PySem.Str} (h : e ∈ wout es hs) : e ∈ es := (List.mem_filter.mp h).1
theorem wout_len (es : List (PySem.Str × PySem.Str)) (hs : List PySem.Str) : (wout es hs).length ≤ es.length := List.length_filter_le _ _
theorem wout_take {es : List (PySem.Str × PySem.Str)} {hs : List PySem.Str} {i : Nat} {e : PySem.Str × PySem.Str} (h : es[i]? = some e) : wout (es.take (i + 1)) hs = if e.1 ∈ hs then wout (es.take i) hs else wout (es.take i) hs ++ [e] := by
  rw [List.take_add_one, h]
  unfold wout
  rw [List.filter_append]
  by_cases q : e.1 ∈ hs
  · rw [if_pos q]
    simp [q]
  · rw [if_neg q]
    simp [q]
theorem wout_new {es : List (PySem.Str × PySem.Str)} {hs : List PySem.Str} {i : Nat} {e : PySem.Str × PySem.Str} (nd : (es.map (·.1)).Nodup) (h : es[i]? = some e) : e.1 ∉ (wout (es.take i) hs).map (·.1) := by
  intro m
  obtain ⟨g, hg, q⟩ := List.mem_map.mp m
  have hg := wout_mem hg
  obtain ⟨j, hj, hj2⟩ := List.mem_iff_getElem.mp hg
  have jl : j < i := by rw [List.length_take] at hj; omega
  have il := (List.getElem?_eq_some_iff.mp h).1
  rw [List.getElem_take] at hj2
  have e1 : (es.map (·.1))[j]? = some e.1 := by rw [List.getElem?_map, List.getElem?_eq_getElem (by omega), Option.map_some, hj2, q]
  have e2 : (es.map (·.1))[i]? = some e.1 := by rw [List.getElem?_map, h]; rfl
  have := (List.getElem?_inj (by rw [List.length_map]; omega) nd).mp (e1.trans e2.symm)
  omega
end Lw

namespace Lw
open PySem PySem.Spec PyProof.Rows L2 Txs
open C8 (pe_gc)
/-! ### sights_without; a view whose table is another one -/
abbrev Tbl := List (PySem.Str × PySem.Str)
def spWithout (K : PySem.W.Frag) : Sp := fun vs H Q _ => ∃ (a b : Addr) (es : List (PySem.Str × PySem.Str)) (hs : List PySem.Str), vs = [.ref a, .ref b] ∧ H a = some (.dK (sgV es)) ∧ (es.map (·.1)).Nodup ∧ es.length ≤ 100 ∧ RowAt K H b (hs.map V.str) ∧ hs.length ≤ 60 ∧
  ∀ p H', H p = none → Same H H' → H' p = some (.dK (sgV (wout es hs))) → Q (.ref p) H'
theorem mrg_ok {es fs : Tbl} (h1 : ∀ e ∈ es, Nm e.1 ∧ Nm e.2) (h2 : ∀ e ∈ fs, Nm e.1 ∧ Nm e.2) : ∀ e ∈ mrg es fs, Nm e.1 ∧ Nm e.2 := fun e he => (mrg_mem he).elim (h1 e) (h2 e)
section
variable {P : Program} {w : World} {K : PySem.W.Frag} {mg : PySem.Str → Option Value} {base : Heap} {C : Addr}
theorem ok_without (T : Bt mg) {f : Addr} {fd : FuncData} (F : FunD K "sights_without" "sights_without" (defArgs s_sights_without) (defBody s_sights_without) (defScope s_sights_without) [] [] f fd) : FnOk P w K mg base CX0 1 f fd ["sights", "words"] (spWithout K) := by
  refine F.ok sc_sights_without (fun vs H Q E h => ?_) (fun cdv A0 outer s0 H vs Q E hr h => ?_)
  · obtain ⟨a, b, es, hs, rfl, _⟩ := h
    rfl
  · have hu := hu_of hr
    obtain ⟨a, b, es, hs, rfl, ha, nd, e100, rb, h60, k⟩ := h
    refine ⟨_, PSs.nox (pss_cons (ps_set (i := 2) sc_sights_without.nd rfl (Or.inr rfl) (pe_callTy (cr_setL rfl) (by rfl) T.b_set (by decide +kernel) (pa_cons (pv 1) pa_nil))) (pss_one (ps_ret (pe_lock (pe_dc (own := [("word", 3)]) rfl sc_sights_without.nd (pi_keys (pv 0)) (blkOk_by (N := N_sights_without) (sc := defScope s_sights_without) (by decide +kernel)) (fun _ _ _ _ _ => (pg_name (i := 3) sc_sights_without.nd rfl (Or.inl rfl))) (fun _ _ _ _ _ => (pts_one (pt_cmpR (opNotInX P w) (pv 3) (pv 2) (by rfl)))) (fun _ _ _ _ _ => (pv 3)) (fun _ _ _ _ _ => (pe_dget hu (pv 0) (pv 3) (fun _ _ => rfl)))))))), ?_⟩
    refine ⟨_, rfl, b, hs, rfl, rb.sq, by unfold scanBound; omega, fun q c hq hc => ?_⟩
    generalize hso : SetX (cxOf CX0 P w K mg base ["sights", "words", "gone", "word"] "sights_without" (defScope s_sights_without) f cdv A0 outer s0 H E).nox.prog (cxOf CX0 P w K mg base ["sights", "words", "gone", "word"] "sights_without" (defScope s_sights_without) f cdv A0 outer s0 H E).nox.w q (fun x => decide (x ∈ hs)) c = so
    have m1 := same_new (Same.refl H) hq (o := so)
    have q1 : (L2.upd H q so) q = some so := upd_same
    have a1 := m1 _ _ ha
    generalize L2.upd H q so = H1 at m1 q1 a1 ⊢
    have naq : a ≠ q := ne_of_none ha hq
    refine ⟨a, _, a1, trivial, fun od => ⟨_, rfl, a, od, rfl, .inl ⟨_, upd_same, ?_⟩⟩⟩
    refine dc_keys (fun D i H' => H' a = some (.frz od (.dK (sgV es))) ∧ But a (L2.upd H1 a (.frz od (.dK (sgV es)))) H' ∧ H' D = some (.dK (sgV (wout (es.take i) hs)))) ?_ ?_ ?_ ?_
    · intro D hD
      have nD : a ≠ D := fun e => by rw [← e, upd_same] at hD; cases hD
      exact ⟨by rw [upd_ne nD]; exact upd_same, But.of (same_new (Same.refl _) hD), upd_same⟩
    · exact fun D i H' _ _ h => h.1
    · rintro D i k v H' hD hi ⟨ea, b, eD⟩
      obtain ⟨e, he, ek⟩ : ∃ e, es[i]? = some e ∧ ((.inr e.1 : Key), V.str e.2) = (k, v) := by
        unfold sgV at hi
        rw [List.getElem?_map] at hi
        exact Option.map_eq_some_iff.mp hi
      cases ek
      have il := (List.getElem?_eq_some_iff.mp he).1
      have nD : a ≠ D := fun e => by rw [← e, upd_same] at hD; cases hD
      have q2 : H' q = some so := b _ _ (by rw [upd_ne naq.symm]; exact q1) naq.symm
      have lk := sg_in nd (x := e.1) (y := e.2) (List.mem_of_getElem? he)
      refine ⟨rfl, _, rfl, _, rfl, e.1, q, (fun x => decide (x ∈ hs)), c, rfl, rfl, by rw [q2, ← hso]; rfl, ?_⟩
      refine ⟨_, rfl, ite2 (fun m => ?_) (fun m => ?_)⟩
      · have m : e.1 ∉ hs := by simpa using m
        have fresh := wout_new (hs := hs) nd he
        refine ⟨_, rfl, _, rfl, _, rfl, a, .str e.2, rfl, .inl ⟨_, .inr e.1, .inr ⟨od, ea⟩, rfl, lk.symm⟩, sgV (wout (es.take i) hs), .inr e.1, rfl, eD, small1000 (by rw [sg_len]; exact Nat.le_trans (wout_len _ _) (by rw [List.length_take]; omega)), ?_, ?_, ?_⟩
        · rw [upd_ne nD]; exact ea
        · exact b.put hD
        · rw [upd_same, wout_take he, if_neg m, ← sg_set, set_new fresh]
      · have m : e.1 ∈ hs := by simpa using m
        exact ⟨ea, b, by rw [wout_take he, if_pos m]; exact eD⟩
    · rintro D H' hD ⟨ea, b, eD⟩
      rw [sg_len, List.take_length] at eD
      have nD : a ≠ D := fun e => by rw [← e, upd_same] at hD; cases hD
      refine ⟨ea, k D _ ?_ ((m1.trans (same_unlock a1 b))) (by rw [upd_ne nD.symm]; exact eD)⟩
      refine m1.free ?_
      rw [upd_ne nD.symm] at hD
      exact hD
/-- the view's table is another one -/
theorem new_table {A : VwAt} {d : Vw} {H H1 : Hp} {l : Addr} {es : Tbl} (i : IsVw C H1 A d) (el : H1 l = some (.dK (sgV es))) (nd : (es.map (·.1)).Nodup) (ok : ∀ e ∈ es, Nm e.1 ∧ Nm e.2) (few : es.length ≤ 100) :
    IsVw C (L2.upd H1 A.p (.ins C A.dx (putF "sight_table" (.ref l) (vwF A.l1 A.l2)))) ⟨A.p, A.dx, l, A.l2⟩ ⟨es, d.holds⟩ := by
  have z1 : A.p ≠ l := ne_of i.ins el fun z => nomatch z
  have z2 : A.p ≠ A.l2 := ne_of i.ins i.holds fun z => nomatch z
  refine ⟨?_, ?_, ?_, nd, ok, i.hk, i.asc, few, i.small.2⟩
  · show (L2.upd H1 A.p (.ins C A.dx (putF "sight_table" (.ref l) (vwF A.l1 A.l2)))) A.p = some (.ins C A.dx (vwF l A.l2))
    rw [upd_same]
    rfl
  · rw [upd_ne z1.symm]; exact el
  · rw [upd_ne z2.symm]; exact i.holds
end
end Lw

namespace Lw
open PySem PySem.Spec PyProof.Rows L2 Txs
open C8 (pe_gc)
/-! ### each word seen as itself -/
def Selfs (es : List (PySem.Str × PySem.Str)) (ws : List PySem.Str) : Prop := (es.map (·.1)).Nodup ∧ (∀ e ∈ es, e.2 = e.1 ∧ e.1 ∈ ws) ∧ ∀ x ∈ ws, (x, x) ∈ es
theorem sx_has (es : List (PySem.Str × PySem.Str)) (x y : PySem.Str) : (x, y) ∈ setS es x y := by
  unfold setS
  split
  · rename_i h
    obtain ⟨e, he, q⟩ := List.any_eq_true.mp h
    exact List.mem_map.mpr ⟨e, he, by rw [if_pos (of_decide_eq_true q), of_decide_eq_true q]⟩
  · simp
theorem sx_keep {es : List (PySem.Str × PySem.Str)} {x y : PySem.Str} {e : PySem.Str × PySem.Str} (h : e ∈ es) (n : e.1 ≠ x) : e ∈ setS es x y := by
  unfold setS
  split
  · exact List.mem_map.mpr ⟨e, h, by rw [if_neg n]⟩
  · exact List.mem_append.mpr (.inl h)
theorem Selfs.nil : Selfs [] [] := ⟨List.nodup_nil, fun e h => absurd h List.not_mem_nil, fun x h => absurd h List.not_mem_nil⟩
theorem Selfs.set {es : List (PySem.Str × PySem.Str)} {ws : List PySem.Str} (h : Selfs es ws) (z : PySem.Str) : Selfs (setS es z z) (ws ++ [z]) := by
  refine ⟨set_keys _ _ _ h.1, fun e he => ?_, fun x hx => ?_⟩
  · rcases set_mem he with q | q
    · exact ⟨(h.2.1 e q).1, List.mem_append.mpr (.inl (h.2.1 e q).2)⟩
    · rw [q]; exact ⟨rfl, by simp⟩
  · by_cases q : x = z
    · rw [q]; exact sx_has _ _ _
    · rcases List.mem_append.mp hx with m | m
      · exact sx_keep (h.2.2 x m) q
      · exact absurd (List.mem_singleton.mp m) q
theorem selfs_mem {es : List (PySem.Str × PySem.Str)} {ws : List PySem.Str} (h : Selfs es ws) (e : PySem.Str × PySem.Str) : e ∈ es ↔ e.2 = e.1 ∧ e.1 ∈ ws := by
  refine ⟨h.2.1 e, fun ⟨h1, h2⟩ => ?_⟩
  have := h.2.2 _ h2
  obtain ⟨x, y⟩ := e
  have h1 : y = x := h1
  rw [h1]
  exact this
theorem selfs_perm {es fs : List (PySem.Str × PySem.Str)} {ws : List PySem.Str} (h : Selfs es ws) (g : Selfs fs ws) : es.Perm fs :=
  (List.perm_ext_iff_of_nodup (nd_pairs h.1) (nd_pairs g.1)).mpr fun e => (selfs_mem h e).trans (selfs_mem g e).symm
def spSeeing8 (K : PySem.W.Frag) (C : Addr) : Sp := fun vs H Q _ => ∃ (b c : Addr) (ws hs : List PySem.Str), vs = [.ref b, .ref c] ∧ H b = some (.lst (ws.map V.str)) ∧ (∀ x ∈ ws, Nm x) ∧ ws.length ≤ 60 ∧ RowAt K H c (hs.map V.str) ∧ (∀ x ∈ hs, Nm x) ∧ hs.length ≤ 60 ∧
  ∀ (B : VwAt) (e : Vw) H', H B.p = none → (∀ l ∈ B.lists, H l = none) → Same H H' → IsVw C H' B e → Selfs e.sights ws → e.sights.length ≤ ws.length → (∀ x, x ∈ e.holds ↔ x ∈ hs) → Q (.ref B.p) H'
section
variable {P : Program} {w : World} {K : PySem.W.Frag} {mg : PySem.Str → Option Value} {base : Heap} {C : Addr}
theorem ok_seeing8 (T : Bt mg) (c_check_words : Cl P w K mg base 2 "check_words" (spCheckWords K) []) (k_View : Mr P w K mg base 3 "View" C (spView K C) []) {f : Addr} {fd : FuncData} {dvs : List V} (F : FunD K "seeing" "seeing" (defArgs s_seeing) (defBody s_seeing) (defScope s_seeing) dvs [] f fd) : FnOk P w K mg base CX0 5 f fd ["words", "holds"] (spSeeing8 K C) := by
  refine F.ok sc_seeing (fun vs H Q E h => ?_) (fun cdv A0 outer s H vs Q E hr h => ?_)
  · obtain ⟨b, c, ws, hs, rfl, _⟩ := h
    rfl
  · obtain ⟨b, c, ws, hs, rfl, hb, okw, w60, rc, okh, h60, k⟩ := h
    refine ⟨_, PSs.nox (pss_cons (ps_expr (pe_cl c_check_words hr (by decide) rfl (pa_cons (pv 0) pa_nil))) (pss_one (ps_ret (pe_mr k_View hr (by decide) rfl (pa_cons (pe_dc (own := [("word", 2)]) (tt := tYes) rfl sc_seeing.nd (pi_seq (pv 0)) (blkOk_by (N := N_seeing) (sc := defScope s_seeing) (by decide +kernel)) (fun _ _ _ _ _ => (pg_name (i := 2) sc_seeing.nd rfl (Or.inl rfl))) (fun _ _ _ _ _ => pts_nil) (fun _ _ _ _ _ => (pv 2)) (fun _ _ _ _ _ => (pv 2))) (pa_cons (pv 1) pa_nil)))))), ?_⟩
    refine ⟨_, rfl, b, ws, rfl, .lst hb, okw, fun H1 m1 => ?_⟩
    refine ⟨_, rfl, b, rfl, dc_seq (K := K) (xs := ws.map V.str) (RowAt.lst hb).sq (fun o e => m1 _ _ e) (fun D j H' => ∃ es : List (PySem.Str × PySem.Str), Same H1 H' ∧ H' D = some (.dK (sgV es)) ∧ Selfs es (ws.take j) ∧ es.length ≤ j) ?_ ?_ ?_ ?_⟩
    · exact fun D hD => ⟨[], same_new (Same.refl _) hD, upd_same, .nil, Nat.le_refl _⟩
    · exact fun D j H' hD _ ⟨_, sm, _⟩ o e => sm _ _ (m1 _ _ e)
    · rintro D j x H2 hD hx ⟨es, sm, hes, slf, le⟩
      obtain ⟨z, hz, rfl⟩ : ∃ z, ws[j]? = some z ∧ x = V.str z := by
        rw [List.getElem?_map] at hx
        cases q : ws[j]? with
        | none => rw [q] at hx; cases hx
        | some u => rw [q] at hx; exact ⟨u, rfl, (Option.some.inj hx).symm⟩
      have jl : j < ws.length := (List.getElem?_eq_some_iff.mp hz).1
      refine ⟨rfl, _, rfl, _, rfl, sgV es, .inr z, rfl, hes, small1000 (by rw [sg_len]; omega), ?_⟩
      rw [← sg_set]
      exact ⟨setS es z z, same_put sm hD, upd_same, by rw [take_at hz]; exact slf.set z, Nat.le_trans (set_len _ _ _) (by omega)⟩
    rintro D H2 hD ⟨es, sm, hes, slf, le⟩
    rw [List.length_map] at slf le
    rw [List.take_length] at slf
    have m2 := m1.trans sm
    refine ⟨_, rfl, fun x dx nx ndx nex => ?_⟩
    have mx : Same H2 (L2.upd (L2.upd H2 dx (.own x)) x (.ins C dx [])) := same_new (same_new (Same.refl _) ndx) (by rw [upd_ne nex.symm]; exact nx)
    have okes : ∀ e ∈ es, Nm e.1 ∧ Nm e.2 := fun e he => by
      obtain ⟨h1, h2⟩ := slf.2.1 e he
      rw [h1]
      exact ⟨okw _ h2, okw _ h2⟩
    refine ⟨x, dx, .ref D, c, es, hs, rfl, upd_same, .inr ⟨D, rfl, mx _ _ hes⟩, slf.1, okes, by omega, (rc.same m2).same mx, okh, h60, fun B e H' eB edx fr bu iv es' eh => ⟨rfl, ?_⟩⟩
    subst eB
    exact k B e H' (m2.free nx) (fun l hl => m2.free (mx.free (fr l hl))) (m2.trans fun b o e => bu b o (mx b o e) (ne_of_none e nx)) iv (by rw [es']; exact slf) (by rw [es']; exact le) eh
end
end Lw

namespace Lw
open PySem PySem.Spec PyProof.Rows L2 Txs
open C8 (pe_gc)
/-! ### == of views, be it True or False; |= and -= with good arguments -/
theorem sg_strV (es : Tbl) : ∀ p ∈ sgV es, strV p.2 := fun p hp => by
  obtain ⟨e, _, rfl⟩ := List.mem_map.mp hp
  exact ⟨_, rfl⟩
theorem sg_nd {es : Tbl} (nd : (es.map (·.1)).Nodup) : ((sgV es).map (·.1)).Nodup := by
  rw [sg_keys]
  exact List.Pairwise.map _ (fun a b n e => n (by injection e)) nd
/-- the answer is the same for the same tables in another order -/
theorem eqK_perm {es fs es' fs' : Tbl} (n2 : (fs.map (·.1)).Nodup) (p1 : es.Perm es') (p2 : fs.Perm fs') : eqK (sgV es) (sgV fs) = eqK (sgV es') (sgV fs') := by
  unfold eqK
  rw [sg_len, sg_len, sg_len, sg_len, p1.length_eq, p2.length_eq]
  congr 1
  rw [Bool.eq_iff_iff, List.all_eq_true, List.all_eq_true]
  have pm : ∀ p, p ∈ sgV es ↔ p ∈ sgV es' := fun p => (p1.map _).mem_iff
  refine ⟨fun h p hp => ?_, fun h p hp => ?_⟩
  · have := h p ((pm p).2 hp)
    obtain ⟨e, he, rfl⟩ := List.mem_map.mp hp
    have this : decide (valV (sgV fs) (.inr e.1) = some (V.str e.2)) = true := this
    show decide (valV (sgV fs') (.inr e.1) = some (V.str e.2)) = true
    rw [← sg_perm p2 n2]; exact this
  · have := h p ((pm p).1 hp)
    obtain ⟨e, he, rfl⟩ := List.mem_map.mp hp
    have this : decide (valV (sgV fs') (.inr e.1) = some (V.str e.2)) = true := this
    show decide (valV (sgV fs) (.inr e.1) = some (V.str e.2)) = true
    rw [sg_perm p2 n2]; exact this
def spVwEq8 (K : PySem.W.Frag) (C : Addr) : Sp := fun vs H Q _ => ∃ A B d e, vs = [.ref A.p, .ref B.p] ∧ IsVw C H A d ∧ IsVw C H B e ∧ TyX K H (.ref B.p) (.ref C) ∧ Q (.bl (eqK (sgV d.sights) (sgV e.sights) && decide (d.holds = e.holds))) H
def spIor8 (C : Addr) : Sp := fun vs H Q _ => ∃ (A : VwAt) (d : Vw) (a : Addr) (es : Tbl), vs = [.ref A.p, .ref a] ∧ IsVw C H A d ∧ H a = some (.dK (sgV es)) ∧ (es.map (·.1)).Nodup ∧ (∀ e ∈ es, Nm e.1 ∧ Nm e.2) ∧ es.length + d.sights.length ≤ 100 ∧
  ∀ (l1 : Addr) H', H l1 = none → But A.p H H' → IsVw C H' ⟨A.p, A.dx, l1, A.l2⟩ ⟨mrg es d.sights, d.holds⟩ → Q (.ref A.p) H'
def spIsub8 (K : PySem.W.Frag) (C : Addr) : Sp := fun vs H Q _ => ∃ (A : VwAt) (d : Vw) (b : Addr) (hs : List PySem.Str), vs = [.ref A.p, .ref b] ∧ IsVw C H A d ∧ RowAt K H b (hs.map V.str) ∧ (∀ h ∈ hs, Nm h) ∧ hs.length ≤ 60 ∧
  ∀ (l1 : Addr) H', H l1 = none → But A.p H H' → IsVw C H' ⟨A.p, A.dx, l1, A.l2⟩ ⟨wout d.sights hs, d.holds⟩ → Q (.ref A.p) H'
section
variable {P : Program} {w : World} {K : PySem.W.Frag} {mg : PySem.Str → Option Value} {base : Heap} {C : Addr}
theorem ok_vw_eq8 (T : Bt mg) (vc : VwC K C) (g_View : mg "View" = some (.ref C)) {f : Addr} {fd : FuncData} (F : FunD K "__eq__" "View.__eq__" (defArgs s_View___eq__) (defBody s_View___eq__) (defScope s_View___eq__) [] [] f fd) : FnOk P w K mg base CX0 1 f fd ["self", "other"] (spVwEq8 K C) := by
  refine F.ok sc_View___eq__ (fun vs H Q E h => ?_) (fun cdv A0 outer s H vs Q E hr h => ?_)
  · obtain ⟨A, B, d, e, rfl, _⟩ := h
    rfl
  · have hu64 := hu64_of hr
    have hu := hu_of hr
    refine ⟨_, PSs.nox (pss_one (ps_ret (pe_and (pe_callB call_isi (by rfl) T.b_isinstance (by decide +kernel) (pa_cons (pv 1) (pa_cons (pe_gref rfl g_View) pa_nil))) (pe_and (pe_cmpR (Txs.op_eq_dictT hu) (pe_fld (pv 0) rfl) (pe_fld (pv 1) rfl) (nomark _)) (pe_one (pe_cmpR (op_eqD hu64) (pe_fld (pv 0) rfl) (pe_fld (pv 1) rfl) (nomark _))))))), ?_⟩
    obtain ⟨A, B, d, e, rfl, i, j, ty, q⟩ := h
    refine ⟨_, rfl, _, _, _, _, true, rfl, .own _, ty, by simp [PySem.W.kitOne], true, rfl, ?_⟩
    refine ⟨_, rfl, A.p, C, A.dx, _, _, rfl, i.ins, vc.cl, vc.n1, vwF_sights _ _, _, rfl, B.p, C, B.dx, _, _, rfl, j.ins, vc.cl, vc.n1, vwF_sights _ _, A.l1, B.l1, _, _, rfl, rfl, i.sights, j.sights, sg_nd i.nd, sg_strV _, sg_strV _, _, rfl, ?_⟩
    revert q
    cases eqK (sgV d.sights) (sgV e.sights) with
    | false => exact fun q => iteF q
    | true =>
      refine fun q => iteT ?_
      rw [Bool.true_and] at q
      refine ⟨_, rfl, A.p, C, A.dx, _, _, rfl, i.ins, vc.cl, vc.n2, vwF_holds _ _, _, rfl, B.p, C, B.dx, _, _, rfl, j.ins, vc.cl, vc.n2, vwF_holds _ _, _, _, .lst (SqL.of i.holds) (dp_strs _), .lst (SqL.of j.holds) (dp_strs _), strs_shaped fun h hh => nm_ok1 (i.hk h hh), strs_shaped fun h hh => nm_ok1 (j.hk h hh), ?_⟩
      rw [eqv_strsL]
      exact q
theorem ok_vw_ior8 (T : Bt mg) (vc : VwC K C) (c_check_sights : Cl P w K mg base 2 "check_sights" (spCheckSights K) [])
    {f : Addr} {fd : FuncData} (F : FunD K "__ior__" "View.__ior__" (defArgs s_View___ior__) (defBody s_View___ior__) (defScope s_View___ior__) [] [] f fd) : FnOk P w K mg base (L2.CX P w) 3 f fd ["self", "other"] (spIor8 C) := by
  refine F.ok sc_View___ior__ (fun vs H Q E h => ?_) (fun cdv A0 outer s0 H vs Q E hr h => ?_)
  · obtain ⟨A, d, a, es, rfl, _⟩ := h
    rfl
  · obtain ⟨A, d, a, es, rfl, i, h, nd, ok, e100, k⟩ := h
    refine ⟨_, (pss_cons (ps_expr (pe_cl c_check_sights hr (by decide) rfl (pa_cons (pv 1) pa_nil))) (pss_cons (ps_fld (pv 0) (DMg.pe_merge2 (pv 1) (pe_fld (pv 0) rfl)) rfl) (pss_one (ps_ret (pv 0))))), ?_⟩
    refine ⟨_, rfl, a, es, rfl, h, ok, fun H1 m1 => ?_⟩
    have i1 := i.same m1
    have h1 := m1 _ _ h
    refine fun p hp => ?_
    have np : p ≠ a := (ne_of_none h1 hp).symm
    have np1 : p ≠ A.l1 := (ne_of_none i1.sights hp).symm
    have npA : A.p ≠ p := ne_of_none i1.ins hp
    refine ⟨_, rfl, a, sgV es, rfl, by rw [upd_ne np.symm]; exact h1, upd_same, np, ?_⟩
    have em : mergeK [] (sgV es) = sgV es := (sg_mrg es []).symm.trans (by rw [mrg_nil nd])
    rw [em]
    refine ⟨_, rfl, A.p, C, A.dx, _, _, rfl, by rw [upd_ne npA, upd_ne npA]; exact i1.ins, vc.cl, vc.n1, vwF_sights _ _, ?_⟩
    refine ⟨A.l1, sgV d.sights, rfl, by rw [upd_ne np1.symm, upd_ne np1.symm]; exact i1.sights, upd_same, np1, by rw [sg_len, sg_len]; exact Nat.le_trans e100 (by decide), ?_⟩
    rw [← sg_mrg, upd_upd, upd_upd]
    have m3 := same_new m1 hp (o := .dK (sgV (mrg es d.sights)))
    have e3 : (L2.upd H1 p (.dK (sgV (mrg es d.sights)))) p = some (.dK (sgV (mrg es d.sights))) := upd_same
    generalize L2.upd H1 p (.dK (sgV (mrg es d.sights))) = H3 at m3 e3 ⊢
    have i3 := i.same m3
    refine ⟨_, rfl, A.p, C, A.dx, _, rfl, i3.ins, vc.cl, vc.n1, Nat.lt_of_le_of_lt (Nat.le_trans (putF_len _ _ _) (Nat.succ_le_succ (putF_len _ _ _))) (by decide), ?_⟩
    exact ⟨_, rfl, k p _ (m1.free hp) ((But.of m3).trans But.upd) (new_table (H := H) i3 e3 (mrg_nd _ _ nd) (mrg_ok ok i.ok) (Nat.le_trans (mrg_len _ _) e100))⟩
theorem ok_vw_isub8 (T : Bt mg) (vc : VwC K C) (c_check_words : Cl P w K mg base 2 "check_words" (spCheckWords K) []) (c_sights_without : Cl P w K mg base 1 "sights_without" (spWithout K) [])
    {f : Addr} {fd : FuncData} (F : FunD K "__isub__" "View.__isub__" (defArgs s_View___isub__) (defBody s_View___isub__) (defScope s_View___isub__) [] [] f fd) : FnOk P w K mg base (L2.CX P w) 3 f fd ["self", "other"] (spIsub8 K C) := by
  refine F.ok sc_View___isub__ (fun vs H Q E h => ?_) (fun cdv A0 outer s0 H vs Q E hr h => ?_)
  · obtain ⟨A, d, b, hs, rfl, _⟩ := h
    rfl
  · obtain ⟨A, d, b, hs, rfl, i, rb, ok, few, k⟩ := h
    refine ⟨_, (pss_cons (ps_expr (pe_cl c_check_words hr (by decide) rfl (pa_cons (pv 1) pa_nil))) (pss_cons (ps_fld (pv 0) (pe_cl c_sights_without hr (by decide) rfl (pa_cons (pe_fld (pv 0) rfl) (pa_cons (pv 1) pa_nil))) rfl) (pss_one (ps_ret (pv 0))))), ?_⟩
    refine ⟨_, rfl, b, hs, rfl, rb, ok, fun H1 m1 => ?_⟩
    have i1 := i.same m1
    refine ⟨_, rfl, A.p, C, A.dx, _, _, rfl, i1.ins, vc.cl, vc.n1, vwF_sights _ _, ?_⟩
    refine ⟨_, rfl, A.l1, b, d.sights, hs, rfl, i1.sights, i1.nd, i1.small.1, rb.same m1, few, fun p H3 hp m2 e3 => ?_⟩
    have m3 := m1.trans m2
    have i3 := i.same m3
    refine ⟨_, rfl, A.p, C, A.dx, _, rfl, i3.ins, vc.cl, vc.n1, Nat.lt_of_le_of_lt (Nat.le_trans (putF_len _ _ _) (Nat.succ_le_succ (putF_len _ _ _))) (by decide), ?_⟩
    exact ⟨_, rfl, k p _ (m1.free hp) ((But.of m3).trans But.upd) (new_table (H := H) i3 e3 (wout_nd i.nd) (fun e he => i.ok e (wout_mem he)) (Nat.le_trans (wout_len _ _) i.small.1))⟩
end
end Lw

namespace Lw
open PySem PySem.Spec PyProof.Rows L2 Txs
open C8 (pe_gc)
/-! ### is a view what the law's model says? -/
theorem strs_at {ws : List PySem.Str} {i : Nat} {x : V} (h : (ws.map V.str)[i]? = some x) : ∃ z, ws[i]? = some z ∧ x = V.str z := by
  rw [List.getElem?_map] at h
  cases z : ws[i]? with
  | none => rw [z] at h; cases h
  | some q => rw [z] at h; exact ⟨q, rfl, (Option.some.inj h).symm⟩
theorem sg_list (es : Tbl) : (sgV es).map (fun kv => kV kv.1) = (es.map (·.1)).map V.str := by
  unfold sgV
  rw [List.map_map, List.map_map]
  rfl
/-- a view and the law's model of it -/
structure One (C : Addr) (H : Hp) (A : VwAt) (t d h : Addr) (es ts : Tbl) (hs : List PySem.Str) : Prop where
  vw : IsVw C H A ⟨es, hs⟩
  t : H t = some (.tup [.ref d, .ref h])
  d : H d = some (.dK (sgV ts))
  h : H h = some (.lst (hs.map V.str))
  pm : es.Perm ts
theorem One.same {C : Addr} {H H' : Hp} {A : VwAt} {t d h : Addr} {es ts : Tbl} {hs : List PySem.Str} (o : One C H A t d h es ts hs) (k : Same H H') : One C H' A t d h es ts hs := ⟨o.vw.same k, k _ _ o.t, k _ _ o.d, k _ _ o.h, o.pm⟩
theorem One.nd {C : Addr} {H : Hp} {A : VwAt} {t d h : Addr} {es ts : Tbl} {hs : List PySem.Str} (o : One C H A t d h es ts hs) : (ts.map (·.1)).Nodup := (o.pm.map _).nodup_iff.1 o.vw.nd
def spRight8 (C : Addr) : Sp := fun vs H Q _ => ∃ (A : VwAt) (t d h : Addr) (es ts : Tbl) (hs : List PySem.Str) (na : Addr) (ws : List PySem.Str), vs = [.ref A.p, .ref t, .ref na] ∧ One C H A t d h es ts hs ∧ es.length < 64 ∧ H na = some (.lst (ws.map V.str)) ∧ (∀ w ∈ ws, Nm w) ∧ ∀ H', Same H H' → Q (.bl true) H'
section
variable {P : Program} {w : World} {K : PySem.W.Frag} {mg : PySem.Str → Option Value} {base : Heap} {C : Addr}
theorem ok_right8 (T : Bt mg) (c_law_flag : Cl P w K mg base 1 "_law_flag" spFlag []) (p_View_words : Pr P w K mg base 1 C "words" (spVwWords C)) (p_View_sights : Pr P w K mg base 1 C "sights" (spVwSights C)) (p_View_holds : Pr P w K mg base 1 C "holds" (spVwHolds C))
    (y_View_len : Ow P w K mg base 1 C "__len__" (spVwLen C)) (y_View_contains : Ow P w K mg base 2 C "__contains__" (spVwIn K C)) (y_View_getitem : Ow P w K mg base 2 C "__getitem__" (spVwItem C))
    {f : Addr} {fd : FuncData} (F : FunD K "_law_right" "_law_right" (defArgs s_law_right) (defBody s_law_right) (defScope s_law_right) [] [] f fd) : FnOk P w K mg base CX0 4 f fd ["_law_view", "_law_model", "_law_names_here"] (spRight8 C) := by
  refine F.ok sc_law_right (fun vs H Q E h => ?_) (fun cdv A0 outer s0 H vs Q E hr h => ?_)
  · obtain ⟨A, t, d, h, es, ts, hs, na, ws, rfl, _⟩ := h
    rfl
  · obtain ⟨A, t, d, h, es, ts, hs, na, ws, rfl, o, lt, hna, nm, k⟩ := h
    have hu64 := hu64_of hr
    have hu := hu_of hr
    refine ⟨_, PSs.nox (pss_cons (ps_if (PW.pt (pw_or (pt_cmpR (op_ne_dictA hr.units0) (pe_pr p_View_sights hr (by decide) (pv 0) rfl) (pe_ix ix_tup (pv 1) pe_int (fun _ _ => rfl)) (nomark _)) (pw_or (pt_cmpR (op_neD hu64) (pe_pr p_View_words hr (by decide) (pv 0) rfl) (pe_callB cr_sortedS (by rfl) T.b_sorted (by decide +kernel) (pa_cons (pe_callTy (call_listD rfl) (by rfl) T.b_list (by decide +kernel) (pa_cons (pe_ix ix_tup (pv 1) pe_int (fun _ _ => rfl)) pa_nil)) pa_nil)) (nomark _)) (pw_or1 (pt_cmpR (op_neD hu64) (pe_pr p_View_holds hr (by decide) (pv 0) rfl) (pe_ix ix_tup (pv 1) pe_int (fun _ _ => rfl)) (nomark _)))))) (pss_one (ps_ret pe_bl)) pss_nil) (pss_cons (ps_if (pt_cmpR op_ne (pe_callB (call_wl y_View_len hr (by decide)) (by rfl) T.b_len PySem.boot_len (pa_cons (pv 0) pa_nil)) (pe_callB call_lenD (by rfl) T.b_len PySem.boot_len (pa_cons (pe_ix ix_tup (pv 1) pe_int (fun _ _ => rfl)) pa_nil)) (nomark _)) (pss_one (ps_ret pe_bl)) pss_nil) (pss_cons (ps_for PassesOwn.never rfl (pi_list (pv 2)) (pg_name (i := 3) sc_law_right.nd rfl (Or.inl rfl)) (pss_one (ps_if (PW.pt (pw_or (pt_not (pt_val (pe_cl c_law_flag hr (by decide) rfl (pa_cons (pe_cmpR (op_wn y_View_contains hr (by decide)) (pv 3) (pv 0) (by rfl)) (pa_cons (pe_cmp (pc_din hu (pv 3) (pe_ix ix_tup (pv 1) pe_int (fun _ _ => rfl)))) pa_nil))))) (pw_or1 (pt_cmpR op_ne (pe_wi y_View_getitem hr (by decide) (pv 0) (pv 3)) (pe_dget1 hu (pe_ix ix_tup (pv 1) pe_int (fun _ _ => rfl)) (pv 3) ⟨by rfl, by rfl, by rfl, by rfl⟩) (nomark _))))) (pss_one (ps_ret pe_bl)) pss_nil))) (pss_one (ps_ret pe_bl))))), ?_⟩
    have i := o.vw
    have pm := o.pm
    have nde := o.nd
    -- the sights
    refine ⟨_, rfl, A.p, A.dx, _, rfl, i.ins, A, ⟨es, hs⟩, rfl, i, fun q1 h1 => ?_⟩
    have m1 := same_new (Same.refl H) h1 (o := .dK (sgV es))
    have e1 : (L2.upd H q1 (.dK (sgV es))) q1 = some (.dK (sgV es)) := upd_same
    generalize L2.upd H q1 (.dK (sgV es)) = H1 at m1 e1 ⊢
    have o1 := o.same m1
    obtain ⟨g1, g2⟩ := sg_deq pm i.nd
    refine ⟨_, rfl, t, _, _, .ref d, rfl, rfl, SqT.of o1.t, rfl, q1, d, _, _, rfl, rfl, e1, o1.d, g1, g2, _, rfl, iteF ?_⟩
    -- the words
    refine ⟨_, rfl, A.p, A.dx, _, rfl, o1.vw.ins, A, ⟨es, hs⟩, rfl, o1.vw, lt, fun ys2 q2 as2 mem2 h2 => ?_⟩
    have m2 := same_new (Same.refl H1) h2 (o := .lst (ys2.map V.str))
    have e2 : (L2.upd H1 q2 (.lst (ys2.map V.str))) q2 = some (.lst (ys2.map V.str)) := upd_same
    generalize L2.upd H1 q2 (.lst (ys2.map V.str)) = H2 at m2 e2 ⊢
    have o2 := o1.same m2
    refine ⟨_, rfl, t, _, _, .ref d, rfl, rfl, SqT.of o2.t, rfl, d, sgV ts, rfl, .inl o2.d, fun q3 h3 => ?_⟩
    rw [sg_list]
    have m3 := same_new (Same.refl H2) h3 (o := .lst ((ts.map (·.1)).map V.str))
    have e3 : (L2.upd H2 q3 (.lst ((ts.map (·.1)).map V.str))) q3 = some (.lst ((ts.map (·.1)).map V.str)) := upd_same
    have e32 : (L2.upd H2 q3 (.lst ((ts.map (·.1)).map V.str))) q2 = some (.lst (ys2.map V.str)) := by rw [upd_ne (ne_of_none e2 h3)]; exact e2
    generalize L2.upd H2 q3 (.lst ((ts.map (·.1)).map V.str)) = H3 at m3 e3 e32 ⊢
    have o3 := o2.same m3
    refine ⟨q3, ts.map (·.1), rfl, SqL.of e3, by rw [List.length_map, ← pm.length_eq]; exact lt, fun zs q4 pz sz h4 => ?_⟩
    have ez : zs = ys2 := (asc_of pz sz nde).one as2 fun x => pz.mem_iff.trans (((pm.map _).mem_iff).symm.trans (mem2 x).symm)
    rw [ez]
    have sy : ∀ y ∈ ys2, PyData.strOk y = true := fun y hy => by
      obtain ⟨e, he, rfl⟩ := List.mem_map.mp ((mem2 y).1 hy)
      exact nm_ok1 (i.ok e he).1
    have m4 := same_new (Same.refl H3) h4 (o := .lst (ys2.map V.str))
    have e4 : (L2.upd H3 q4 (.lst (ys2.map V.str))) q4 = some (.lst (ys2.map V.str)) := upd_same
    have e42 : (L2.upd H3 q4 (.lst (ys2.map V.str))) q2 = some (.lst (ys2.map V.str)) := by rw [upd_ne (ne_of_none e32 h4)]; exact e32
    generalize L2.upd H3 q4 (.lst (ys2.map V.str)) = H4 at m4 e4 e42 ⊢
    refine ⟨_, _, .lst (SqL.of e42) (dp_strs _), .lst (SqL.of e4) (dp_strs _), strs_shaped sy, strs_shaped sy, _, rfl, ?_⟩
    rw [eqv_same (strs_shaped sy)]
    refine iteF ?_
    -- the words to hold
    have o4 := o3.same m4
    refine ⟨_, rfl, A.p, A.dx, _, rfl, o4.vw.ins, A, ⟨es, hs⟩, rfl, o4.vw, fun q7 h7 => ?_⟩
    have m7 := same_new (Same.refl H4) h7 (o := .lst (hs.map V.str))
    have e7 : (L2.upd H4 q7 (.lst (hs.map V.str))) q7 = some (.lst (hs.map V.str)) := upd_same
    generalize L2.upd H4 q7 (.lst (hs.map V.str)) = H7 at m7 e7 ⊢
    have o7 := o4.same m7
    have sh : ∀ y ∈ hs, PyData.strOk y = true := fun y hy => nm_ok1 (i.hk y hy)
    refine ⟨_, rfl, t, _, _, .ref h, rfl, rfl, SqT.of o7.t, rfl, _, _, .lst (SqL.of e7) (dp_strs _), .lst (SqL.of o7.h) (dp_strs _), strs_shaped sh, strs_shaped sh, _, rfl, ?_⟩
    rw [eqv_same (strs_shaped sh)]
    refine iteF ?_
    -- how many
    refine ⟨_, rfl, A.p, A.dx, _, rfl, o7.vw.ins, A, ⟨es, hs⟩, rfl, o7.vw, _, rfl, Int.natCast_nonneg _, (by show (es.length : Int) < _; omega), _, rfl, t, _, _, .ref d, rfl, rfl, SqT.of o7.t, rfl, d, _, rfl, o7.d, rfl, _, rfl, ?_⟩
    have el : V.int ((es.length : Nat) : Int) = V.int (((sgV ts).length : Nat) : Int) := by rw [sg_len, pm.length_eq]
    refine ite2 (fun z => absurd z (by show ¬ (!decide (V.int ((es.length : Nat) : Int) = V.int (((sgV ts).length : Nat) : Int))) = true; rw [el, decide_eq_true rfl]; decide)) (fun _ => ?_)
    have m07 : Same H H7 := ((((m1.trans m2).trans m3).trans m4).trans m7)
    have na7 := m07 _ _ hna
    refine ⟨_, rfl, na, rfl, ⟨_, SqL.of na7⟩, for_list (K := K) (xs := ws.map V.str) (fun j σ H' => H' = H7 ∧ ∃ v3 : Option V, σ = [some (.ref A.p), some (.ref t), some (.ref na), v3]) ?_ ?_ ?_ ?_⟩
    · exact ⟨rfl, _, rfl⟩
    · rintro j σ' H' _ ⟨rfl, _⟩
      exact SqL.of na7
    · rintro j x σ' H' hx ⟨rfl, v3, rfl⟩
      obtain ⟨z, hz, rfl⟩ := strs_at hx
      have nz := nm z (List.mem_of_getElem? hz)
      have e0 := sg_perm pm i.nd z
      refine ⟨_, rfl, _, rfl, A.p, A.dx, _, rfl, o7.vw.ins, A, ⟨es, hs⟩, _, rfl, o7.vw, .inl ⟨z, rfl, nm_size nz, _, rfl, _, rfl, _, rfl, t, _, _, .ref d, rfl, rfl, SqT.of o7.t, rfl, d, _, rfl, DGet.k (k := .inr z) o7.d, ?_⟩⟩
      refine ⟨(valV (sgV ts) (.inr z : Key)).isSome, ?_, true, rfl, iteF ?_⟩
      · rw [nmB_iff.2 nz, e0]
        rfl
      refine ⟨_, rfl, _, rfl, A.p, A.dx, _, rfl, o7.vw.ins, A, ⟨es, hs⟩, z, rfl, o7.vw, nz, ?_⟩
      rw [e0]
      refine ⟨_, rfl, t, _, _, .ref d, rfl, rfl, SqT.of o7.t, rfl, d, rfl, .inl ⟨_, .inl o7.d⟩, _, rfl, _, DGet.k (k := .inr z) o7.d, ?_⟩
      cases q : valV (sgV ts) (.inr z : Key) with
      | none => exact ⟨rfl, _, rfl, iteNS rfl ⟨rfl, _, rfl⟩⟩
      | some v =>
        obtain ⟨y, rfl, _⟩ := sg_some q
        exact ⟨rfl, _, rfl, iteNS rfl ⟨rfl, _, rfl⟩⟩
    · rintro σ' H' ⟨rfl, v3, rfl⟩
      exact k _ m07
theorem cl_right8 (T : Bt mg) (c_law_flag : Cl P w K mg base 1 "_law_flag" spFlag []) (p_View_words : Pr P w K mg base 1 C "words" (spVwWords C)) (p_View_sights : Pr P w K mg base 1 C "sights" (spVwSights C)) (p_View_holds : Pr P w K mg base 1 C "holds" (spVwHolds C))
    (y_View_len : Ow P w K mg base 1 C "__len__" (spVwLen C)) (y_View_contains : Ow P w K mg base 2 C "__contains__" (spVwIn K C)) (y_View_getitem : Ow P w K mg base 2 C "__getitem__" (spVwItem C)) (a : At K mg "_law_right" s_law_right) : Cl P w K mg base 4 "_law_right" (spRight8 C) [] := a.cal (ps := ["_law_view", "_law_model", "_law_names_here"]) (fun _ _ F => ok_right8 T c_law_flag p_View_words p_View_sights p_View_holds y_View_len y_View_contains y_View_getitem F) (fun _ _ _ _ _ _ us hl => match us, hl with | [_, _, _], _ => rfl)
end
end Lw

namespace Lw
open PySem PySem.Spec PyProof.Rows L2 Txs
open C8 (pe_gc)
/-! ### one deed: slots 0 _law_stream_here, 1 _law_views, 2 _law_models, 3 _law_names_here, 4 _law_which, 5 _law_kind, 6 _law_word, 7 _law_sight, 8 _law_row, 9 _law_view, 10 _law_table, 11 _law_holds, 12 _law_turn, 13 _law_gone, 14 _law_seen -/
theorem dec_int {i j : Int} : decide (V.int i = V.int j) = decide (i = j) := decide_eq_decide.mpr ⟨fun h => by injection h, fun h => by rw [h]⟩
theorem int_ne {i j : Int} (h : i ≠ j) : decide (V.int i = V.int j) = false := by rw [dec_int]; exact decide_eq_false h
theorem int_eq {i j : Int} (h : i = j) : decide (V.int i = V.int j) = true := by rw [dec_int]; exact decide_eq_true h
theorem kT {i j : Int} {A B : Prop} (h : i = j) (a : A) : if decide (V.int i = V.int j) = true then A else B := ite2 (fun _ => a) fun z => absurd (int_eq h) z
theorem kF {i j : Int} {A B : Prop} (h : i ≠ j) (b : B) : if decide (V.int i = V.int j) = true then A else B := ite2 (fun z => absurd (z.symm.trans (int_ne h)) (by decide)) fun _ => b
theorem strs_ints (ws : List PySem.Str) (x y z : Int) : (HO.lst (ws.map V.str)) ≠ HO.lst [.int x, .int y, .int z] := fun q => by
  have q := HO.lst.inj q
  cases ws with
  | nil => cases q
  | cons h t => simp at q
theorem strs_refs (ws : List PySem.Str) (x y : Addr) : (HO.lst (ws.map V.str)) ≠ HO.lst [.ref x, .ref y] := fun q => by
  have q := HO.lst.inj q
  cases ws with
  | nil => cases q
  | cons h t => simp at q
theorem refs_ints (a b : Addr) (x y z : Int) : (HO.lst [.ref a, .ref b]) ≠ HO.lst [.int x, .int y, .int z] := fun q => by
  have q := HO.lst.inj q
  simp at q
theorem but_free {a p : Addr} {H H' : Hp} (b : But a H H') (s : Stm H' a) (n : H' p = none) : H p = none := by
  cases q : H p with
  | none => rfl
  | some o =>
    by_cases e : p = a
    · subst e
      obtain ⟨x, y, z, e⟩ := s
      rw [e] at n; cases n
    · have := b _ _ q e
      rw [this] at n; cases n
theorem stm_ne {H : Hp} {a p : Addr} (s : Stm H a) (n : H p = none) : p ≠ a := fun e => by
  obtain ⟨x, y, z, q⟩ := s
  rw [e, q] at n; cases n
/-- the table without x -/
theorem sg_drop (es : Tbl) (x : PySem.Str) : dropK (sgV es) (.inr x) = sgV (wout es [x]) := by
  unfold dropK sgV wout
  rw [List.filter_map]
  congr 1
  refine List.filter_congr fun e _ => ?_
  show decide ((.inr e.1 : Key) ≠ .inr x) = !decide (e.1 ∈ [x])
  rw [← decide_not]
  exact decide_eq_decide.mpr (by simp [inr_eq])
theorem wout_none {es : Tbl} {x : PySem.Str} (h : valV (sgV es) (.inr x) = none) : wout es [x] = es := by
  unfold wout
  refine List.filter_eq_self.mpr fun e he => ?_
  have : e.1 ≠ x := fun q => by
    cases g : valV (sgV es) (.inr x) with
    | some u => rw [g] at h; cases h
    | none =>
      have := valV_any (.inr x : Key) (sgV es)
      rw [g] at this
      have a : ((sgV es).any fun kv => decide (kv.1 = (.inr x : Key))) = true := List.any_eq_true.mpr ⟨_, List.mem_map.mpr ⟨e, he, rfl⟩, decide_eq_true (by rw [q])⟩
      rw [a] at this; cases this
  simp [this]
theorem wout_wout (es : Tbl) (l : List PySem.Str) (x : PySem.Str) : wout (wout es l) [x] = wout es (l ++ [x]) := by
  unfold wout
  rw [List.filter_filter]
  refine List.filter_congr fun e _ => ?_
  simp [Bool.and_comm]
theorem wout_nil (es : Tbl) : wout es [] = es := List.filter_eq_self.mpr fun e _ => by simp
theorem wout_perm {es ts : Tbl} (p : es.Perm ts) (l : List PySem.Str) : (wout es l).Perm (wout ts l) := p.filter _
theorem set_perm {es ts : Tbl} (p : es.Perm ts) (nd : (es.map (·.1)).Nodup) (x y : PySem.Str) : (setS es x y).Perm (setS ts x y) :=
  tb_perm (set_keys _ _ _ nd) (set_keys _ _ _ ((p.map _).nodup_iff.1 nd)) fun z => by rw [set_lk, set_lk, sg_perm p nd]
/-- another table stands where the view's stands -/
theorem IsVw.set {C : Addr} {H : Hp} {A : VwAt} {d : Vw} {es : Tbl} (i : IsVw C H A d) (nd : (es.map (·.1)).Nodup) (ok : ∀ e ∈ es, Nm e.1 ∧ Nm e.2) (few : es.length ≤ 100) : IsVw C (L2.upd H A.l1 (.dK (sgV es))) A ⟨es, d.holds⟩ :=
  ⟨by rw [upd_ne (ne_of i.ins i.sights fun z => nomatch z)]; exact i.ins, upd_same, by rw [upd_ne (ne_of i.holds i.sights fun z => nomatch z)]; exact i.holds, nd, ok, i.hk, i.asc, few, i.small.2⟩
/-- all is kept but the stream, the two rows, and one view's instance and table -/
def Kp (st vl ml p l : Addr) (H H' : Hp) : Prop := ∀ b o, H b = some o → b ≠ st → b ≠ vl → b ≠ ml → b ≠ p → b ≠ l → H' b = some o
section
variable {st vl ml p l q : Addr} {H H1 H2 : Hp} {o : HO}
theorem Kp.put (k : Kp st vl ml p l H H1) (h : H q = none ∨ q = vl ∨ q = ml ∨ q = p ∨ q = l) : Kp st vl ml p l H (L2.upd H1 q o) := fun b u e n1 n2 n3 n4 n5 => by
  have : b ≠ q := by
    rcases h with h | h | h | h | h
    · exact ne_of_none e h
    · rw [h]; exact n2
    · rw [h]; exact n3
    · rw [h]; exact n4
    · rw [h]; exact n5
  rw [upd_ne this]
  exact k b u e n1 n2 n3 n4 n5
theorem Kp.same (k : Kp st vl ml p l H H1) (m : Same H1 H2) : Kp st vl ml p l H H2 := fun b u e n1 n2 n3 n4 n5 => m _ _ (k b u e n1 n2 n3 n4 n5)
theorem Kp.but (k : Kp st vl ml p l H H1) (m : But q H1 H2) (h : H q = none ∨ q = vl ∨ q = ml ∨ q = p ∨ q = l) : Kp st vl ml p l H H2 := fun b u e n1 n2 n3 n4 n5 => by
  have : b ≠ q := by
    rcases h with h | h | h | h | h
    · exact ne_of_none e h
    · rw [h]; exact n2
    · rw [h]; exact n3
    · rw [h]; exact n4
    · rw [h]; exact n5
  exact m _ _ (k b u e n1 n2 n3 n4 n5) this
end
/-- the two views, the two models -/
structure S8 (C : Addr) (H : Hp) (vl ml : Addr) (A : Nat → VwAt) (t d h : Nat → Addr) (es ts : Nat → Tbl) (hs : Nat → List PySem.Str) (n : Nat) : Prop where
  vl : H vl = some (.lst [.ref (A 0).p, .ref (A 1).p])
  ml : H ml = some (.lst [.ref (t 0), .ref (t 1)])
  one : ∀ i, i < 2 → One C H (A i) (t i) (d i) (h i) (es i) (ts i) (hs i)
  few : ∀ i, i < 2 → (es i).length ≤ n
  sep : ∀ i j, i < 2 → j < 2 → (A i).l1 ≠ d j
  dif : ∀ i j, i < 2 → j < 2 → i ≠ j → (A i).p ≠ (A j).p ∧ (A i).l1 ≠ (A j).l1 ∧ d i ≠ d j
theorem One.keep {C : Addr} {H H' : Hp} {A : VwAt} {t d h : Addr} {es ts : Tbl} {hs : List PySem.Str} (o : One C H A t d h es ts hs) (k : ∀ b u, H b = some u → (u = .ins C A.dx (vwF A.l1 A.l2) ∧ b = A.p ∨ u = .dK (sgV es) ∧ b = A.l1 ∨ (∃ ws : List PySem.Str, u = .lst (ws.map V.str)) ∨ (∃ x y, u = .tup [.ref x, .ref y]) ∨ u = .dK (sgV ts) ∧ b = d) → H' b = some u) : One C H' A t d h es ts hs :=
  ⟨⟨k _ _ o.vw.ins (.inl ⟨rfl, rfl⟩), k _ _ o.vw.sights (.inr (.inl ⟨rfl, rfl⟩)), k _ _ o.vw.holds (.inr (.inr (.inl ⟨_, rfl⟩))), o.vw.nd, o.vw.ok, o.vw.hk, o.vw.asc, o.vw.small⟩, k _ _ o.t (.inr (.inr (.inr (.inl ⟨_, _, rfl⟩)))), k _ _ o.d (.inr (.inr (.inr (.inr ⟨rfl, rfl⟩)))), k _ _ o.h (.inr (.inr (.inl ⟨_, rfl⟩))), o.pm⟩
theorem at2 {f : Nat → Addr} {m : Nat} (h : m < 2) : atI [V.ref (f 0), .ref (f 1)] (m : Int) = some (.ref (f m)) := by
  match m, h with
  | 0, _ => rfl
  | 1, _ => rfl
theorem set2 {f : Nat → Addr} {m : Nat} {x : Addr} (h : m < 2) : ([V.ref (f 0), .ref (f 1)] : List V).set m (.ref x) = [.ref (if 0 = m then x else f 0), .ref (if 1 = m then x else f 1)] := by
  match m, h with
  | 0, _ => rfl
  | 1, _ => rfl
theorem ix2 {m : Nat} (h : m < 2) : ixN 2 (m : Int) = some m := by
  match m, h with
  | 0, _ => rfl
  | 1, _ => rfl
theorem S8.strm {C : Addr} {H H' : Hp} {vl ml st : Addr} {A : Nat → VwAt} {t d h : Nat → Addr} {es ts : Nat → Tbl} {hs : Nat → List PySem.Str} {n : Nat} (s : S8 C H vl ml A t d h es ts hs n) (b : But st H H') (g : Stm H st) : S8 C H' vl ml A t d h es ts hs n := by
  refine ⟨b _ _ s.vl (g.ne s.vl (refs_ints _ _)), b _ _ s.ml (g.ne s.ml (refs_ints _ _)), fun i hi => (s.one i hi).keep fun a u e w => b _ _ e (g.ne e ?_), s.few, s.sep, s.dif⟩
  rintro x y z rfl
  rcases w with ⟨w, _⟩ | ⟨w, _⟩ | ⟨ws, w⟩ | ⟨_, _, w⟩ | ⟨w, _⟩
  · cases w
  · cases w
  · exact strs_ints ws x y z w.symm
  · cases w
  · cases w
/-- the deed is done, but the model's pair is not yet in its row -/
def Done8 (C : Addr) (H : Hp) (st vl ml : Addr) (A : Nat → VwAt) (t : Nat → Addr) (m n : Nat) (td hd : Addr) (H' : Hp) : Prop :=
  ∃ (B : VwAt) (em tm : Tbl) (hm : List PySem.Str), H' vl = some (.lst [.ref (if 0 = m then B else A 0).p, .ref (if 1 = m then B else A 1).p]) ∧ H' ml = some (.lst [.ref (t 0), .ref (t 1)]) ∧ IsVw C H' B ⟨em, hm⟩ ∧ H' td = some (.dK (sgV tm)) ∧ H' hd = some (.lst (hm.map V.str)) ∧ em.Perm tm ∧ em.length ≤ n + 1 ∧
  Kp st vl ml (A m).p (A m).l1 H H' ∧ (B.p = (A m).p ∨ H B.p = none) ∧ (B.l1 = (A m).l1 ∨ H B.l1 = none) ∧ B.l1 ≠ td ∧ H td = none
/-- behind the i-th question: the deed is still to come, or it is done -/
def Pr8 (C : Addr) (H : Hp) (st vl ml na : Addr) (A : Nat → VwAt) (t : Nat → Addr) (m n : Nat) (kind : Int) (x y : PySem.Str) (D q1 q2 : Addr) (H8 : Hp) (i : Int) : L2.St → Hp → Prop := fun σ H' =>
  (i < kind ∧ σ = [some (.ref st), some (.ref vl), some (.ref ml), some (.ref na), some (.int (m : Int)), some (.int kind), some (.str x), some (.str y), some (.ref D), some (.ref (A m).p), some (.ref q1), some (.ref q2), none, none, none] ∧ H8 = H') ∨
  (kind ≤ i ∧ ∃ (td hd : Addr) (v13 v14 : Option V), σ = [some (.ref st), some (.ref vl), some (.ref ml), some (.ref na), some (.int (m : Int)), some (.int kind), some (.str x), some (.str y), some (.ref D), some (.ref (A m).p), some (.ref td), some (.ref hd), none, v13, v14] ∧ Done8 C H st vl ml A t m n td hd H')
theorem S8.vm {C : Addr} {H : Hp} {vl ml : Addr} {A : Nat → VwAt} {t d h : Nat → Addr} {es ts : Nat → Tbl} {hs : Nat → List PySem.Str} {n : Nat} (s : S8 C H vl ml A t d h es ts hs n) : vl ≠ ml := fun e => by
  have h1 := s.vl
  rw [e, s.ml] at h1
  have h1 := HO.lst.inj (Option.some.inj h1)
  have h2 : t 0 = (A 0).p := by simpa using (List.cons.inj h1).1
  have h3 := (s.one 0 (by decide)).t
  rw [h2, (s.one 0 (by decide)).vw.ins] at h3
  cases h3
theorem if_own {f : Nat → VwAt} {m : Nat} (h : m < 2) : ([V.ref (if 0 = m then f m else f 0).p, .ref (if 1 = m then f m else f 1).p] : List V) = [.ref (f 0).p, .ref (f 1).p] := by
  match m, h with
  | 0, _ => rfl
  | 1, _ => rfl
theorem own2 {f : Nat → VwAt} {m : Nat} {B : VwAt} (h : m < 2) (e : B.p = (f m).p) : ([V.ref (if 0 = m then B else f 0).p, .ref (if 1 = m then B else f 1).p] : List V) = [.ref (f 0).p, .ref (f 1).p] := by
  match m, h with
  | 0, _ => show [V.ref B.p, .ref (f 1).p] = _; rw [e]
  | 1, _ => show [V.ref (f 0).p, .ref B.p] = _; rw [e]
def spDo8 (C : Addr) : Sp := fun vs H Q _ => ∃ (st vl ml na : Addr) (A : Nat → VwAt) (t d h : Nat → Addr) (es ts : Nat → Tbl) (hs : Nat → List PySem.Str) (n : Nat) (ws : List PySem.Str), vs = [.ref st, .ref vl, .ref ml, .ref na] ∧ Stm H st ∧ S8 C H vl ml A t d h es ts hs n ∧ 2 ≤ n ∧ n ≤ 90 ∧ H na = some (.lst (ws.map V.str)) ∧ ws.length = 5 ∧ (∀ w ∈ ws, Nm w) ∧
  ∀ H' A' t' d' h' es' ts' hs', S8 C H' vl ml A' t' d' h' es' ts' hs' (n + 1) → (∀ b o, H b = some o → b ≠ st → b ≠ vl → b ≠ ml → (∀ i, i < 2 → b ≠ (A i).p ∧ b ≠ (A i).l1) → H' b = some o) → (∀ i, i < 2 → ((A' i).p = (A i).p ∨ H (A' i).p = none) ∧ ((A' i).l1 = (A i).l1 ∨ H (A' i).l1 = none) ∧ (d' i = d i ∨ H (d' i) = none)) → Q .non H'
section
variable {P : Program} {w : World} {K : PySem.W.Frag} {mg : PySem.Str → Option Value} {base : Heap} {C : Addr}
theorem ok_do8 (T : Bt mg) (c_law_draw : Cl P w K mg base 1 "_law_draw" spDraw []) (c_seeing : Cl P w K mg base 5 "seeing" (spSeeing8 K C) []) (y_View_setitem : Ow P w K mg base 2 C "__setitem__" (spVwSet C)) (m_View_hold_just : Me P w K mg base 3 C "hold_just" (spVwHold K C)) (m_View_copy : Me P w K mg base 5 C "copy" (spVwCopy C))
    (ax_View_BitOr : OpO.Ix P w K mg base 3 C "or" (spIor8 C)) (ax_View_Sub : OpO.Ix P w K mg base 3 C "sub" (spIsub8 K C))
    {f : Addr} {fd : FuncData} (F : FunD K "_law_do" "_law_do" (defArgs s_law_do) (defBody s_law_do) (defScope s_law_do) [] [] f fd) : FnOk P w K mg base CX0 6 f fd ["_law_stream_here", "_law_views", "_law_models", "_law_names_here"] (spDo8 C) := by
  refine F.ok sc_law_do (fun vs H Q E h => ?_) (fun cdv A0 outer s0 H vs Q E hr h => ?_)
  · obtain ⟨st, vl, ml, na, A, t, d, h, es, ts, hs, n, ws, rfl, _⟩ := h
    rfl
  · have hu := hu_of hr
    obtain ⟨st, vl, ml, na, A, t, d, h, es, ts, hs, n, ws, rfl, hS, S, n2, n90, hna, l5, okw, k⟩ := h
    have nas : na ≠ st := hS.ne hna (strs_ints ws)
    refine ⟨_, PSs.nox (pss_cons (ps_set (i := 4) sc_law_do.nd rfl (Or.inl rfl) (pe_cl c_law_draw hr (by decide) rfl (pa_cons (pv 0) (pa_cons pe_int pa_nil)))) (pss_cons (ps_set (i := 5) sc_law_do.nd rfl (Or.inl rfl) (pe_cl c_law_draw hr (by decide) rfl (pa_cons (pv 0) (pa_cons pe_int pa_nil)))) (pss_cons (ps_set (i := 6) sc_law_do.nd rfl (Or.inl rfl) (pe_ix ix_list (pv 3) (pe_cl c_law_draw hr (by decide) rfl (pa_cons (pv 0) (pa_cons pe_int pa_nil))) (fun _ _ => rfl))) (pss_cons (ps_set (i := 7) sc_law_do.nd rfl (Or.inl rfl) (pe_ix ix_list (pv 3) (pe_cl c_law_draw hr (by decide) rfl (pa_cons (pv 0) (pa_cons pe_int pa_nil))) (fun _ _ => rfl))) (pss_cons (ps_setLc (i := 8) (own := [("_law_turn", 12)]) (tt := tYes) rfl sc_law_do.nd rfl rfl (sw_true rfl rfl rfl (by decide +kernel)) (pi_range1 rfl T.b_range (pa_cons (pe_cl c_law_draw hr (by decide) rfl (pa_cons (pv 0) (pa_cons pe_int pa_nil))) pa_nil)) (blkOk_by (N := N_law_do) (sc := defScope s_law_do) (by decide +kernel)) (fun _ _ _ _ _ => (pg_name (i := 12) sc_law_do.nd rfl (Or.inl rfl))) (fun _ _ _ _ _ => pts_nil) (fun _ _ _ _ _ => (pe_ix (ixL K) (pv 3) (pe_cl c_law_draw hr (by decide) rfl (pa_cons (pv 0) (pa_cons pe_int pa_nil))) (fun _ _ => rfl)))) (pss_cons (ps_set (i := 9) sc_law_do.nd rfl (Or.inl rfl) (pe_ix ix_list (pv 1) (pv 4) (fun _ _ => rfl))) (pss_cons (ps_set (i := 10) sc_law_do.nd rfl (Or.inl rfl) (pe_callTy call_dictD (by rfl) T.b_dict (by decide +kernel) (pa_cons (pe_ix ix_tup (pe_ix ix_list (pv 2) (pv 4) (fun _ _ => rfl)) pe_int (fun _ _ => rfl)) pa_nil))) (pss_cons (ps_set (i := 11) sc_law_do.nd rfl (Or.inl rfl) (pe_callTy call_list_of (by rfl) T.b_list (by decide +kernel) (pa_cons (pe_ix ix_tup (pe_ix ix_list (pv 2) (pv 4) (fun _ _ => rfl)) pe_int (fun _ _ => rfl)) pa_nil))) (Evl.pss_cut (ps_if (pt_cmpR op_eq (pv 5) pe_int (nomark _)) (pss_cons (ps_asg (pv 7) (pg_sub (pv 9) (pv 6) (set_wi y_View_setitem hr (by decide)))) (pss_one (ps_dput hu (pv 10) (pv 6) (pv 7) rfl))) pss_nil) (Evl.pss_cut (ps_if (pt_cmpR op_eq (pv 5) pe_int (nomark _)) (pss_cons (ps_asg pe_non (pg_sub (pv 9) (pv 6) (set_wi y_View_setitem hr (by decide)))) (pss_one (ps_if (pt_cmp (pc_din hu (pv 6) (pv 10))) (pss_one (ps_expr (pe_dpop1 (pv 10) (pv 6) ⟨by rfl, by rfl, by rfl, by rfl⟩))) pss_nil))) pss_nil) (Evl.pss_cut (ps_if (pt_cmpR op_eq (pv 5) pe_int (nomark _)) (pss_cons (ps_expr (pe_me m_View_hold_just hr (by decide) (pv 9) (pa_cons (pv 8) pa_nil))) (pss_one (ps_set (i := 11) sc_law_do.nd rfl (Or.inl rfl) (pe_callB (cr_sortedX rfl) (by rfl) T.b_sorted (by decide +kernel) (pa_cons (pe_callTy (cr_setL rfl) (by rfl) T.b_set (by decide +kernel) (pa_cons (pv 8) pa_nil)) pa_nil))))) pss_nil) (Evl.pss_cut (ps_if (pt_cmpR op_eq (pv 5) pe_int (nomark _)) (pss_cons (OpO.ps_augO (i := 9) (op := .BitOr) ax_View_BitOr hr (by decide) takes0 sc_law_do.nd rfl (Or.inl rfl) (pe_disp (pps_cons (pv 6) (pv 7) pps_nil) rfl rfl (fun z => nomatch z) (by decide))) (pss_one (ps_expr (pe_dsetd (pv 10) (pv 6) (pv 7) ⟨by rfl, by rfl, by rfl, by rfl⟩)))) pss_nil) (Evl.pss_cut (ps_if (pt_cmpR op_eq (pv 5) pe_int (nomark _)) (pss_cons (OpO.ps_augO (i := 9) (op := .Sub) ax_View_Sub hr (by decide) takes0 sc_law_do.nd rfl (Or.inl rfl) (pv 8)) (pss_one (ps_for PassesOwn.never rfl (pi_list (pv 8)) (pg_name (i := 13) sc_law_do.nd rfl (Or.inl rfl)) (pss_one (ps_if (pt_cmp (pc_din hu (pv 13) (pv 10))) (pss_one (ps_expr (pe_dpop1 (pv 10) (pv 13) ⟨by rfl, by rfl, by rfl, by rfl⟩))) pss_nil))))) pss_nil) (Evl.pss_cut (ps_if (pt_cmpR op_eq (pv 5) pe_int (nomark _)) (pss_cons (ps_asg (pe_me0 m_View_copy hr (by decide) (pe_ix ix_list (pv 1) (pe_op op_sub pe_int (pv 4)) (fun _ _ => rfl))) (pg_sub (pv 1) (pv 4) set_list)) (pss_cons (ps_set (i := 10) sc_law_do.nd rfl (Or.inl rfl) (pe_callTy call_dictD (by rfl) T.b_dict (by decide +kernel) (pa_cons (pe_ix ix_tup (pe_ix ix_list (pv 2) (pe_op op_sub pe_int (pv 4)) (fun _ _ => rfl)) pe_int (fun _ _ => rfl)) pa_nil))) (pss_one (ps_set (i := 11) sc_law_do.nd rfl (Or.inl rfl) (pe_callTy call_list_of (by rfl) T.b_list (by decide +kernel) (pa_cons (pe_ix ix_tup (pe_ix ix_list (pv 2) (pe_op op_sub pe_int (pv 4)) (fun _ _ => rfl)) pe_int (fun _ _ => rfl)) pa_nil)))))) pss_nil) (Evl.pss_cut (ps_if (pt_cmpR op_eq (pv 5) pe_int (nomark _)) (pss_cons (ps_asg (pe_cl c_seeing hr (by decide) rfl (pa_cons (pv 8) (pa_cons (pe_lst (pa_cons (pv 6) pa_nil)) pa_nil))) (pg_sub (pv 1) (pv 4) set_list)) (pss_cons (ps_set (i := 10) sc_law_do.nd rfl (Or.inl rfl) pe_dnewK) (pss_cons (ps_for PassesOwn.never rfl (pi_list (pv 8)) (pg_name (i := 14) sc_law_do.nd rfl (Or.inl rfl)) (pss_one (ps_dput hu (pv 10) (pv 14) (pv 14) rfl))) (pss_one (ps_set (i := 11) sc_law_do.nd rfl (Or.inl rfl) (pe_lst (pa_cons (pv 6) pa_nil))))))) pss_nil) (pss_one (ps_asg (pe_tup (pa_cons (pv 10) (pa_cons (pv 11) pa_nil))) (pg_sub (pv 2) (pv 4) set_list)))))))))))))))))), ?_⟩
    have pick : ∀ {q : Int}, 0 ≤ q → q < 5 → ∃ m : Nat, q = (m : Int) ∧ ∃ z, ws[m]? = some z ∧ Nm z := fun {q} h0 h8 => by
      have hm : q.toNat < ws.length := by omega
      exact ⟨q.toNat, by omega, _, List.getElem?_eq_getElem hm, okw _ (List.getElem_mem hm)⟩
    refine ⟨_, rfl, st, 2, rfl, hS, by decide, by decide, fun w0 H1 w1 w2 b1 s1 => ?_⟩
    obtain ⟨m, rfl⟩ : ∃ m : Nat, w0 = (m : Int) := ⟨w0.toNat, by omega⟩
    have m2 : m < 2 := by omega
    refine ⟨_, rfl, st, 7, rfl, s1, by decide, by decide, fun kind H2 k0 k7 b2 s2 => ?_⟩
    have b12 := b1.trans b2
    have na2 := b12 _ _ hna nas
    refine ⟨_, rfl, _, rfl, st, 5, rfl, s2, by decide, by decide, fun q H3 q0 q5 b3 s3 => ?_⟩
    obtain ⟨mx, rfl, x, hx, nx⟩ := pick q0 q5
    have na3 := b3 _ _ na2 nas
    refine ⟨na, _, _, .str x, rfl, rfl, SqL.of na3, atI_nat (by rw [List.getElem?_map, hx]; rfl), ?_⟩
    refine ⟨_, rfl, _, rfl, st, 5, rfl, s3, by decide, by decide, fun q H4 q0 q5 b4 s4 => ?_⟩
    obtain ⟨my, rfl, y, hy, ny⟩ := pick q0 q5
    have na4 := b4 _ _ na3 nas
    refine ⟨na, _, _, .str y, rfl, rfl, SqL.of na4, atI_nat (by rw [List.getElem?_map, hy]; rfl), ?_⟩
    have b14 := (b12.trans b3).trans b4
    -- the row
    refine ⟨_, rfl, st, 4, rfl, s4, by decide, by decide, fun r H5 r0 r4 b5 s5 => ⟨_, rfl, by omega, by omega, fun D hD => ?_⟩⟩
    have b15 := b14.trans b5
    have nDs : D ≠ st := stm_ne s5 hD
    have fD : H D = none := but_free b15 s5 hD
    refine lc_range (n := r.toNat) (fun i H' => ∃ us : List PySem.Str, But st H H' ∧ Stm H' st ∧ H' na = some (.lst (ws.map V.str)) ∧ H' D = some (.lst (us.map V.str)) ∧ us.length = i ∧ ∀ u ∈ us, Nm u) ?_ ?_ ?_
    · exact ⟨[], b15.new hD, s5.new hD, by rw [upd_ne (ne_of_none (b5 _ _ na4 nas) hD)]; exact b5 _ _ na4 nas, upd_same, rfl, fun u hu => absurd hu List.not_mem_nil⟩
    · rintro i H6 hi ⟨us, b6, s6, n6, d6, l6, ok6⟩
      refine ⟨rfl, _, rfl, _, rfl, st, 5, rfl, s6, by decide, by decide, fun q H7 q0 q5 b7 s7 => ?_⟩
      obtain ⟨mz, rfl, z, hz, nz⟩ := pick q0 q5
      have n7 := b7 _ _ n6 nas
      have d7 := b7 _ _ d6 nDs
      refine ⟨na, _, _, .str z, rfl, rfl, SqL.of n7, atI_nat (by rw [List.getElem?_map, hz]; rfl), _, d7, by rw [List.length_map]; exact small1000 (by omega), us ++ [z], ?_, s7.put nDs, ?_, ?_, by rw [List.length_append, l6]; rfl, fun u hu => ?_⟩
      · exact fun b o e ne => by
          rw [upd_ne (ne_of_none e fD)]
          exact b7 _ _ (b6 _ _ e ne) ne
      · rw [upd_ne (ne_of_none hna fD)]; exact n7
      · rw [upd_same, List.map_append]; rfl
      · rcases List.mem_append.mp hu with q | q
        · exact ok6 u q
        · rw [List.mem_singleton.mp q]; exact nz
    rintro H6 ⟨us, b6, s6, n6, d6, l6, ok6⟩
    have us3 : us.length ≤ 3 := by omega
    have S6 := S.strm b6 hS
    -- the view, the model's dict and list
    refine ⟨_, rfl, _, rfl, vl, _, _, .ref (A m).p, rfl, rfl, SqL.of S6.vl, at2 (f := fun i => (A i).p) m2, ?_⟩
    have O6 := S6.one m m2
    refine ⟨_, rfl, _, rfl, ml, _, _, .ref (t m), rfl, rfl, SqL.of S6.ml, at2 (f := t) m2, t m, _, _, .ref (d m), rfl, rfl, SqT.of O6.t, rfl, d m, _, rfl, .inl O6.d, fun q1 hq1 => ?_⟩
    have m7 := same_new (Same.refl H6) hq1 (o := .dK (sgV (ts m)))
    have e7 : (L2.upd H6 q1 (.dK (sgV (ts m)))) q1 = some (.dK (sgV (ts m))) := upd_same
    generalize L2.upd H6 q1 (.dK (sgV (ts m))) = H7 at m7 e7 ⊢
    have fq1 : H q1 = none := but_free b6 s6 hq1
    refine ⟨_, rfl, _, rfl, ml, _, _, .ref (t m), rfl, rfl, SqL.of (m7 _ _ S6.ml), at2 (f := t) m2, t m, _, _, .ref (h m), rfl, rfl, SqT.of (m7 _ _ O6.t), rfl, h m, _, rfl, .inl (SqL.of (m7 _ _ O6.h)), fun q2 hq2 => ?_⟩
    have m8 := same_new m7 hq2 (o := .lst ((hs m).map V.str))
    have e82 : (L2.upd H7 q2 (.lst ((hs m).map V.str))) q2 = some (.lst ((hs m).map V.str)) := upd_same
    have e81 : (L2.upd H7 q2 (.lst ((hs m).map V.str))) q1 = some (.dK (sgV (ts m))) := by rw [upd_ne (ne_of_none e7 hq2)]; exact e7
    have fq2 : H q2 = none := but_free b6 s6 (m7.free hq2)
    generalize L2.upd H7 q2 (.lst ((hs m).map V.str)) = H8 at m8 e82 e81 ⊢
    have vl8 := m8 _ _ S6.vl
    have ml8 := m8 _ _ S6.ml
    have d8 := m8 _ _ d6
    have one8 : ∀ i, i < 2 → One C H8 (A i) (t i) (d i) (h i) (es i) (ts i) (hs i) := fun i hi => (S6.one i hi).same m8
    have O8 := one8 m m2
    have kp8 : Kp st vl ml (A m).p (A m).l1 H H8 := fun b o e n1 _ _ _ _ => m8 _ _ (b6 _ _ e n1)
    have m8' : ∀ {q : Addr}, H8 q = none → H6 q = none := fun w => m8.free w
    have On := S.one m m2
    have fem := S.few m m2
    have nvl1 : vl ≠ (A m).l1 := ne_of vl8 O8.vw.sights fun z => nomatch z
    have nml1 : ml ≠ (A m).l1 := ne_of ml8 O8.vw.sights fun z => nomatch z
    have nvp : vl ≠ (A m).p := ne_of vl8 O8.vw.ins fun z => nomatch z
    have nmp : ml ≠ (A m).p := ne_of ml8 O8.vw.ins fun z => nomatch z
    have nvq : ∀ {q : Addr}, H q = none → vl ≠ q := fun f => ne_of_none S.vl f
    have nmq : ∀ {q : Addr}, H q = none → ml ≠ q := fun f => ne_of_none S.ml f
    have npq : ∀ {q : Addr}, H q = none → (A m).p ≠ q := fun f => ne_of_none On.vw.ins f
    have nlq : ∀ {q : Addr}, H q = none → (A m).l1 ≠ q := fun f => ne_of_none On.vw.sights f
    have n2q : ∀ {q : Addr}, H q = none → (A m).l2 ≠ q := fun f => ne_of_none On.vw.holds f
    have n21 : q2 ≠ (A m).l1 := ne_of e82 O8.vw.sights fun z => nomatch z
    have nq21 : q2 ≠ q1 := ne_of e82 e81 fun z => nomatch z
    have few8 : (sgV (ts m)).length ≤ 90 := by rw [sg_len, ← On.pm.length_eq]; omega
    -- kind 0
    refine ⟨Pr8 C H st vl ml na A t m n kind x y D q1 q2 H8 0, ?_, ?_⟩
    · by_cases h0 : kind = 0
      · refine ⟨_, rfl, rfl, _, rfl, kT h0 ?_⟩
        refine ⟨_, rfl, _, rfl, _, rfl, (A m).p, (A m).dx, _, rfl, O8.vw.ins, A m, ⟨es m, hs m⟩, x, .str y, rfl, O8.vw, nx, .inl ⟨y, rfl, ny, ?_⟩⟩
        rw [← sg_set]
        have i9 : IsVw C (L2.upd H8 (A m).l1 (.dK (sgV (setS (es m) x y)))) (A m) ⟨setS (es m) x y, hs m⟩ := O8.vw.set (set_keys _ _ _ O8.vw.nd) (fun e he => (set_mem he).elim (O8.vw.ok e) fun q => by rw [q]; exact ⟨nx, ny⟩) (Nat.le_trans (set_len _ _ _) (by omega))
        have e91 : (L2.upd H8 (A m).l1 (.dK (sgV (setS (es m) x y)))) q1 = some (.dK (sgV (ts m))) := by rw [upd_ne (nlq fq1).symm]; exact e81
        have e92 : (L2.upd H8 (A m).l1 (.dK (sgV (setS (es m) x y)))) q2 = some (.lst ((hs m).map V.str)) := by rw [upd_ne n21]; exact e82
        have vl9 : (L2.upd H8 (A m).l1 (.dK (sgV (setS (es m) x y)))) vl = some (.lst [.ref (A 0).p, .ref (A 1).p]) := by rw [upd_ne nvl1]; exact vl8
        have ml9 : (L2.upd H8 (A m).l1 (.dK (sgV (setS (es m) x y)))) ml = some (.lst [.ref (t 0), .ref (t 1)]) := by rw [upd_ne nml1]; exact ml8
        have kp9 : Kp st vl ml (A m).p (A m).l1 H (L2.upd H8 (A m).l1 (.dK (sgV (setS (es m) x y)))) := kp8.put (.inr (.inr (.inr (.inr rfl))))
        generalize L2.upd H8 (A m).l1 (.dK (sgV (setS (es m) x y))) = H9 at i9 e91 e92 vl9 ml9 kp9 ⊢
        refine ⟨_, rfl, _, rfl, _, rfl, q1, _, rfl, DPut.k (k := .inr x) e91 (small1000 (by omega)), ?_⟩
        rw [← sg_set]
        exact Or.inr ⟨by omega, q1, q2, _, _, rfl, A m, setS (es m) x y, setS (ts m) x y, hs m, by rw [upd_ne (nvq fq1), if_own m2]; exact vl9, by rw [upd_ne (nmq fq1)]; exact ml9, i9.put (npq fq1) (nlq fq1) (n2q fq1), upd_same, by rw [upd_ne nq21]; exact e92,
          set_perm On.pm On.vw.nd x y, Nat.le_trans (set_len _ _ _) (by omega), kp9.put (.inl fq1), .inl rfl, .inl rfl, nlq fq1, fq1⟩
      · exact ⟨_, rfl, rfl, _, rfl, kF h0 (Or.inl ⟨by omega, rfl, rfl⟩)⟩
    rintro σ1 G1 hp1
    -- kind 1
    refine ⟨Pr8 C H st vl ml na A t m n kind x y D q1 q2 H8 1, ?_, ?_⟩
    · rcases hp1 with ⟨lt, rfl, rfl⟩ | ⟨le, td, hd, v13, v14, rfl, dn⟩
      · by_cases h0 : kind = 1
        · refine ⟨_, rfl, rfl, _, rfl, kT h0 ?_⟩
          have lkp := sg_perm On.pm On.vw.nd x
          have fin : ∀ {H9 : Hp} {em : Tbl}, IsVw C H9 (A m) ⟨em, hs m⟩ → H9 q1 = some (.dK (sgV (ts m))) → H9 q2 = some (.lst ((hs m).map V.str)) → H9 vl = some (.lst [.ref (A 0).p, .ref (A 1).p]) → H9 ml = some (.lst [.ref (t 0), .ref (t 1)]) → Kp st vl ml (A m).p (A m).l1 H H9 → em = wout (es m) [x] →
              Done8 C H st vl ml A t m n q1 q2 (L2.upd H9 q1 (.dK (sgV (wout (ts m) [x])))) := fun {H9 em} i9 e91 e92 vl9 ml9 kp9 ee => by
            subst ee
            exact ⟨A m, wout (es m) [x], wout (ts m) [x], hs m, by rw [upd_ne (nvq fq1), if_own m2]; exact vl9, by rw [upd_ne (nmq fq1)]; exact ml9, i9.put (npq fq1) (nlq fq1) (n2q fq1), upd_same, by rw [upd_ne nq21]; exact e92,
              wout_perm On.pm _, Nat.le_trans (wout_len _ _) (by omega), kp9.put (.inl fq1), .inl rfl, .inl rfl, nlq fq1, fq1⟩
          refine ⟨_, rfl, _, rfl, (A m).p, (A m).dx, _, rfl, O8.vw.ins, A m, ⟨es m, hs m⟩, x, .non, rfl, O8.vw, nx, .inr ⟨rfl, fun hn => ?_, fun hsm => ?_⟩⟩
          · have hn' : valV (sgV (ts m)) (.inr x) = none := by rw [← lkp]; exact hn
            refine ⟨_, rfl, _, rfl, q1, _, rfl, DGet.k (k := .inr x) e81, _, rfl, ?_⟩
            rw [hn']
            refine iteF (Or.inr ⟨by omega, q1, q2, _, _, rfl, ?_⟩)
            exact ⟨A m, es m, ts m, hs m, by rw [if_own m2]; exact vl8, ml8, O8.vw, e81, e82, On.pm, by omega, kp8, .inl rfl, .inl rfl, nlq fq1, fq1⟩
          · obtain ⟨v, hv⟩ := Option.isSome_iff_exists.mp hsm
            have hv' : valV (sgV (ts m)) (.inr x) = some v := by rw [← lkp]; exact hv
            rw [sg_drop]
            have i9 : IsVw C (L2.upd H8 (A m).l1 (.dK (sgV (wout (es m) [x])))) (A m) ⟨wout (es m) [x], hs m⟩ := O8.vw.set (wout_nd O8.vw.nd) (fun e he => O8.vw.ok e (wout_mem he)) (Nat.le_trans (wout_len _ _) (by show (es m).length ≤ 100; omega))
            have e91 : (L2.upd H8 (A m).l1 (.dK (sgV (wout (es m) [x])))) q1 = some (.dK (sgV (ts m))) := by rw [upd_ne (nlq fq1).symm]; exact e81
            have e92 : (L2.upd H8 (A m).l1 (.dK (sgV (wout (es m) [x])))) q2 = some (.lst ((hs m).map V.str)) := by rw [upd_ne n21]; exact e82
            have vl9 : (L2.upd H8 (A m).l1 (.dK (sgV (wout (es m) [x])))) vl = some (.lst [.ref (A 0).p, .ref (A 1).p]) := by rw [upd_ne nvl1]; exact vl8
            have ml9 : (L2.upd H8 (A m).l1 (.dK (sgV (wout (es m) [x])))) ml = some (.lst [.ref (t 0), .ref (t 1)]) := by rw [upd_ne nml1]; exact ml8
            have kp9 : Kp st vl ml (A m).p (A m).l1 H (L2.upd H8 (A m).l1 (.dK (sgV (wout (es m) [x])))) := kp8.put (.inr (.inr (.inr (.inr rfl))))
            generalize L2.upd H8 (A m).l1 (.dK (sgV (wout (es m) [x]))) = H9 at i9 e91 e92 vl9 ml9 kp9 ⊢
            refine ⟨_, rfl, _, rfl, q1, _, rfl, DGet.k (k := .inr x) e91, _, rfl, ?_⟩
            rw [hv']
            refine iteT ⟨_, rfl, q1, rfl, .inl ⟨_, .inl e91⟩, _, rfl, sgV (ts m), .inr x, v, e91, rfl, hv', ?_⟩
            rw [sg_drop]
            exact Or.inr ⟨by omega, q1, q2, _, _, rfl, fin i9 e91 e92 vl9 ml9 kp9 rfl⟩
        · exact ⟨_, rfl, rfl, _, rfl, kF h0 (Or.inl ⟨by omega, rfl, rfl⟩)⟩
      · exact ⟨_, rfl, rfl, _, rfl, kF (by omega) (Or.inr ⟨by omega, td, hd, v13, v14, rfl, dn⟩)⟩
    rintro σ2 G2 hp2
    -- kind 2
    refine ⟨Pr8 C H st vl ml na A t m n kind x y D q1 q2 H8 2, ?_, ?_⟩
    · rcases hp2 with ⟨lt, rfl, rfl⟩ | ⟨le, td, hd, v13, v14, rfl, dn⟩
      · by_cases h0 : kind = 2
        · refine ⟨_, rfl, rfl, _, rfl, kT h0 ?_⟩
          refine ⟨_, rfl, (A m).p, (A m).dx, _, rfl, O8.vw.ins, vwF_no, _, rfl, A m, ⟨es m, hs m⟩, D, us, rfl, O8.vw, .lst d8, ok6, by omega, fun l2 ys H9 f9 b9 i9 mem9 => ?_⟩
          have npD : D ≠ (A m).p := ne_of d8 O8.vw.ins fun z => nomatch z
          have d9 := b9 _ _ d8 npD
          have vl9 := b9 _ _ vl8 nvp
          have ml9 := b9 _ _ ml8 nmp
          have e91 := b9 _ _ e81 (npq fq1).symm
          have kp9 : Kp st vl ml (A m).p (A m).l1 H H9 := kp8.but b9 (.inr (.inr (.inr (.inl rfl))))
          refine ⟨_, rfl, D, us, rfl, .inl (SqL.of d9), by unfold scanBound; omega, fun q c hq hc => ?_⟩
          refine ⟨q, _, c, rfl, upd_same, by omega, fun zs hz asc memz len hh => ?_⟩
          generalize SetX (cxOf CX0 P w K mg base ["_law_stream_here", "_law_views", "_law_models", "_law_names_here", "_law_which", "_law_kind", "_law_word", "_law_sight", "_law_row", "_law_view", "_law_table", "_law_holds", "_law_turn", "_law_gone", "_law_seen"] "_law_do" (defScope s_law_do) f cdv A0 outer s0 H E).nox.prog (cxOf CX0 P w K mg base ["_law_stream_here", "_law_views", "_law_models", "_law_names_here", "_law_which", "_law_kind", "_law_word", "_law_sight", "_law_row", "_law_view", "_law_table", "_law_holds", "_law_turn", "_law_gone", "_law_seen"] "_law_do" (defScope s_law_do) f cdv A0 outer s0 H E).nox.w q (fun x => decide (x ∈ us)) c = so at hh ⊢
          have m10 := same_new (same_new (Same.refl H9) hq (o := so)) hh (o := .lst (zs.map V.str))
          have e10 : (L2.upd (L2.upd H9 q so) hz (.lst (zs.map V.str))) hz = some (.lst (zs.map V.str)) := upd_same
          generalize L2.upd (L2.upd H9 q so) hz (.lst (zs.map V.str)) = H10 at m10 e10 ⊢
          have ez : zs = ys := asc.one i9.asc fun z => ((memz z).trans decide_eq_true_iff).trans (mem9 z).symm
          subst ez
          have vl10 := m10 _ _ vl9
          have vw10 := i9.same m10
          refine Or.inr ⟨by omega, q1, hz, _, _, rfl, ⟨(A m).p, (A m).dx, (A m).l1, l2⟩, es m, ts m, zs, ?_, m10 _ _ ml9, vw10, m10 _ _ e91, e10, On.pm, by omega, kp9.same m10, .inl rfl, .inl rfl, nlq fq1, fq1⟩
          rw [vl10]
          have : ∀ {k : Nat}, k < 2 → m < 2 → (if k = m then (⟨(A m).p, (A m).dx, (A m).l1, l2⟩ : VwAt) else A k).p = (A k).p := fun {k} _ _ => by
            by_cases e : k = m
            · rw [if_pos e, e]
            · rw [if_neg e]
          rw [this (by decide) m2, this (by decide) m2]
        · exact ⟨_, rfl, rfl, _, rfl, kF h0 (Or.inl ⟨by omega, rfl, rfl⟩)⟩
      · exact ⟨_, rfl, rfl, _, rfl, kF (by omega) (Or.inr ⟨by omega, td, hd, v13, v14, rfl, dn⟩)⟩
    rintro σ3 G3 hp3
    -- kind 3
    refine ⟨Pr8 C H st vl ml na A t m n kind x y D q1 q2 H8 3, ?_, ?_⟩
    · rcases hp3 with ⟨lt, rfl, rfl⟩ | ⟨le, td, hd, v13, v14, rfl, dn⟩
      · by_cases h0 : kind = 3
        · refine ⟨_, rfl, rfl, _, rfl, kT h0 ?_⟩
          refine ⟨(A m).p, (A m).dx, vwF (A m).l1 (A m).l2, rfl, fun p hp => ?_⟩
          refine ⟨_, rfl, _, rfl, upd_same, [(.inr x, .str y)], rfl, by show 1 ≤ 15; decide, ?_⟩
          rw [show mergeK [] [((.inr x : Key), V.str y)] = sgV [(x, y)] from rfl, upd_upd]
          have m9 := same_new (Same.refl H8) hp (o := .dK (sgV [(x, y)]))
          have ep : (L2.upd H8 p (.dK (sgV [(x, y)]))) p = some (.dK (sgV [(x, y)])) := upd_same
          generalize L2.upd H8 p (.dK (sgV [(x, y)])) = H9 at m9 ep ⊢
          have i9 := O8.vw.same m9
          refine ⟨i9.ins, A m, ⟨es m, hs m⟩, p, [(x, y)], rfl, i9, ep, by simp, fun e he => by rw [List.mem_singleton.mp he]; exact ⟨nx, ny⟩, (by show 1 + (es m).length ≤ 100; omega), fun l1 H10 f10 b10 i10 => ?_⟩
          have vl10 := b10 _ _ (m9 _ _ vl8) nvp
          have ml10 := b10 _ _ (m9 _ _ ml8) nmp
          have e101 := b10 _ _ (m9 _ _ e81) (npq fq1).symm
          have e102 := b10 _ _ (m9 _ _ e82) (ne_of (m9 _ _ e82) i9.ins fun z => nomatch z)
          have kp10 : Kp st vl ml (A m).p (A m).l1 H H10 := (kp8.same m9).but b10 (.inr (.inr (.inr (.inl rfl))))
          have fl1 : H l1 = none := but_free b6 s6 (m8' (m9.free f10))
          have nl1q : l1 ≠ q1 := (ne_of_none (m9 _ _ e81) f10).symm
          have own : ([V.ref (if 0 = m then (⟨(A m).p, (A m).dx, l1, (A m).l2⟩ : VwAt) else A 0).p, .ref (if 1 = m then (⟨(A m).p, (A m).dx, l1, (A m).l2⟩ : VwAt) else A 1).p] : List V) = [.ref (A 0).p, .ref (A 1).p] := own2 m2 rfl
          have lkp := sg_perm On.pm On.vw.nd
          have ndt := On.nd
          have lk1 : ∀ z, valV (sgV [(x, y)]) (.inr z) = if z = x then some (V.str y) else none := fun z => by
            by_cases q : z = x
            · rw [if_pos q, q]; exact valV_pos rfl
            · rw [if_neg q]; exact valV_neg (by rw [inr_eq]; exact fun w => q w.symm)
          have lenm : (mrg [(x, y)] (es m)).length ≤ n + 1 := Nat.le_trans (mrg_len _ _) (by show 1 + (es m).length ≤ n + 1; omega)
          refine ⟨_, rfl, q1, rfl, .inl ⟨_, .inl e101⟩, _, rfl, _, rfl, sgV (ts m), .inr x, e101, rfl, small1000 (by omega), fun v hv => ?_, fun hn => ?_⟩
          · refine Or.inr ⟨by omega, q1, q2, _, _, rfl, ⟨(A m).p, (A m).dx, l1, (A m).l2⟩, mrg [(x, y)] (es m), ts m, hs m, by rw [own]; exact vl10, ml10, i10, e101, e102, ?_, lenm, kp10, .inl rfl, .inr fl1, nl1q, fq1⟩
            refine tb_perm (mrg_nd _ _ (by simp)) ndt fun z => ?_
            rw [mrg_lk _ _ On.vw.nd, lkp, lk1]
            cases g : valV (sgV (ts m)) (.inr z) with
            | some u => rfl
            | none =>
              have : z ≠ x := fun w => by rw [w, hv] at g; cases g
              rw [if_neg this]; rfl
          · rw [← sg_set]
            refine Or.inr ⟨by omega, q1, q2, _, _, rfl, ⟨(A m).p, (A m).dx, l1, (A m).l2⟩, mrg [(x, y)] (es m), setS (ts m) x y, hs m, by rw [upd_ne (nvq fq1), own]; exact vl10, by rw [upd_ne (nmq fq1)]; exact ml10, i10.put (npq fq1) nl1q (n2q fq1), upd_same, by rw [upd_ne nq21]; exact e102, ?_, lenm, kp10.put (.inl fq1), .inl rfl, .inr fl1, nl1q, fq1⟩
            refine tb_perm (mrg_nd _ _ (by simp)) (set_keys _ _ _ ndt) fun z => ?_
            rw [mrg_lk _ _ On.vw.nd, lkp, lk1, set_lk]
            by_cases q : z = x
            · rw [q, hn, if_pos rfl]; rfl
            · rw [if_neg q, if_neg q]
              cases valV (sgV (ts m)) (.inr z) <;> rfl
        · exact ⟨_, rfl, rfl, _, rfl, kF h0 (Or.inl ⟨by omega, rfl, rfl⟩)⟩
      · exact ⟨_, rfl, rfl, _, rfl, kF (by omega) (Or.inr ⟨by omega, td, hd, v13, v14, rfl, dn⟩)⟩
    rintro σ4 G4 hp4
    -- kind 4
    refine ⟨Pr8 C H st vl ml na A t m n kind x y D q1 q2 H8 4, ?_, ?_⟩
    · rcases hp4 with ⟨lt, rfl, rfl⟩ | ⟨le, td, hd, v13, v14, rfl, dn⟩
      · by_cases h0 : kind = 4
        · refine ⟨_, rfl, rfl, _, rfl, kT h0 ?_⟩
          refine ⟨(A m).p, (A m).dx, _, rfl, _, rfl, O8.vw.ins, A m, ⟨es m, hs m⟩, D, us, rfl, O8.vw, .lst d8, ok6, by omega, fun l1 H9 f9 b9 i9 => ?_⟩
          have npD : D ≠ (A m).p := ne_of d8 O8.vw.ins fun z => nomatch z
          have d9 := b9 _ _ d8 npD
          have vl9 := b9 _ _ vl8 nvp
          have ml9 := b9 _ _ ml8 nmp
          have e91 := b9 _ _ e81 (npq fq1).symm
          have e92 := b9 _ _ e82 (ne_of e82 O8.vw.ins fun z => nomatch z)
          have kp9 : Kp st vl ml (A m).p (A m).l1 H H9 := kp8.but b9 (.inr (.inr (.inr (.inl rfl))))
          have fl1 : H l1 = none := but_free b6 s6 (m8' f9)
          have nl1q : l1 ≠ q1 := (ne_of_none e81 f9).symm
          have nDq : D ≠ q1 := ne_of d9 e91 fun z => nomatch z
          refine ⟨_, rfl, D, rfl, ⟨_, SqL.of d9⟩, for_list (K := K) (xs := us.map V.str) (fun j σ H' => ∃ v13 : Option V, σ = [some (.ref st), some (.ref vl), some (.ref ml), some (.ref na), some (.int (m : Int)), some (.int kind), some (.str x), some (.str y), some (.ref D), some (.ref (A m).p), some (.ref q1), some (.ref q2), none, v13, none] ∧ But q1 H9 H' ∧ H' q1 = some (.dK (sgV (wout (ts m) (us.take j))))) ?_ ?_ ?_ ?_⟩
          · exact ⟨_, rfl, But.refl, by rw [List.take_zero, wout_nil]; exact e91⟩
          · rintro j σ' H' _ ⟨_, _, bu, _⟩
            exact SqL.of (bu _ _ d9 nDq)
          · rintro j z' σ' H' hj ⟨v13, rfl, bu, eq⟩
            obtain ⟨z, hz, rfl⟩ := strs_at hj
            have tk : us.take (j + 1) = us.take j ++ [z] := by rw [List.take_add_one, hz]; rfl
            refine ⟨_, rfl, _, rfl, q1, _, rfl, DGet.k (k := .inr z) eq, _, rfl, ?_⟩
            cases g : valV (sgV (wout (ts m) (us.take j))) (.inr z) with
            | none =>
              refine iteF ⟨_, rfl, bu, ?_⟩
              rw [tk, ← wout_wout, wout_none g]
              exact eq
            | some v =>
              refine iteT ⟨_, rfl, q1, rfl, .inl ⟨_, .inl eq⟩, _, rfl, _, .inr z, v, eq, rfl, g, ?_⟩
              rw [sg_drop, wout_wout, ← tk]
              exact ⟨_, rfl, bu.trans But.upd, upd_same⟩
          · rintro σ' H' ⟨v13, rfl, bu, eq⟩
            rw [List.length_map, List.take_length] at eq
            have own : ([V.ref (if 0 = m then (⟨(A m).p, (A m).dx, l1, (A m).l2⟩ : VwAt) else A 0).p, .ref (if 1 = m then (⟨(A m).p, (A m).dx, l1, (A m).l2⟩ : VwAt) else A 1).p] : List V) = [.ref (A 0).p, .ref (A 1).p] := own2 m2 rfl
            exact Or.inr ⟨by omega, q1, q2, _, _, rfl, ⟨(A m).p, (A m).dx, l1, (A m).l2⟩, wout (es m) us, wout (ts m) us, hs m, by rw [own]; exact bu _ _ vl9 (nvq fq1), bu _ _ ml9 (nmq fq1), i9.but bu (npq fq1) nl1q (n2q fq1), eq, bu _ _ e92 nq21,
              wout_perm On.pm _, Nat.le_trans (wout_len _ _) (by omega), kp9.but bu (.inl fq1), .inl rfl, .inr fl1, nl1q, fq1⟩
        · exact ⟨_, rfl, rfl, _, rfl, kF h0 (Or.inl ⟨by omega, rfl, rfl⟩)⟩
      · exact ⟨_, rfl, rfl, _, rfl, kF (by omega) (Or.inr ⟨by omega, td, hd, v13, v14, rfl, dn⟩)⟩
    rintro σ5 G5 hp5
    -- kind 5
    refine ⟨Pr8 C H st vl ml na A t m n kind x y D q1 q2 H8 5, ?_, ?_⟩
    · rcases hp5 with ⟨lt, rfl, rfl⟩ | ⟨le, td, hd, v13, v14, rfl, dn⟩
      · by_cases h0 : kind = 5
        · refine ⟨_, rfl, rfl, _, rfl, kT h0 ?_⟩
          have o2 : 1 - m < 2 := by omega
          have Oo := one8 (1 - m) o2
          have ei : (1 - (m : Int)) = ((1 - m : Nat) : Int) := by omega
          have av : atI [V.ref (A 0).p, .ref (A 1).p] (1 - (m : Int)) = some (.ref (A (1 - m)).p) := by rw [ei]; exact at2 (f := fun i => (A i).p) o2
          have am : atI [V.ref (t 0), .ref (t 1)] (1 - (m : Int)) = some (.ref (t (1 - m))) := by rw [ei]; exact at2 (f := t) o2
          refine ⟨_, rfl, _, rfl, _, _, rfl, rfl, vl, _, _, .ref (A (1 - m)).p, rfl, rfl, SqL.of vl8, av, (A (1 - m)).p, (A (1 - m)).dx, _, rfl, Oo.vw.ins, vwF_no, A (1 - m), ⟨es (1 - m), hs (1 - m)⟩, rfl, Oo.vw, fun B H9 fB flB m9 iB => ?_⟩
          have vl9 := m9 _ _ vl8
          have ml9 := m9 _ _ ml8
          have O9 := Oo.same m9
          refine ⟨_, rfl, _, rfl, vl, _, (m : Int), m, rfl, rfl, vl9, ix2 m2, ?_⟩
          rw [set2 (f := fun i => (A i).p) m2]
          have sp : ∀ (k : Nat), (if k = m then B.p else (A k).p) = (if k = m then B else A k).p := fun k => by
            by_cases e : k = m
            · rw [if_pos e, if_pos e]
            · rw [if_neg e, if_neg e]
          rw [sp, sp]
          have nBv : B.p ≠ vl := (ne_of_none vl8 fB).symm
          have i10 : IsVw C (L2.upd H9 vl (.lst [.ref (if 0 = m then B else A 0).p, .ref (if 1 = m then B else A 1).p])) B ⟨es (1 - m), hs (1 - m)⟩ := iB.put nBv (ne_of_none vl8 (flB _ (by simp [VwAt.lists]))).symm (ne_of_none vl8 (flB _ (by simp [VwAt.lists]))).symm
          have ml10 : (L2.upd H9 vl (.lst [.ref (if 0 = m then B else A 0).p, .ref (if 1 = m then B else A 1).p])) ml = some (.lst [.ref (t 0), .ref (t 1)]) := by rw [upd_ne S.vm.symm]; exact ml9
          have t10 : (L2.upd H9 vl (.lst [.ref (if 0 = m then B else A 0).p, .ref (if 1 = m then B else A 1).p])) (t (1 - m)) = some (.tup [.ref (d (1 - m)), .ref (h (1 - m))]) := by rw [upd_ne (ne_of O9.t vl9 fun z => nomatch z)]; exact O9.t
          have dd10 : (L2.upd H9 vl (.lst [.ref (if 0 = m then B else A 0).p, .ref (if 1 = m then B else A 1).p])) (d (1 - m)) = some (.dK (sgV (ts (1 - m)))) := by rw [upd_ne (ne_of O9.d vl9 fun z => nomatch z)]; exact O9.d
          have h10 : (L2.upd H9 vl (.lst [.ref (if 0 = m then B else A 0).p, .ref (if 1 = m then B else A 1).p])) (h (1 - m)) = some (.lst ((hs (1 - m)).map V.str)) := by rw [upd_ne (ne_of O9.h vl9 (strs_refs _ _ _))]; exact O9.h
          have v10 : (L2.upd H9 vl (.lst [.ref (if 0 = m then B else A 0).p, .ref (if 1 = m then B else A 1).p])) vl = some (.lst [.ref (if 0 = m then B else A 0).p, .ref (if 1 = m then B else A 1).p]) := upd_same
          have kp10 : Kp st vl ml (A m).p (A m).l1 H (L2.upd H9 vl (.lst [.ref (if 0 = m then B else A 0).p, .ref (if 1 = m then B else A 1).p])) := (kp8.same m9).put (.inr (.inl rfl))
          have free9 : ∀ {q : Addr}, (L2.upd H9 vl (.lst [.ref (if 0 = m then B else A 0).p, .ref (if 1 = m then B else A 1).p])) q = none → H8 q = none := fun {q} w => m9.free (by
            rw [upd_ne (fun e => by rw [e, upd_same] at w; cases w)] at w
            exact w)
          generalize L2.upd H9 vl (.lst [.ref (if 0 = m then B else A 0).p, .ref (if 1 = m then B else A 1).p]) = H10 at i10 ml10 t10 dd10 h10 v10 kp10 free9 ⊢
          refine ⟨_, rfl, _, rfl, _, _, rfl, rfl, ml, _, _, .ref (t (1 - m)), rfl, rfl, SqL.of ml10, am, t (1 - m), _, _, .ref (d (1 - m)), rfl, rfl, SqT.of t10, rfl, d (1 - m), _, rfl, .inl dd10, fun q3 hq3 => ?_⟩
          have m11 := same_new (Same.refl H10) hq3 (o := .dK (sgV (ts (1 - m))))
          have e113 : (L2.upd H10 q3 (.dK (sgV (ts (1 - m))))) q3 = some (.dK (sgV (ts (1 - m)))) := upd_same
          have f3 : H q3 = none := but_free b6 s6 (m8' (free9 hq3))
          have nB3 : B.l1 ≠ q3 := ne_of_none i10.sights hq3
          generalize L2.upd H10 q3 (.dK (sgV (ts (1 - m)))) = H11 at m11 e113 ⊢
          refine ⟨_, rfl, _, rfl, _, _, rfl, rfl, ml, _, _, .ref (t (1 - m)), rfl, rfl, SqL.of (m11 _ _ ml10), am, t (1 - m), _, _, .ref (h (1 - m)), rfl, rfl, SqT.of (m11 _ _ t10), rfl, h (1 - m), _, rfl, .inl (SqL.of (m11 _ _ h10)), fun q4 hq4 => ?_⟩
          have m12 := same_new m11 hq4 (o := .lst ((hs (1 - m)).map V.str))
          have e124 : (L2.upd H11 q4 (.lst ((hs (1 - m)).map V.str))) q4 = some (.lst ((hs (1 - m)).map V.str)) := upd_same
          have e123 : (L2.upd H11 q4 (.lst ((hs (1 - m)).map V.str))) q3 = some (.dK (sgV (ts (1 - m)))) := by rw [upd_ne (ne_of_none e113 hq4)]; exact e113
          generalize L2.upd H11 q4 (.lst ((hs (1 - m)).map V.str)) = H12 at m12 e124 e123 ⊢
          have := S.few (1 - m) o2
          exact Or.inr ⟨by omega, q3, q4, _, _, rfl, B, es (1 - m), ts (1 - m), hs (1 - m), m12 _ _ v10, m12 _ _ ml10, i10.same m12, e123, e124, Oo.pm, by omega, kp10.same m12, .inr (but_free b6 s6 (m8' fB)), .inr (but_free b6 s6 (m8' (flB _ (by simp [VwAt.lists])))), nB3, f3⟩
        · exact ⟨_, rfl, rfl, _, rfl, kF h0 (Or.inl ⟨by omega, rfl, rfl⟩)⟩
      · exact ⟨_, rfl, rfl, _, rfl, kF (by omega) (Or.inr ⟨by omega, td, hd, v13, v14, rfl, dn⟩)⟩
    rintro σ6 G6 hp6
    -- kind 6
    refine ⟨Pr8 C H st vl ml na A t m n kind x y D q1 q2 H8 6, ?_, ?_⟩
    · rcases hp6 with ⟨lt, rfl, rfl⟩ | ⟨le, td, hd, v13, v14, rfl, dn⟩
      · by_cases h0 : kind = 6
        · refine ⟨_, rfl, rfl, _, rfl, kT h0 ?_⟩
          refine ⟨_, rfl, _, rfl, (by show 1 ≤ sizeLine; decide), fun p hp => ?_⟩
          have m9 := same_new (Same.refl H8) hp (o := .lst [.str x])
          have ep : (L2.upd H8 p (.lst [.str x])) p = some (.lst (([x] : List PySem.Str).map V.str)) := upd_same
          generalize L2.upd H8 p (.lst [.str x]) = H9 at m9 ep ⊢
          refine ⟨D, p, us, [x], rfl, m9 _ _ d8, ok6, by omega, .lst ep, fun z hz => by rw [List.mem_singleton.mp hz]; exact nx, by show 1 ≤ 60; decide, fun B e H10 fB flB m10 iB slf le mem => ?_⟩
          have m810 := m9.trans m10
          have vl9 := m810 _ _ vl8
          have ml9 := m810 _ _ ml8
          refine ⟨_, rfl, _, rfl, vl, _, (m : Int), m, rfl, rfl, vl9, ix2 m2, ?_⟩
          rw [set2 (f := fun i => (A i).p) m2]
          have sp : ∀ (k : Nat), (if k = m then B.p else (A k).p) = (if k = m then B else A k).p := fun k => by
            by_cases e : k = m
            · rw [if_pos e, if_pos e]
            · rw [if_neg e, if_neg e]
          rw [sp, sp]
          have v8n : ∀ {q : Addr}, H9 q = none → q ≠ vl := fun w => (ne_of_none (m9 _ _ vl8) w).symm
          have i10 : IsVw C (L2.upd H10 vl (.lst [.ref (if 0 = m then B else A 0).p, .ref (if 1 = m then B else A 1).p])) B e := iB.put (v8n fB) (v8n (flB _ (by simp [VwAt.lists]))) (v8n (flB _ (by simp [VwAt.lists])))
          have ml10 : (L2.upd H10 vl (.lst [.ref (if 0 = m then B else A 0).p, .ref (if 1 = m then B else A 1).p])) ml = some (.lst [.ref (t 0), .ref (t 1)]) := by rw [upd_ne S.vm.symm]; exact ml9
          have v10 : (L2.upd H10 vl (.lst [.ref (if 0 = m then B else A 0).p, .ref (if 1 = m then B else A 1).p])) vl = some (.lst [.ref (if 0 = m then B else A 0).p, .ref (if 1 = m then B else A 1).p]) := upd_same
          have d10 : (L2.upd H10 vl (.lst [.ref (if 0 = m then B else A 0).p, .ref (if 1 = m then B else A 1).p])) D = some (.lst (us.map V.str)) := by rw [upd_ne (ne_of (m810 _ _ d8) vl9 (strs_refs _ _ _))]; exact m810 _ _ d8
          have kp10 : Kp st vl ml (A m).p (A m).l1 H (L2.upd H10 vl (.lst [.ref (if 0 = m then B else A 0).p, .ref (if 1 = m then B else A 1).p])) := (kp8.same m810).put (.inr (.inl rfl))
          have free9 : ∀ {q : Addr}, (L2.upd H10 vl (.lst [.ref (if 0 = m then B else A 0).p, .ref (if 1 = m then B else A 1).p])) q = none → H8 q = none := fun {q} w => m810.free (by
            rw [upd_ne (fun e => by rw [e, upd_same] at w; cases w)] at w
            exact w)
          generalize L2.upd H10 vl (.lst [.ref (if 0 = m then B else A 0).p, .ref (if 1 = m then B else A 1).p]) = H11 at i10 ml10 v10 d10 kp10 free9 ⊢
          refine fun q3 hq3 => ?_
          have m12 := same_new (Same.refl H11) hq3 (o := .dK [])
          have e123 : (L2.upd H11 q3 (.dK [])) q3 = some (.dK (sgV [])) := upd_same
          have f3 : H q3 = none := but_free b6 s6 (m8' (free9 hq3))
          have nB3 : B.l1 ≠ q3 := ne_of_none i10.sights hq3
          generalize L2.upd H11 q3 (.dK []) = H12 at m12 e123 ⊢
          have d12 := m12 _ _ d10
          have nD3 : D ≠ q3 := ne_of d12 e123 fun z => nomatch z
          refine ⟨_, rfl, D, rfl, ⟨_, SqL.of d12⟩, for_list (K := K) (xs := us.map V.str) (fun j σ H' => ∃ (tm : Tbl) (v14 : Option V), σ = [some (.ref st), some (.ref vl), some (.ref ml), some (.ref na), some (.int (m : Int)), some (.int kind), some (.str x), some (.str y), some (.ref D), some (.ref (A m).p), some (.ref q3), some (.ref q2), none, none, v14] ∧ But q3 H12 H' ∧ H' q3 = some (.dK (sgV tm)) ∧ Selfs tm (us.take j) ∧ tm.length ≤ j) ?_ ?_ ?_ ?_⟩
          · exact ⟨[], _, rfl, But.refl, e123, .nil, Nat.le_refl _⟩
          · rintro j σ' H' _ ⟨_, _, _, bu, _⟩
            exact SqL.of (bu _ _ d12 nD3)
          · rintro j z' σ' H' hj ⟨tm, v14, rfl, bu, eq, slt, lt'⟩
            obtain ⟨z, hz, rfl⟩ := strs_at hj
            have jl := (List.getElem?_eq_some_iff.mp hz).1
            have tk : us.take (j + 1) = us.take j ++ [z] := by rw [List.take_add_one, hz]; rfl
            refine ⟨_, rfl, _, rfl, _, rfl, q3, _, rfl, DPut.k (k := .inr z) eq (small1000 (by rw [sg_len]; omega)), ?_⟩
            rw [← sg_set]
            exact ⟨setS tm z z, _, rfl, bu.trans But.upd, upd_same, by rw [tk]; exact slt.set z, Nat.le_trans (set_len _ _ _) (by omega)⟩
          · rintro σ' H' ⟨tm, v14, rfl, bu, eq, slt, lt'⟩
            rw [List.length_map, List.take_length] at slt
            refine ⟨_, rfl, (by show 1 ≤ sizeLine; decide), fun q4 hq4 => ?_⟩
            have m13 := same_new (Same.refl H') hq4 (o := .lst [.str x])
            have e134 : (L2.upd H' q4 (.lst [.str x])) q4 = some (.lst (([x] : List PySem.Str).map V.str)) := upd_same
            generalize L2.upd H' q4 (.lst [.str x]) = H13 at m13 e134 ⊢
            have eh : e.holds = [x] := iB.asc.one ⟨rfl, by simp⟩ mem
            have ee : e = ⟨e.sights, [x]⟩ := by
              obtain ⟨e1, e2⟩ := e
              have eh : e2 = [x] := eh
              rw [eh]
            have i13 := ((i10.same m12).but bu (ne_of_none i10.ins hq3) nB3 (ne_of_none i10.holds hq3)).same m13
            rw [ee] at i13
            exact Or.inr ⟨by omega, q3, q4, _, _, rfl, B, e.sights, tm, [x], m13 _ _ (bu _ _ (m12 _ _ v10) (ne_of_none v10 hq3)), m13 _ _ (bu _ _ (m12 _ _ ml10) (ne_of_none ml10 hq3)), i13, m13 _ _ eq, e134, selfs_perm slf slt, by omega, ((kp10.same m12).but bu (.inl f3)).same m13, .inr (but_free b6 s6 (m8' (m9.free fB))), .inr (but_free b6 s6 (m8' (m9.free (flB _ (by simp [VwAt.lists]))))), nB3, f3⟩
        · exact ⟨_, rfl, rfl, _, rfl, kF h0 (Or.inl ⟨by omega, rfl, rfl⟩)⟩
      · exact ⟨_, rfl, rfl, _, rfl, kF (by omega) (Or.inr ⟨by omega, td, hd, v13, v14, rfl, dn⟩)⟩
    rintro σ7 G7 hp7
    -- the model's pair
    rcases hp7 with ⟨lt, rfl, rfl⟩ | ⟨le, td, hd, v13, v14, rfl, B, em, tm, hm, gvl, gml, iB, gtd, ghd, pm, len, kp, hBp, hBl, nBt, ftd⟩
    · omega
    refine ⟨_, rfl, _, rfl, (by show 2 ≤ sizeLine; decide), fun tt htt => ?_⟩
    have mt := same_new (Same.refl G7) htt (o := .tup [.ref td, .ref hd])
    have ett : (L2.upd G7 tt (.tup [.ref td, .ref hd])) tt = some (.tup [.ref td, .ref hd]) := upd_same
    generalize hG : L2.upd G7 tt (.tup [.ref td, .ref hd]) = G8 at mt ett ⊢
    have gml8 := mt _ _ gml
    refine ⟨_, rfl, _, rfl, ml, _, (m : Int), m, rfl, rfl, gml8, ix2 m2, ?_⟩
    rw [set2 (f := t) m2]
    have iB8 := iB.same mt
    have nmt : tt ≠ ml := ne_of ett gml8 fun z => nomatch z
    refine k _ (fun i => if i = m then B else A i) (fun i => if i = m then tt else t i) (fun i => if i = m then td else d i) (fun i => if i = m then hd else h i) (fun i => if i = m then em else es i) (fun i => if i = m then tm else ts i) (fun i => if i = m then hm else hs i) ⟨?_, ?_, ?_, ?_, ?_, ?_⟩ ?_ ?_
    · rw [upd_ne S.vm]
      exact mt _ _ gvl
    · rw [upd_same]
    · intro i hi
      by_cases e : i = m
      · subst e
        simp only [if_true]
        exact ⟨iB8.put (ne_of iB8.ins gml8 fun z => nomatch z) (ne_of iB8.sights gml8 fun z => nomatch z) (ne_of iB8.holds gml8 (strs_refs _ _ _)), by rw [upd_ne nmt]; exact ett, by rw [upd_ne (ne_of (mt _ _ gtd) gml8 fun z => nomatch z)]; exact mt _ _ gtd, by rw [upd_ne (ne_of (mt _ _ ghd) gml8 (strs_refs _ _ _))]; exact mt _ _ ghd, pm⟩
      · simp only [if_neg e]
        obtain ⟨df1, df2, _⟩ := S.dif i m hi m2 e
        refine (S.one i hi).keep fun b u eb w => ?_
        have nml : b ≠ ml := ne_of eb S.ml (by
          rcases w with ⟨rfl, _⟩ | ⟨rfl, _⟩ | ⟨ws', rfl⟩ | ⟨_, _, rfl⟩ | ⟨rfl, _⟩
          · exact fun z => nomatch z
          · exact fun z => nomatch z
          · exact strs_refs _ _ _
          · exact fun z => nomatch z
          · exact fun z => nomatch z)
        rw [upd_ne nml]
        refine mt _ _ (kp b u eb (hS.ne eb ?_) (ne_of eb S.vl ?_) nml ?_ ?_)
        · rintro x y z rfl
          rcases w with ⟨w, _⟩ | ⟨w, _⟩ | ⟨ws', w⟩ | ⟨_, _, w⟩ | ⟨w, _⟩
          · cases w
          · cases w
          · exact strs_ints ws' x y z w.symm
          · cases w
          · cases w
        · rcases w with ⟨rfl, _⟩ | ⟨rfl, _⟩ | ⟨ws', rfl⟩ | ⟨_, _, rfl⟩ | ⟨rfl, _⟩
          · exact fun z => nomatch z
          · exact fun z => nomatch z
          · exact strs_refs _ _ _
          · exact fun z => nomatch z
          · exact fun z => nomatch z
        · rcases w with ⟨rfl, rfl⟩ | ⟨rfl, _⟩ | ⟨ws', rfl⟩ | ⟨_, _, rfl⟩ | ⟨rfl, _⟩
          · exact df1
          · exact ne_of eb On.vw.ins fun z => nomatch z
          · exact ne_of eb On.vw.ins fun z => nomatch z
          · exact ne_of eb On.vw.ins fun z => nomatch z
          · exact ne_of eb On.vw.ins fun z => nomatch z
        · rcases w with ⟨rfl, _⟩ | ⟨rfl, rfl⟩ | ⟨ws', rfl⟩ | ⟨_, _, rfl⟩ | ⟨rfl, rfl⟩
          · exact ne_of eb On.vw.sights fun z => nomatch z
          · exact df2
          · exact ne_of eb On.vw.sights fun z => nomatch z
          · exact ne_of eb On.vw.sights fun z => nomatch z
          · exact (S.sep m i m2 hi).symm
    · intro i hi
      by_cases e : i = m
      · subst e; simp only [if_true]; exact len
      · simp only [if_neg e]
        have := S.few i hi
        omega
    · intro i j hi hj
      by_cases e : i = m
      · subst e
        by_cases f : j = i
        · subst f; simp only [if_true]; exact nBt
        · simp only [if_true, if_neg f]
          rcases hBl with w | w
          · rw [w]; exact S.sep i j hi hj
          · exact (ne_of_none (S.one j hj).d w).symm
      · by_cases f : j = m
        · subst f
          simp only [if_neg e, if_true]
          exact ne_of_none (S.one i hi).vw.sights ftd
        · simp only [if_neg e, if_neg f]
          exact S.sep i j hi hj
    · intro i j hi hj ij
      by_cases e : i = m
      · subst e
        have f : ¬ j = i := fun w => ij w.symm
        simp only [if_true, if_neg f]
        obtain ⟨g1, g2, g3⟩ := S.dif i j hi hj ij
        refine ⟨?_, ?_, (ne_of_none (S.one j hj).d ftd).symm⟩
        · rcases hBp with w | w
          · rw [w]; exact g1
          · exact (ne_of_none (S.one j hj).vw.ins w).symm
        · rcases hBl with w | w
          · rw [w]; exact g2
          · exact (ne_of_none (S.one j hj).vw.sights w).symm
      · by_cases f : j = m
        · subst f
          simp only [if_neg e, if_true]
          obtain ⟨g1, g2, g3⟩ := S.dif i j hi hj ij
          refine ⟨?_, ?_, ne_of_none (S.one i hi).d ftd⟩
          · rcases hBp with w | w
            · rw [w]; exact g1
            · exact ne_of_none (S.one i hi).vw.ins w
          · rcases hBl with w | w
            · rw [w]; exact g2
            · exact ne_of_none (S.one i hi).vw.sights w
        · simp only [if_neg e, if_neg f]
          exact S.dif i j hi hj ij
    · intro b o e n1 n2' n3 n4
      rw [upd_ne n3]
      exact mt _ _ (kp b o e n1 n2' n3 (n4 m m2).1 (n4 m m2).2)
    · intro i hi
      by_cases e : i = m
      · subst e; simp only [if_true]; exact ⟨hBp, hBl, .inr ftd⟩
      · simp only [if_neg e]; exact ⟨.inl trivial, .inl trivial, .inl trivial⟩
theorem cl_do8 (T : Bt mg) (c_law_draw : Cl P w K mg base 1 "_law_draw" spDraw []) (c_seeing : Cl P w K mg base 5 "seeing" (spSeeing8 K C) []) (y_View_setitem : Ow P w K mg base 2 C "__setitem__" (spVwSet C)) (m_View_hold_just : Me P w K mg base 3 C "hold_just" (spVwHold K C)) (m_View_copy : Me P w K mg base 5 C "copy" (spVwCopy C))
    (ax_View_BitOr : OpO.Ix P w K mg base 3 C "or" (spIor8 C)) (ax_View_Sub : OpO.Ix P w K mg base 3 C "sub" (spIsub8 K C)) (a : At K mg "_law_do" s_law_do) : Cl P w K mg base 6 "_law_do" (spDo8 C) [] := a.cal (ps := ["_law_stream_here", "_law_views", "_law_models", "_law_names_here"]) (fun _ _ F => ok_do8 T c_law_draw c_seeing y_View_setitem m_View_hold_just m_View_copy ax_View_BitOr ax_View_Sub F) (fun _ _ _ _ _ _ us hl => match us, hl with | [_, _, _, _], _ => rfl)
end
end Lw

namespace Lw
open PySem PySem.Spec PyProof.Rows L2 Txs
open C8 (pe_gc)
/-! ### the law: slots 0 _law_script, 1 _law_names_here, 2 _law_views, 3 _law_models, 4 _law_at, 5 _law_before, 6 _law_kept -/
def spLaw (K : PySem.W.Frag) : Sp := fun vs H Q _ => ∃ (a : Addr) (ns : List Int), vs = [.ref a] ∧ SqL K H a (ns.map V.int) ∧ ∀ H', Q (.bl true) H'
theorem S8.same {C : Addr} {H H' : Hp} {vl ml : Addr} {A : Nat → VwAt} {t d h : Nat → Addr} {es ts : Nat → Tbl} {hs : Nat → List PySem.Str} {n : Nat} (s : S8 C H vl ml A t d h es ts hs n) (k : Same H H') : S8 C H' vl ml A t d h es ts hs n := ⟨k _ _ s.vl, k _ _ s.ml, fun i hi => (s.one i hi).same k, s.few, s.sep, s.dif⟩
theorem asc1 (z : PySem.Str) : Asc [z] := ⟨rfl, by simp⟩
theorem asc0 : Asc [] := ⟨rfl, List.nodup_nil⟩
/-- two things, by their number -/
def two {α : Type} (x y : α) : Nat → α := fun i => if i = 0 then x else y
section
variable {P : Program} {w : World} {K : PySem.W.Frag} {mg : PySem.Str → Option Value} {base : Heap} {C cd : Addr}
theorem ok_law (T : Bt mg) (vc : VwC K C) (bi : Bi K C) (hcd : ∀ H : Hp, RowAt K H cd []) (c_law_stream : Cl P w K mg base 1 "_law_stream" (spStream K) []) (c_law_names : Cl P w K mg base 2 "_law_names" spNames []) (c_law_flag : Cl P w K mg base 1 "_law_flag" spFlag [])
    (c_law_do : Cl P w K mg base 6 "_law_do" (spDo8 C) []) (c_law_right : Cl P w K mg base 4 "_law_right" (spRight8 C) []) (k_View : Mr P w K mg base 3 "View" C (spView K C) []) (k_View0 : Mr P w K mg base 3 "View" C (spView K C) [.non, .ref cd])
    (m_View_copy : Me P w K mg base 5 C "copy" (spVwCopy C)) (o_View : Oq P w K mg base 1 C (spVwEq8 K C))
    {f : Addr} {fd : FuncData} (F : FunD K "law" "law" (defArgs s_law) (defBody s_law) (defScope s_law) [] [] f fd) : FnOk P w K mg base CX0 8 f fd ["_law_script"] (spLaw K) := by
  refine F.ok sc_law (fun vs H Q E h => ?_) (fun cdv A0' outer s0 H vs Q E hr h => ?_)
  · obtain ⟨a, ns, rfl, _⟩ := h
    rfl
  · obtain ⟨a, ns, rfl, ha, k⟩ := h
    have hu64 := hu64_of hr
    have hu3 := Nat.lt_of_le_of_lt (Nat.add_le_add_left (by decide : 3 ≤ 64) _) hu64
    have nfC : PySem.W.notFirst K C (.ref C) = true := by simp [PySem.W.notFirst]
    have tyP : ∀ {H : Hp} {A : VwAt} {d : Vw}, IsVw C H A d → TyX K H (.ref A.p) (.ref C) := fun i => bi.ty vc.cl i.ins
    refine ⟨_, PSs.nox (pss_cons (ps_set (i := 1) sc_law.nd rfl (Or.inl rfl) (pe_cl c_law_names hr (by decide) rfl (pa_cons (pe_cl c_law_stream hr (by decide) rfl (pa_cons (pv 0) (pa_cons pe_int pa_nil))) (pa_cons pe_int pa_nil)))) (pss_cons (ps_set (i := 2) sc_law.nd rfl (Or.inl rfl) (pe_lst (pa_cons (pe_mr0 k_View0 hr (by decide) rfl) (pa_cons (pe_mr k_View hr (by decide) rfl (pa_cons (pe_disp (pps_cons (pe_ix ix_list (pv 1) pe_int (fun _ _ => rfl)) (pe_ix ix_list (pv 1) pe_int (fun _ _ => rfl)) pps_nil) rfl rfl (fun z => nomatch z) (by decide)) (pa_cons (pe_lst (pa_cons (pe_ix ix_list (pv 1) pe_int (fun _ _ => rfl)) pa_nil)) pa_nil))) pa_nil)))) (pss_cons (ps_set (i := 3) sc_law.nd rfl (Or.inl rfl) (pe_lst (pa_cons (pe_tup (pa_cons pe_dnewK (pa_cons (pe_lst pa_nil) pa_nil))) (pa_cons (pe_tup (pa_cons (pe_disp (pps_cons (pe_ix ix_list (pv 1) pe_int (fun _ _ => rfl)) (pe_ix ix_list (pv 1) pe_int (fun _ _ => rfl)) pps_nil) rfl rfl (fun z => nomatch z) (by decide)) (pa_cons (pe_lst (pa_cons (pe_ix ix_list (pv 1) pe_int (fun _ _ => rfl)) pa_nil)) pa_nil))) pa_nil)))) (pss_cons (ps_for PassesOwn.never rfl (pi_range2 rfl T.b_range (pa_cons pe_int (pa_cons (pe_callB (call_min2 rfl) (by rfl) T.b_min (by decide +kernel) (pa_cons (pe_callB call_len_seq (by rfl) T.b_len PySem.boot_len (pa_cons (pv 0) pa_nil)) (pa_cons pe_int pa_nil))) pa_nil))) (pg_name (i := 4) sc_law.nd rfl (Or.inl rfl)) (pss_cons (ps_set (i := 5) sc_law.nd rfl (Or.inl rfl) (pe_me0 m_View_copy hr (by decide) (pe_ix ix_list (pv 2) pe_int (fun _ _ => rfl)))) (pss_cons (ps_set (i := 6) sc_law.nd rfl (Or.inl rfl) (pe_tup (pa_cons (pe_callTy call_dictD (by rfl) T.b_dict (by decide +kernel) (pa_cons (pe_ix ix_tup (pe_ix ix_list (pv 3) pe_int (fun _ _ => rfl)) pe_int (fun _ _ => rfl)) pa_nil)) (pa_cons (pe_callTy call_list_of (by rfl) T.b_list (by decide +kernel) (pa_cons (pe_ix ix_tup (pe_ix ix_list (pv 3) pe_int (fun _ _ => rfl)) pe_int (fun _ _ => rfl)) pa_nil)) pa_nil)))) (pss_cons (ps_expr (pe_cl c_law_do hr (by decide) rfl (pa_cons (pe_cl c_law_stream hr (by decide) rfl (pa_cons (pv 0) (pa_cons (pv 4) pa_nil))) (pa_cons (pv 2) (pa_cons (pv 3) (pa_cons (pv 1) pa_nil)))))) (pss_cons (ps_if (PW.pt (pw_or (pt_not (pt_val (pe_cl c_law_right hr (by decide) rfl (pa_cons (pe_ix ix_list (pv 2) pe_int (fun _ _ => rfl)) (pa_cons (pe_ix ix_list (pv 3) pe_int (fun _ _ => rfl)) (pa_cons (pv 1) pa_nil)))))) (pw_or1 (pt_not (pt_val (pe_cl c_law_right hr (by decide) rfl (pa_cons (pe_ix ix_list (pv 2) pe_int (fun _ _ => rfl)) (pa_cons (pe_ix ix_list (pv 3) pe_int (fun _ _ => rfl)) (pa_cons (pv 1) pa_nil))))))))) (pss_one (ps_ret pe_bl)) pss_nil) (pss_cons (ps_if (PW.pt (pw_or (pt_not (pt_val (pe_cl c_law_right hr (by decide) rfl (pa_cons (pv 5) (pa_cons (pv 6) (pa_cons (pv 1) pa_nil)))))) (pw_or1 (pt_not (pt_val (pe_cl c_law_flag hr (by decide) rfl (pa_cons (pe_cmpR (op_oq o_View hr (by decide)) (pv 5) (pe_ix ix_list (pv 2) pe_int (fun _ _ => rfl)) (nomark _)) (pa_cons (pe_cmpR (Txs.op_eq_pairT hu3) (pv 6) (pe_ix ix_list (pv 3) pe_int (fun _ _ => rfl)) (nomark _)) pa_nil)))))))) (pss_one (ps_ret pe_bl)) pss_nil) (pss_one (ps_if (pt_not (pt_val (pe_cl c_law_flag hr (by decide) rfl (pa_cons (pe_cmpR (op_oq o_View hr (by decide)) (pe_ix ix_list (pv 2) pe_int (fun _ _ => rfl)) (pe_ix ix_list (pv 2) pe_int (fun _ _ => rfl)) (nomark _)) (pa_cons (pe_cmpR (Txs.op_eq_pairT hu3) (pe_ix ix_list (pv 3) pe_int (fun _ _ => rfl)) (pe_ix ix_list (pv 3) pe_int (fun _ _ => rfl)) (nomark _)) pa_nil))))) (pss_one (ps_ret pe_bl)) pss_nil)))))))) (pss_one (ps_ret (pe_and (pe_cl c_law_right hr (by decide) rfl (pa_cons (pe_ix ix_list (pv 2) pe_int (fun _ _ => rfl)) (pa_cons (pe_ix ix_list (pv 3) pe_int (fun _ _ => rfl)) (pa_cons (pv 1) pa_nil)))) (pe_one (pe_cl c_law_right hr (by decide) rfl (pa_cons (pe_ix ix_list (pv 2) pe_int (fun _ _ => rfl)) (pa_cons (pe_ix ix_list (pv 3) pe_int (fun _ _ => rfl)) (pa_cons (pv 1) pa_nil)))))))))))), ?_⟩
    refine ⟨_, rfl, a, ns, 0, rfl, ha, fun st H1 m1 f1 s1 => ?_⟩
    refine ⟨st, 5, rfl, s1, by decide, fun na ws H2 f2 b2 s2 l2 len2 all2 => ?_⟩
    have m2 : Same H H2 := fun b o e => b2 _ _ (m1 _ _ e) (ne_of_none e f1)
    have at_ : ∀ {j : Nat}, j < 5 → ∃ z, (ws.map V.str)[j]? = some (.str z) ∧ Nm z := fun {j} hj => by
      have hm : j < ws.length := by omega
      exact ⟨ws[j], by rw [List.getElem?_map, List.getElem?_eq_getElem hm]; rfl, all2 _ (List.getElem_mem hm)⟩
    obtain ⟨x0, hx0, nx0⟩ := at_ (j := 0) (by decide)
    obtain ⟨x1, hx1, nx1⟩ := at_ (j := 1) (by decide)
    obtain ⟨x2, hx2, nx2⟩ := at_ (j := 2) (by decide)
    have a0 : atI (ws.map V.str) 0 = some (V.str x0) := atI_ok (n := 0) rfl hx0
    have a1 : atI (ws.map V.str) 1 = some (V.str x1) := atI_ok (n := 1) rfl hx1
    have a2 : atI (ws.map V.str) 2 = some (V.str x2) := atI_ok (n := 2) rfl hx2
    -- the first view
    intro x dx nx ndx nex
    have mx : Same H2 (L2.upd (L2.upd H2 dx (.own x)) x (.ins C dx [])) := same_new (same_new (Same.refl _) ndx) (by rw [upd_ne nex.symm]; exact nx)
    refine ⟨x, dx, .non, cd, [], [], rfl, upd_same, .inl ⟨rfl, rfl⟩, List.nodup_nil, fun e he => absurd he List.not_mem_nil, Nat.zero_le _, hcd _, fun h hh => absurd hh List.not_mem_nil, Nat.zero_le _, fun A0 d0 H3 eA edx fr0 bu i0 es0 mem0 => ⟨rfl, ?_⟩⟩
    subst eA
    have m3 : Same H2 H3 := fun b o e => bu b o (mx b o e) (ne_of_none e nx)
    have ed0 : d0 = ⟨[], []⟩ := by
      obtain ⟨e1, e2⟩ := d0
      have h1 : e1 = [] := es0
      have h2 : e2 = [] := List.eq_nil_iff_forall_not_mem.mpr fun z hz => absurd ((mem0 z).1 hz) List.not_mem_nil
      rw [h1, h2]
    subst ed0
    have fA0 : H2 A0.p = none ∧ H2 A0.l1 = none := ⟨nx, mx.free (fr0 _ (by simp [VwAt.lists]))⟩
    have l3 := m3 _ _ l2
    -- the second view
    refine fun p hp => ?_
    have lp : (L2.upd H3 p (.dK [])) na = some (.lst (ws.map V.str)) := by rw [upd_ne (ne_of_none l3 hp)]; exact l3
    refine ⟨_, rfl, na, _, _, .str x0, rfl, rfl, SqL.of lp, a0, _, rfl, na, _, _, .str x1, rfl, rfl, SqL.of lp, a1, upd_same, [(.inr x0, .str x1)], rfl, by show 1 ≤ 15; decide, ?_⟩
    rw [show mergeK [] [((.inr x0 : Key), V.str x1)] = sgV [(x0, x1)] from rfl, upd_upd]
    have m4 := same_new m3 hp (o := .dK (sgV [(x0, x1)]))
    have m34 := same_new (Same.refl H3) hp (o := .dK (sgV [(x0, x1)]))
    have ep : (L2.upd H3 p (.dK (sgV [(x0, x1)]))) p = some (.dK (sgV [(x0, x1)])) := upd_same
    generalize L2.upd H3 p (.dK (sgV [(x0, x1)])) = H4 at m4 m34 ep ⊢
    refine ⟨_, rfl, na, _, _, .str x2, rfl, rfl, SqL.of (m4 _ _ l2), a2, (by show 1 ≤ sizeLine; decide), fun q hq => ?_⟩
    have m45 := same_new (Same.refl H4) hq (o := .lst [.str x2])
    have eq : (L2.upd H4 q (.lst [.str x2])) q = some (.lst (([x2] : List PySem.Str).map V.str)) := upd_same
    generalize L2.upd H4 q (.lst [.str x2]) = H5 at m45 eq ⊢
    intro y dy ny ndy ney
    have my : Same H5 (L2.upd (L2.upd H5 dy (.own y)) y (.ins C dy [])) := same_new (same_new (Same.refl _) ndy) (by rw [upd_ne ney.symm]; exact ny)
    refine ⟨y, dy, .ref p, q, [(x0, x1)], [x2], rfl, upd_same, .inr ⟨p, rfl, my _ _ (m45 _ _ ep)⟩, by simp, fun e he => by rw [List.mem_singleton.mp he]; exact ⟨nx0, nx1⟩, by show 1 ≤ 100; decide, .lst (my _ _ eq), fun h hh => by rw [List.mem_singleton.mp hh]; exact nx2, by show 1 ≤ 60; decide, fun A1 d1 H6 eA edy fr1 bu1 i1 es1 mem1 => ⟨rfl, ?_⟩⟩
    subst eA
    have m56 : Same H5 H6 := fun b o e => bu1 b o (my b o e) (ne_of_none e ny)
    have ed1 : d1 = ⟨[(x0, x1)], [x2]⟩ := by
      obtain ⟨e1, e2⟩ := d1
      have h1 : e1 = [(x0, x1)] := es1
      have h2 : e2 = [x2] := i1.asc.one (asc1 x2) mem1
      rw [h1, h2]
    subst ed1
    have m36 : Same H3 H6 := m34.trans (m45.trans m56)
    have fA1 : H5 A1.p = none ∧ H5 A1.l1 = none := ⟨ny, my.free (fr1 _ (by simp [VwAt.lists]))⟩
    have i06 := i0.same m36
    have i05 := i0.same (m34.trans m45)
    refine ⟨(by show 2 ≤ sizeLine; decide), fun vl hvl => ?_⟩
    have m67 := same_new (Same.refl H6) hvl (o := .lst [.ref A0.p, .ref A1.p])
    have e7v : (L2.upd H6 vl (.lst [.ref A0.p, .ref A1.p])) vl = some (.lst [.ref A0.p, .ref A1.p]) := upd_same
    have fvl : H2 vl = none := (m3.trans m36).free hvl
    generalize L2.upd H6 vl (.lst [.ref A0.p, .ref A1.p]) = H7 at m67 e7v ⊢
    -- the models
    refine fun d0 hd0 => ?_
    have m78 := same_new (Same.refl H7) hd0 (o := .dK [])
    have e8d : (L2.upd H7 d0 (.dK [])) d0 = some (.dK (sgV [])) := upd_same
    have nd0 : A0.l1 ≠ d0 ∧ A1.l1 ≠ d0 := ⟨ne_of_none (m67 _ _ i06.sights) hd0, ne_of_none (m67 _ _ i1.sights) hd0⟩
    generalize L2.upd H7 d0 (.dK []) = H8 at m78 e8d ⊢
    refine ⟨Nat.zero_le _, fun h0 hh0 => ?_⟩
    have m89 := same_new (Same.refl H8) hh0 (o := .lst [])
    have e9h : (L2.upd H8 h0 (.lst [])) h0 = some (.lst (([] : List PySem.Str).map V.str)) := upd_same
    generalize L2.upd H8 h0 (.lst []) = H9 at m89 e9h ⊢
    refine ⟨(by show 2 ≤ sizeLine; decide), fun t0 ht0 => ?_⟩
    have m9a := same_new (Same.refl H9) ht0 (o := .tup [.ref d0, .ref h0])
    have eat : (L2.upd H9 t0 (.tup [.ref d0, .ref h0])) t0 = some (.tup [.ref d0, .ref h0]) := upd_same
    generalize L2.upd H9 t0 (.tup [.ref d0, .ref h0]) = Ha at m9a eat ⊢
    have m2a : Same H2 Ha := (m3.trans m36).trans (m67.trans (m78.trans (m89.trans m9a)))
    refine fun d1 hd1 => ?_
    have lb : (L2.upd Ha d1 (.dK [])) na = some (.lst (ws.map V.str)) := by rw [upd_ne (ne_of_none (m2a _ _ l2) hd1)]; exact m2a _ _ l2
    have nd1 : A0.l1 ≠ d1 ∧ A1.l1 ≠ d1 := ⟨ne_of_none ((m67.trans (m78.trans (m89.trans m9a))) _ _ i06.sights) hd1, ne_of_none ((m67.trans (m78.trans (m89.trans m9a))) _ _ i1.sights) hd1⟩
    have nd01 : d0 ≠ d1 := ne_of_none (m9a _ _ (m89 _ _ e8d)) hd1
    refine ⟨_, rfl, na, _, _, .str x0, rfl, rfl, SqL.of lb, a0, _, rfl, na, _, _, .str x1, rfl, rfl, SqL.of lb, a1, upd_same, [(.inr x0, .str x1)], rfl, by show 1 ≤ 15; decide, ?_⟩
    rw [show mergeK [] [((.inr x0 : Key), V.str x1)] = sgV [(x0, x1)] from rfl, upd_upd]
    have mab := same_new (Same.refl Ha) hd1 (o := .dK (sgV [(x0, x1)]))
    have ebd : (L2.upd Ha d1 (.dK (sgV [(x0, x1)]))) d1 = some (.dK (sgV [(x0, x1)])) := upd_same
    generalize L2.upd Ha d1 (.dK (sgV [(x0, x1)])) = Hb at mab ebd ⊢
    refine ⟨_, rfl, na, _, _, .str x2, rfl, rfl, SqL.of ((m2a.trans mab) _ _ l2), a2, (by show 1 ≤ sizeLine; decide), fun h1 hh1 => ?_⟩
    have mbc := same_new (Same.refl Hb) hh1 (o := .lst [.str x2])
    have ech : (L2.upd Hb h1 (.lst [.str x2])) h1 = some (.lst (([x2] : List PySem.Str).map V.str)) := upd_same
    generalize L2.upd Hb h1 (.lst [.str x2]) = Hc at mbc ech ⊢
    refine ⟨(by show 2 ≤ sizeLine; decide), fun t1 ht1 => ?_⟩
    have mcd := same_new (Same.refl Hc) ht1 (o := .tup [.ref d1, .ref h1])
    have edt : (L2.upd Hc t1 (.tup [.ref d1, .ref h1])) t1 = some (.tup [.ref d1, .ref h1]) := upd_same
    generalize L2.upd Hc t1 (.tup [.ref d1, .ref h1]) = Hd at mcd edt ⊢
    refine ⟨(by show 2 ≤ sizeLine; decide), fun ml hml => ?_⟩
    have mde := same_new (Same.refl Hd) hml (o := .lst [.ref t0, .ref t1])
    have eem : (L2.upd Hd ml (.lst [.ref t0, .ref t1])) ml = some (.lst [.ref t0, .ref t1]) := upd_same
    have m2d : Same H2 Hd := m2a.trans (mab.trans (mbc.trans mcd))
    have fml : H2 ml = none := m2d.free hml
    generalize L2.upd Hd ml (.lst [.ref t0, .ref t1]) = He at mde eem ⊢
    have mae : Same Ha He := mab.trans (mbc.trans (mcd.trans mde))
    have m7e : Same H7 He := (m78.trans (m89.trans m9a)).trans mae
    have m6e : Same H6 He := m67.trans m7e
    have m2e : Same H2 He := (m3.trans m36).trans m6e
    have S0 : S8 C He vl ml (two A0 A1) (two t0 t1) (two d0 d1) (two h0 h1) (two [] [(x0, x1)]) (two [] [(x0, x1)]) (two [] [x2]) 2 := by
      refine ⟨m7e _ _ e7v, eem, ?_, ?_, ?_, ?_⟩
      · intro i hi
        match i, hi with
        | 0, _ => exact ⟨i06.same m6e, mae _ _ eat, mae _ _ (m9a _ _ (m89 _ _ e8d)), mae _ _ (m9a _ _ e9h), List.Perm.refl _⟩
        | 1, _ => exact ⟨i1.same m6e, mde _ _ edt, (mbc.trans (mcd.trans mde)) _ _ ebd, (mcd.trans mde) _ _ ech, List.Perm.refl _⟩
      · intro i hi
        match i, hi with
        | 0, _ => exact Nat.zero_le _
        | 1, _ => show 1 ≤ 2; decide
      · intro i j hi hj
        match i, hi, j, hj with
        | 0, _, 0, _ => exact nd0.1
        | 0, _, 1, _ => exact nd1.1
        | 1, _, 0, _ => exact nd0.2
        | 1, _, 1, _ => exact nd1.2
      · have p01 : A0.p ≠ A1.p := ne_of_none i05.ins fA1.1
        have l01 : A0.l1 ≠ A1.l1 := ne_of_none i05.sights fA1.2
        intro i j hi hj ij
        match i, hi, j, hj with
        | 0, _, 0, _ => exact absurd rfl ij
        | 0, _, 1, _ => exact ⟨p01, l01, nd01⟩
        | 1, _, 0, _ => exact ⟨p01.symm, l01.symm, nd01.symm⟩
        | 1, _, 1, _ => exact absurd rfl ij
    have ka0 : ∀ o, H a = some o → a ≠ vl ∧ a ≠ ml ∧ ∀ i, i < 2 → a ≠ (two A0 A1 i).p ∧ a ≠ (two A0 A1 i).l1 := fun o e => by
      have e2 := m2 _ _ e
      refine ⟨ne_of_none e2 fvl, ne_of_none e2 fml, fun i hi => ?_⟩
      match i, hi with
      | 0, _ => exact ⟨ne_of_none e2 fA0.1, ne_of_none e2 fA0.2⟩
      | 1, _ => exact ⟨ne_of_none ((m3.trans (m34.trans m45)) _ _ e2) fA1.1, ne_of_none ((m3.trans (m34.trans m45)) _ _ e2) fA1.2⟩
    have le := m2e _ _ l2
    -- the loop
    refine ⟨_, rfl, a, _, rfl, .inl (sqL_keep ha (fun o e => m2e _ _ (m2 _ _ e))), _, _, rfl, _, _, rfl, ?_, ?_⟩
    · refine ⟨by decide, by decide, ?_, ?_⟩
      · split <;> omega
      · split <;> omega
    refine for_range (fun j σ H' => ∃ (A : Nat → VwAt) (t d h : Nat → Addr) (es ts : Nat → Tbl) (hs : Nat → List PySem.Str) (v4 v5 v6 : Option V), σ = [some (.ref a), some (.ref na), some (.ref vl), some (.ref ml), v4, v5, v6] ∧ S8 C H' vl ml A t d h es ts hs (2 + j) ∧
      (∀ o, H a = some o → H' a = some o ∧ a ≠ vl ∧ a ≠ ml ∧ ∀ i, i < 2 → a ≠ (A i).p ∧ a ≠ (A i).l1) ∧ H' na = some (.lst (ws.map V.str))) ?_ ?_ ?_
    · exact ⟨two A0 A1, two t0 t1, two d0 d1, two h0 h1, two [] [(x0, x1)], two [] [(x0, x1)], two [] [x2], _, _, _, rfl, S0, fun o e => ⟨m2e _ _ (m2 _ _ e), ka0 o e⟩, le⟩
    · rintro j σ G hj ⟨A, t, d, h, es, ts, hs, v4, v5, v6, rfl, S, ka, gna⟩
      have j60 : j < 60 := by
        revert hj
        split <;> omega
      have z2 : (0 : Nat) < 2 := by decide
      have o2 : (1 : Nat) < 2 := by decide
      have O0 := S.one 0 z2
      -- what stood before
      refine ⟨_, rfl, vl, _, _, .ref (A 0).p, rfl, rfl, SqL.of S.vl, rfl, (A 0).p, (A 0).dx, _, rfl, O0.vw.ins, vwF_no, A 0, ⟨es 0, hs 0⟩, rfl, O0.vw, fun B G1 fB flB n1 iB => ?_⟩
      have S1 := S.same n1
      have O1 := S1.one 0 z2
      refine ⟨_, rfl, ml, _, _, .ref (t 0), rfl, rfl, SqL.of S1.ml, rfl, t 0, _, _, .ref (d 0), rfl, rfl, SqT.of O1.t, rfl, d 0, _, rfl, .inl O1.d, fun kd hkd => ?_⟩
      have n12 := same_new (Same.refl G1) hkd (o := .dK (sgV (ts 0)))
      have ekd : (L2.upd G1 kd (.dK (sgV (ts 0)))) kd = some (.dK (sgV (ts 0))) := upd_same
      generalize L2.upd G1 kd (.dK (sgV (ts 0))) = G2 at n12 ekd ⊢
      have S2 := S1.same n12
      have O2 := S2.one 0 z2
      refine ⟨_, rfl, ml, _, _, .ref (t 0), rfl, rfl, SqL.of S2.ml, rfl, t 0, _, _, .ref (h 0), rfl, rfl, SqT.of O2.t, rfl, h 0, _, rfl, .inl (SqL.of O2.h), fun kh hkh => ?_⟩
      have n23 := same_new (Same.refl G2) hkh (o := .lst ((hs 0).map V.str))
      have ekh : (L2.upd G2 kh (.lst ((hs 0).map V.str))) kh = some (.lst ((hs 0).map V.str)) := upd_same
      generalize L2.upd G2 kh (.lst ((hs 0).map V.str)) = G3 at n23 ekh ⊢
      refine ⟨(by show 2 ≤ sizeLine; decide), fun kt hkt => ?_⟩
      have n34 := same_new (Same.refl G3) hkt (o := .tup [.ref kd, .ref kh])
      have ekt : (L2.upd G3 kt (.tup [.ref kd, .ref kh])) kt = some (.tup [.ref kd, .ref kh]) := upd_same
      generalize L2.upd G3 kt (.tup [.ref kd, .ref kh]) = G4 at n34 ekt ⊢
      have n14 := n12.trans (n23.trans n34)
      have n04 := n1.trans n14
      have KB : One C G4 B kt kd kh (es 0) (ts 0) (hs 0) := ⟨iB.same n14, ekt, (n23.trans n34) _ _ ekd, n34 _ _ ekh, O0.pm⟩
      have S4 := S.same n04
      -- the deed
      refine ⟨_, rfl, _, rfl, a, ns, j + 1, congrArg (fun z => [V.ref a, V.int z]) (by omega : (1 + (j : Int)) = ((j + 1 : Nat) : Int)), sqL_keep ha (fun o e => n04 _ _ (ka o e).1), fun st G5 n5 f5 s5 => ?_⟩
      have S5 := S4.same n5
      have KB5 := KB.same n5
      have n05 := n04.trans n5
      refine ⟨_, rfl, _, rfl, _, rfl, st, vl, ml, na, A, t, d, h, es, ts, hs, 2 + j, ws, rfl, s5, S5, by omega, by omega, n05 _ _ gna, len2, all2, fun G6 A' t' d' h' es' ts' hs' S6 kp chg => ?_⟩
      have nst : ∀ {b : Addr} {u : HO}, G4 b = some u → b ≠ st := fun e => ne_of_none e f5
      have KB6 : One C G6 B kt kd kh (es 0) (ts 0) (hs 0) := by
        refine KB.keep fun b u eb w => kp b u (n5 _ _ eb) (nst eb) (ne_of eb S4.vl ?_) (ne_of eb S4.ml ?_) fun i hi => ⟨?_, ?_⟩
        · rcases w with ⟨rfl, _⟩ | ⟨rfl, _⟩ | ⟨ws', rfl⟩ | ⟨_, _, rfl⟩ | ⟨rfl, _⟩
          · exact fun z => nomatch z
          · exact fun z => nomatch z
          · exact strs_refs _ _ _
          · exact fun z => nomatch z
          · exact fun z => nomatch z
        · rcases w with ⟨rfl, _⟩ | ⟨rfl, _⟩ | ⟨ws', rfl⟩ | ⟨_, _, rfl⟩ | ⟨rfl, _⟩
          · exact fun z => nomatch z
          · exact fun z => nomatch z
          · exact strs_refs _ _ _
          · exact fun z => nomatch z
          · exact fun z => nomatch z
        · rcases w with ⟨rfl, rfl⟩ | ⟨rfl, _⟩ | ⟨ws', rfl⟩ | ⟨_, _, rfl⟩ | ⟨rfl, _⟩
          · exact (ne_of_none (S.one i hi).vw.ins fB).symm
          · exact ne_of eb (S4.one i hi).vw.ins fun z => nomatch z
          · exact ne_of eb (S4.one i hi).vw.ins fun z => nomatch z
          · exact ne_of eb (S4.one i hi).vw.ins fun z => nomatch z
          · exact ne_of eb (S4.one i hi).vw.ins fun z => nomatch z
        · rcases w with ⟨rfl, _⟩ | ⟨rfl, rfl⟩ | ⟨ws', rfl⟩ | ⟨_, _, rfl⟩ | ⟨rfl, rfl⟩
          · exact ne_of eb (S4.one i hi).vw.sights fun z => nomatch z
          · exact (ne_of_none (S.one i hi).vw.sights (flB _ (by simp [VwAt.lists]))).symm
          · exact ne_of eb (S4.one i hi).vw.sights fun z => nomatch z
          · exact ne_of eb (S4.one i hi).vw.sights fun z => nomatch z
          · exact (ne_of_none (S1.one i hi).vw.sights hkd).symm
      have na6 : G6 na = some (.lst (ws.map V.str)) := kp _ _ (n05 _ _ gna) (nst (n04 _ _ gna)) (ne_of gna S.vl (strs_refs _ _ _)) (ne_of gna S.ml (strs_refs _ _ _)) fun i hi => ⟨ne_of gna (S.one i hi).vw.ins (fun z => nomatch z), ne_of gna (S.one i hi).vw.sights (fun z => nomatch z)⟩
      have ka6 : ∀ o, H a = some o → G6 a = some o ∧ a ≠ vl ∧ a ≠ ml ∧ ∀ i, i < 2 → a ≠ (A' i).p ∧ a ≠ (A' i).l1 := fun o e => by
        obtain ⟨g1, g2, g3, g4⟩ := ka o e
        refine ⟨kp _ _ (n05 _ _ g1) (nst (n04 _ _ g1)) g2 g3 g4, g2, g3, fun i hi => ?_⟩
        obtain ⟨c1, c2, _⟩ := chg i hi
        refine ⟨?_, ?_⟩
        · rcases c1 with c | c
          · rw [c]; exact (g4 i hi).1
          · exact ne_of_none (n05 _ _ g1) c
        · rcases c2 with c | c
          · rw [c]; exact (g4 i hi).2
          · exact ne_of_none (n05 _ _ g1) c
      have P0 := S6.one 0 z2
      have P1 := S6.one 1 o2
      have q0 := S6.few 0 z2
      have q1 := S6.few 1 o2
      -- both are right
      refine ⟨_, rfl, vl, _, _, .ref (A' 0).p, rfl, rfl, SqL.of S6.vl, rfl, _, rfl, ml, _, _, .ref (t' 0), rfl, rfl, SqL.of S6.ml, rfl, _, rfl, A' 0, t' 0, d' 0, h' 0, es' 0, ts' 0, hs' 0, na, ws, rfl, P0, by omega, na6, all2, fun G7 n7 => ⟨true, rfl, iteF ?_⟩⟩
      have S7 := S6.same n7
      refine ⟨_, rfl, vl, _, _, .ref (A' 1).p, rfl, rfl, SqL.of S7.vl, rfl, _, rfl, ml, _, _, .ref (t' 1), rfl, rfl, SqL.of S7.ml, rfl, _, rfl, A' 1, t' 1, d' 1, h' 1, es' 1, ts' 1, hs' 1, na, ws, rfl, S7.one 1 o2, by omega, n7 _ _ na6, all2, fun G8 n8 => ⟨true, rfl, iteF ?_⟩⟩
      have S8' := S7.same n8
      have KB8 := (KB6.same n7).same n8
      have f0 := S.few 0 z2
      refine ⟨_, rfl, _, rfl, _, rfl, B, kt, kd, kh, es 0, ts 0, hs 0, na, ws, rfl, KB8, by omega, n8 _ _ (n7 _ _ na6), all2, fun G9 n9 => ⟨true, rfl, iteF ?_⟩⟩
      have S9 := S8'.same n9
      have KB9 := KB8.same n9
      have Q0 := S9.one 0 z2
      have Q1 := S9.one 1 o2
      -- is it as before?
      have nkd : kd ≠ d' 0 := by
        rcases (chg 0 z2).2.2 with c | c
        · rw [c]; exact (ne_of_none O1.d hkd).symm
        · exact ne_of_none KB5.d c
      have eq1 : (eqK (sgV (es 0)) (sgV (es' 0)) && decide (hs 0 = hs' 0)) = (eqK (sgV (ts 0)) (sgV (ts' 0)) && decide (hs 0 = hs' 0)) := by rw [eqK_perm Q0.vw.nd O0.pm Q0.pm]
      have eq2 : (eqK (sgV (es' 0)) (sgV (es' 1)) && decide (hs' 0 = hs' 1)) = (eqK (sgV (ts' 0)) (sgV (ts' 1)) && decide (hs' 0 = hs' 1)) := by rw [eqK_perm Q1.vw.nd Q0.pm Q1.pm]
      refine ⟨_, rfl, _, rfl, vl, _, _, .ref (A' 0).p, rfl, rfl, SqL.of S9.vl, rfl, B.p, B.dx, _, .ref C, rfl, KB9.vw.ins, tyP Q0.vw, nfC, B, A' 0, ⟨es 0, hs 0⟩, ⟨es' 0, hs' 0⟩, rfl, KB9.vw, Q0.vw, tyP Q0.vw, _, rfl, ?_⟩
      refine ⟨_, rfl, _, rfl, ml, _, _, .ref (t' 0), rfl, rfl, SqL.of S9.ml, rfl, kt, t' 0, kd, d' 0, kh, h' 0, _, _, hs 0, hs' 0, rfl, rfl, SqT.of KB9.t, SqT.of Q0.t, KB9.d, Q0.d, nkd, sg_nd KB9.nd, sg_strV _, sg_strV _, SqL.of KB9.h, SqL.of Q0.h, ?_⟩
      refine ⟨_, by rw [← eq1]; rfl, true, rfl, iteF ?_⟩
      -- the two
      refine ⟨_, rfl, vl, _, _, .ref (A' 0).p, rfl, rfl, SqL.of S9.vl, rfl, _, rfl, vl, _, _, .ref (A' 1).p, rfl, rfl, SqL.of S9.vl, rfl, (A' 0).p, (A' 0).dx, _, .ref C, rfl, Q0.vw.ins, tyP Q1.vw, nfC, A' 0, A' 1, ⟨es' 0, hs' 0⟩, ⟨es' 1, hs' 1⟩, rfl, Q0.vw, Q1.vw, tyP Q1.vw, _, rfl, ?_⟩
      refine ⟨_, rfl, ml, _, _, .ref (t' 0), rfl, rfl, SqL.of S9.ml, rfl, _, rfl, ml, _, _, .ref (t' 1), rfl, rfl, SqL.of S9.ml, rfl, t' 0, t' 1, d' 0, d' 1, h' 0, h' 1, _, _, hs' 0, hs' 1, rfl, rfl, SqT.of Q0.t, SqT.of Q1.t, Q0.d, Q1.d, (S9.dif 0 1 z2 o2 (by decide)).2.2, sg_nd Q0.nd, sg_strV _, sg_strV _, SqL.of Q0.h, SqL.of Q1.h, ?_⟩
      refine ⟨_, by rw [← eq2]; rfl, true, rfl, iteF ?_⟩
      have n69 := n7.trans (n8.trans n9)
      exact ⟨A', t', d', h', es', ts', hs', _, _, _, rfl, S9, fun o e => ⟨n69 _ _ (ka6 o e).1, (ka6 o e).2⟩, n69 _ _ na6⟩
    · rintro σ G ⟨A, t, d, h, es, ts, hs, v4, v5, v6, rfl, S, ka, gna⟩
      have z2 : (0 : Nat) < 2 := by decide
      have o2 : (1 : Nat) < 2 := by decide
      have q0 := S.few 0 z2
      have q1 := S.few 1 o2
      have c0 : (es 0).length < 64 := by revert q0; split <;> omega
      have c1 : (es 1).length < 64 := by revert q1; split <;> omega
      refine ⟨_, rfl, vl, _, _, .ref (A 0).p, rfl, rfl, SqL.of S.vl, rfl, _, rfl, ml, _, _, .ref (t 0), rfl, rfl, SqL.of S.ml, rfl, _, rfl, A 0, t 0, d 0, h 0, es 0, ts 0, hs 0, na, ws, rfl, S.one 0 z2, c0, gna, all2, fun G1 n1 => ?_⟩
      have S1 := S.same n1
      refine ⟨_, rfl, iteT ?_⟩
      refine ⟨_, rfl, vl, _, _, .ref (A 1).p, rfl, rfl, SqL.of S1.vl, rfl, _, rfl, ml, _, _, .ref (t 1), rfl, rfl, SqL.of S1.ml, rfl, _, rfl, A 1, t 1, d 1, h 1, es 1, ts 1, hs 1, na, ws, rfl, S1.one 1 o2, c1, n1 _ _ gna, all2, fun G2 n2 => ?_⟩
      exact k _
end
end Lw

namespace Lw
open PySem PySem.Spec PyProof.Rows L2 Txs
/-! ### what the top leaves -/
def tupA (K : PySem.W.Frag) (a : Addr) : Bool := match K.lookup a with
  | some ⟨.type c, _, .seq its _, _⟩ => decide (c = "tuple") && decide (its.size = 0)
  | _ => false
theorem tupA_ok {K : PySem.W.Frag} {a : Addr} (h : tupA K a = true) (H : Hp) : RowAt K H a [] := by
  unfold tupA at h
  cases q : K.lookup a with
  | none => rw [q] at h; cases h
  | some o =>
    obtain ⟨oc, od, dt, osl⟩ := o
    rw [q] at h
    cases oc with
    | type c =>
      cases dt with
      | seq its n =>
        obtain ⟨h1, h2⟩ := He.ba (show (decide (c = "tuple") && decide (its.size = 0)) = true from h)
        have h1 := of_decide_eq_true h1
        have h2 := of_decide_eq_true h2
        subst h1
        have e : its.toList = [] := by
          apply List.eq_nil_of_length_eq_zero
          rw [Array.length_toList]; exact h2
        refine ⟨.inr (.inr ⟨_, its, n, q, rfl, rfl, by omega, by rw [e]; exact .nil⟩), _, .kTuple q rfl, kit_tuple⟩
      | _ => cases h
    | _ => cases h
def ixB (K : PySem.W.Frag) (C f : Addr) (nm : String) : Bool := PySem.W.selfFirst K C && (He.eqO (PySem.W.findIn K (.ref C) (dunderI nm)) (some (some (.ref f))) && PySem.W.isFn K (.ref f))
theorem ixB_ok {K : PySem.W.Frag} {C f : Addr} {nm : String} (h : ixB K C f nm = true) : PySem.W.selfFirst K C = true ∧ PySem.W.findIn K (.ref C) (dunderI nm) = some (some (.ref f)) ∧ PySem.W.isFn K (.ref f) = true := by
  obtain ⟨h1, h⟩ := He.ba h
  obtain ⟨h2, h3⟩ := He.ba h
  exact ⟨h1, He.eqO_ok h2, h3⟩
def dp_law_flag : Hd.DefP := ⟨fun K => He.ga K "_law_flag", "_law_flag", "_law_flag", defArgs s_law_flag, defBody s_law_flag, defScope s_law_flag, []⟩
def dp_law_stream : Hd.DefP := ⟨fun K => He.ga K "_law_stream", "_law_stream", "_law_stream", defArgs s_law_stream, defBody s_law_stream, defScope s_law_stream, []⟩
def dp_law_draw : Hd.DefP := ⟨fun K => He.ga K "_law_draw", "_law_draw", "_law_draw", defArgs s_law_draw, defBody s_law_draw, defScope s_law_draw, []⟩
def dp_law_names : Hd.DefP := ⟨fun K => He.ga K "_law_names", "_law_names", "_law_names", defArgs s_law_names, defBody s_law_names, defScope s_law_names, []⟩
def dp_law_do : Hd.DefP := ⟨fun K => He.ga K "_law_do", "_law_do", "_law_do", defArgs s_law_do, defBody s_law_do, defScope s_law_do, []⟩
def dp_law_right : Hd.DefP := ⟨fun K => He.ga K "_law_right", "_law_right", "_law_right", defArgs s_law_right, defBody s_law_right, defScope s_law_right, []⟩
def dp_law : Hd.DefP := ⟨fun K => He.ga K "law", "law", "law", defArgs s_law, defBody s_law, defScope s_law, []⟩
def dp_is_name : Hd.DefP := ⟨fun K => He.ga K "is_name", "is_name", "is_name", defArgs s_is_name, defBody s_is_name, defScope s_is_name, []⟩
def dp_is_row : Hd.DefP := ⟨fun K => He.ga K "is_row", "is_row", "is_row", defArgs s_is_row, defBody s_is_row, defScope s_is_row, []⟩
def dp_check_sights : Hd.DefP := ⟨fun K => He.ga K "check_sights", "check_sights", "check_sights", defArgs s_check_sights, defBody s_check_sights, defScope s_check_sights, []⟩
def dp_check_words : Hd.DefP := ⟨fun K => He.ga K "check_words", "check_words", "check_words", defArgs s_check_words, defBody s_check_words, defScope s_check_words, []⟩
def dp_sights_without : Hd.DefP := ⟨fun K => He.ga K "sights_without", "sights_without", "sights_without", defArgs s_sights_without, defBody s_sights_without, defScope s_sights_without, []⟩
def dp_seeing : Hd.DefP := ⟨fun K => He.ga K "seeing", "seeing", "seeing", defArgs s_seeing, defBody s_seeing, defScope s_seeing, [.adr (He.dflAt ("seeing", none) 0)]⟩
def dp_View___init__ : Hd.DefP := ⟨fun K => He.ma K (He.ga K "View") "__init__", "__init__", "View.__init__", defArgs s_View___init__, defBody s_View___init__, defScope s_View___init__, [.non, .adr (He.dflAt ("View", some "__init__") 1)]⟩
def dp_View___eq__ : Hd.DefP := ⟨fun K => He.ma K (He.ga K "View") "__eq__", "__eq__", "View.__eq__", defArgs s_View___eq__, defBody s_View___eq__, defScope s_View___eq__, []⟩
def dp_View___len__ : Hd.DefP := ⟨fun K => He.ma K (He.ga K "View") "__len__", "__len__", "View.__len__", defArgs s_View___len__, defBody s_View___len__, defScope s_View___len__, []⟩
def dp_View___contains__ : Hd.DefP := ⟨fun K => He.ma K (He.ga K "View") "__contains__", "__contains__", "View.__contains__", defArgs s_View___contains__, defBody s_View___contains__, defScope s_View___contains__, []⟩
def dp_View___getitem__ : Hd.DefP := ⟨fun K => He.ma K (He.ga K "View") "__getitem__", "__getitem__", "View.__getitem__", defArgs s_View___getitem__, defBody s_View___getitem__, defScope s_View___getitem__, []⟩
def dp_View___setitem__ : Hd.DefP := ⟨fun K => He.ma K (He.ga K "View") "__setitem__", "__setitem__", "View.__setitem__", defArgs s_View___setitem__, defBody s_View___setitem__, defScope s_View___setitem__, []⟩
def dp_View___ior__ : Hd.DefP := ⟨fun K => He.ma K (He.ga K "View") "__ior__", "__ior__", "View.__ior__", defArgs s_View___ior__, defBody s_View___ior__, defScope s_View___ior__, []⟩
def dp_View___isub__ : Hd.DefP := ⟨fun K => He.ma K (He.ga K "View") "__isub__", "__isub__", "View.__isub__", defArgs s_View___isub__, defBody s_View___isub__, defScope s_View___isub__, []⟩
def dp_View_words : Hd.DefP := ⟨fun K => Hd.gAt K (He.ga K "View") "words", "words", "View.words", defArgs s_View_words, defBody s_View_words, defScope s_View_words, []⟩
def dp_View_sights : Hd.DefP := ⟨fun K => Hd.gAt K (He.ga K "View") "sights", "sights", "View.sights", defArgs s_View_sights, defBody s_View_sights, defScope s_View_sights, []⟩
def dp_View_holds : Hd.DefP := ⟨fun K => Hd.gAt K (He.ga K "View") "holds", "holds", "View.holds", defArgs s_View_holds, defBody s_View_holds, defScope s_View_holds, []⟩
def dp_View_hold_just : Hd.DefP := ⟨fun K => He.ma K (He.ga K "View") "hold_just", "hold_just", "View.hold_just", defArgs s_View_hold_just, defBody s_View_hold_just, defScope s_View_hold_just, []⟩
def dp_View_copy : Hd.DefP := ⟨fun K => He.ma K (He.ga K "View") "copy", "copy", "View.copy", defArgs s_View_copy, defBody s_View_copy, defScope s_View_copy, []⟩
def fnL : List Hd.DefP := [dp_law_flag, dp_law_stream, dp_law_draw, dp_law_names, dp_law_do, dp_law_right, dp_law, dp_is_name, dp_is_row, dp_check_sights, dp_check_words, dp_sights_without, dp_seeing, dp_View___init__, dp_View___eq__, dp_View___len__, dp_View___contains__, dp_View___getitem__, dp_View___setitem__, dp_View___ior__, dp_View___isub__, dp_View_words, dp_View_sights, dp_View_holds, dp_View_hold_just, dp_View_copy]
def faL : List He.Fa := [.glo "_law_flag", .glo "_law_stream", .glo "_law_draw", .glo "_law_names", .glo "_law_do", .glo "_law_right", .glo "law", .glo "is_name", .glo "is_row", .glo "check_sights", .glo "check_words", .glo "sights_without", .glo "seeing", .glo "View", .free "len", .free "isinstance", .free "sorted", .free "range", .free "enumerate", .free "zip", .free "all", .free "int", .free "list", .free "tuple", .free "set", .free "str", .free "bool", .free "dict", .free "min", .str "LETTERS" "abcdefghijklmnopqrstuvwxyz", .int "LONGEST_NAME" 12, .cls "View", .mkr "View", .noat "View" "sight_table", .noat "View" "hold_list", .meth "View" "copy", .meth "View" "hold_just"]
def exL (K : PySem.W.Frag) : Bool := (Hd.propB K (He.ga K "View") "words" && (Hd.propB K (He.ga K "View") "sights" && (Hd.propB K (He.ga K "View") "holds" && (tupA K (He.dflAt ("View", some "__init__") 1 K) && (biB K (He.ga K "View") && (ownB K (He.ga K "View") && (spcB K (He.ga K "View") "__len__" && (spcB K (He.ga K "View") "__contains__" && (spcB K (He.ga K "View") "__getitem__" && (spcB K (He.ga K "View") "__setitem__" && (ixB K (He.ga K "View") (He.ma K (He.ga K "View") "__ior__") "or" && (ixB K (He.ga K "View") (He.ma K (He.ga K "View") "__isub__") "sub" && true))))))))))))
section
variable {P : Program} {w : World} {K : PySem.W.Frag} {h : Heap} {mg : PySem.Str → Option Value}
theorem bt_of (X : K.In h) (G : h.Ns mainGlobals mg) (c : Hd.Says faL exL fnL K) : Bt mg := ⟨He.free_ok X G (c.fact 14 (f := .free "len") rfl), He.free_ok X G (c.fact 15 (f := .free "isinstance") rfl), He.free_ok X G (c.fact 16 (f := .free "sorted") rfl), He.free_ok X G (c.fact 17 (f := .free "range") rfl), He.free_ok X G (c.fact 18 (f := .free "enumerate") rfl), He.free_ok X G (c.fact 19 (f := .free "zip") rfl), He.free_ok X G (c.fact 20 (f := .free "all") rfl), He.free_ok X G (c.fact 21 (f := .free "int") rfl), He.free_ok X G (c.fact 22 (f := .free "list") rfl), He.free_ok X G (c.fact 23 (f := .free "tuple") rfl), He.free_ok X G (c.fact 24 (f := .free "set") rfl), He.free_ok X G (c.fact 25 (f := .free "str") rfl), He.free_ok X G (c.fact 26 (f := .free "bool") rfl), He.free_ok X G (c.fact 27 (f := .free "dict") rfl), He.free_ok X G (c.fact 28 (f := .free "min") rfl), let ⟨t, e⟩ := He.str_ok X G (c.fact 29 (f := .str "LETTERS" "abcdefghijklmnopqrstuvwxyz") rfl); ⟨_, e, t, rfl⟩, let ⟨t, e⟩ := He.int_ok X G (c.fact 30 (f := .int "LONGEST_NAME" 12) rfl); ⟨_, e, t, rfl⟩⟩
theorem at_law_flag (X : K.In h) (G : h.Ns mainGlobals mg) (c : Hd.Says faL exL fnL K) : At K mg "_law_flag" s_law_flag := ⟨_, let ⟨fd, F⟩ := c.def_ 0 (d := dp_law_flag) rfl; ⟨fd, F, He.glo_ok X G (c.fact 0 (f := .glo "_law_flag") rfl)⟩⟩
theorem at_law_stream (X : K.In h) (G : h.Ns mainGlobals mg) (c : Hd.Says faL exL fnL K) : At K mg "_law_stream" s_law_stream := ⟨_, let ⟨fd, F⟩ := c.def_ 1 (d := dp_law_stream) rfl; ⟨fd, F, He.glo_ok X G (c.fact 1 (f := .glo "_law_stream") rfl)⟩⟩
theorem at_law_draw (X : K.In h) (G : h.Ns mainGlobals mg) (c : Hd.Says faL exL fnL K) : At K mg "_law_draw" s_law_draw := ⟨_, let ⟨fd, F⟩ := c.def_ 2 (d := dp_law_draw) rfl; ⟨fd, F, He.glo_ok X G (c.fact 2 (f := .glo "_law_draw") rfl)⟩⟩
theorem at_law_names (X : K.In h) (G : h.Ns mainGlobals mg) (c : Hd.Says faL exL fnL K) : At K mg "_law_names" s_law_names := ⟨_, let ⟨fd, F⟩ := c.def_ 3 (d := dp_law_names) rfl; ⟨fd, F, He.glo_ok X G (c.fact 3 (f := .glo "_law_names") rfl)⟩⟩
theorem at_law_do (X : K.In h) (G : h.Ns mainGlobals mg) (c : Hd.Says faL exL fnL K) : At K mg "_law_do" s_law_do := ⟨_, let ⟨fd, F⟩ := c.def_ 4 (d := dp_law_do) rfl; ⟨fd, F, He.glo_ok X G (c.fact 4 (f := .glo "_law_do") rfl)⟩⟩
theorem at_law_right (X : K.In h) (G : h.Ns mainGlobals mg) (c : Hd.Says faL exL fnL K) : At K mg "_law_right" s_law_right := ⟨_, let ⟨fd, F⟩ := c.def_ 5 (d := dp_law_right) rfl; ⟨fd, F, He.glo_ok X G (c.fact 5 (f := .glo "_law_right") rfl)⟩⟩
theorem at_law (X : K.In h) (G : h.Ns mainGlobals mg) (c : Hd.Says faL exL fnL K) : At K mg "law" s_law := ⟨_, let ⟨fd, F⟩ := c.def_ 6 (d := dp_law) rfl; ⟨fd, F, He.glo_ok X G (c.fact 6 (f := .glo "law") rfl)⟩⟩
theorem at_is_name (X : K.In h) (G : h.Ns mainGlobals mg) (c : Hd.Says faL exL fnL K) : At K mg "is_name" s_is_name := ⟨_, let ⟨fd, F⟩ := c.def_ 7 (d := dp_is_name) rfl; ⟨fd, F, He.glo_ok X G (c.fact 7 (f := .glo "is_name") rfl)⟩⟩
theorem at_is_row (X : K.In h) (G : h.Ns mainGlobals mg) (c : Hd.Says faL exL fnL K) : At K mg "is_row" s_is_row := ⟨_, let ⟨fd, F⟩ := c.def_ 8 (d := dp_is_row) rfl; ⟨fd, F, He.glo_ok X G (c.fact 8 (f := .glo "is_row") rfl)⟩⟩
theorem at_check_sights (X : K.In h) (G : h.Ns mainGlobals mg) (c : Hd.Says faL exL fnL K) : At K mg "check_sights" s_check_sights := ⟨_, let ⟨fd, F⟩ := c.def_ 9 (d := dp_check_sights) rfl; ⟨fd, F, He.glo_ok X G (c.fact 9 (f := .glo "check_sights") rfl)⟩⟩
theorem at_check_words (X : K.In h) (G : h.Ns mainGlobals mg) (c : Hd.Says faL exL fnL K) : At K mg "check_words" s_check_words := ⟨_, let ⟨fd, F⟩ := c.def_ 10 (d := dp_check_words) rfl; ⟨fd, F, He.glo_ok X G (c.fact 10 (f := .glo "check_words") rfl)⟩⟩
theorem at_sights_without (X : K.In h) (G : h.Ns mainGlobals mg) (c : Hd.Says faL exL fnL K) : At K mg "sights_without" s_sights_without := ⟨_, let ⟨fd, F⟩ := c.def_ 11 (d := dp_sights_without) rfl; ⟨fd, F, He.glo_ok X G (c.fact 11 (f := .glo "sights_without") rfl)⟩⟩
theorem def_seeing (c : Hd.Says faL exL fnL K) : ∃ fd, FunD K "seeing" "seeing" (defArgs s_seeing) (defBody s_seeing) (defScope s_seeing) [He.Dv.v K (.adr (He.dflAt ("seeing", none) 0))] [] (He.ga K "seeing") fd := c.def_ 12 (d := dp_seeing) rfl
theorem gl_seeing (X : K.In h) (G : h.Ns mainGlobals mg) (c : Hd.Says faL exL fnL K) : mg "seeing" = some (.ref (He.ga K "seeing")) := He.glo_ok X G (c.fact 12 (f := .glo "seeing") rfl)
theorem cls_View (c : Hd.Says faL exL fnL K) : Cls K (He.ga K "View") := He.cls_ok (c.fact 31 (f := .cls "View") rfl)
theorem gl_View (X : K.In h) (G : h.Ns mainGlobals mg) (c : Hd.Says faL exL fnL K) : mg "View" = some (.ref (He.ga K "View")) := He.glo_ok X G (c.fact 13 (f := .glo "View") rfl)
theorem mkr_View (c : Hd.Says faL exL fnL K) : Mk K (He.ga K "View") (He.ma K (He.ga K "View") "__init__") := He.mkr_ok (c.fact 32 (f := .mkr "View") rfl)
theorem no_View_sight_table (c : Hd.Says faL exL fnL K) : NoAttr K (He.ga K "View") "sight_table" := He.noat_ok (c.fact 33 (f := .noat "View" "sight_table") rfl)
theorem no_View_hold_list (c : Hd.Says faL exL fnL K) : NoAttr K (He.ga K "View") "hold_list" := He.noat_ok (c.fact 34 (f := .noat "View" "hold_list") rfl)
theorem meth_View_copy (c : Hd.Says faL exL fnL K) : Meth K (He.ga K "View") "copy" (He.ma K (He.ga K "View") "copy") := He.meth_ok (c.fact 35 (f := .meth "View" "copy") rfl)
theorem meth_View_hold_just (c : Hd.Says faL exL fnL K) : Meth K (He.ga K "View") "hold_just" (He.ma K (He.ga K "View") "hold_just") := He.meth_ok (c.fact 36 (f := .meth "View" "hold_just") rfl)
theorem pr_View_words (c : Hd.Says faL exL fnL K) : PropOf K (He.ga K "View") "words" (Hd.pAt K (He.ga K "View") "words") (Hd.gAt K (He.ga K "View") "words") := Hd.propB_ok (He.ba c.all.2.1).1
theorem pr_View_sights (c : Hd.Says faL exL fnL K) : PropOf K (He.ga K "View") "sights" (Hd.pAt K (He.ga K "View") "sights") (Hd.gAt K (He.ga K "View") "sights") := Hd.propB_ok (He.ba (He.ba c.all.2.1).2).1
theorem pr_View_holds (c : Hd.Says faL exL fnL K) : PropOf K (He.ga K "View") "holds" (Hd.pAt K (He.ga K "View") "holds") (Hd.gAt K (He.ga K "View") "holds") := Hd.propB_ok (He.ba (He.ba (He.ba c.all.2.1).2).2).1
theorem ex_0 (c : Hd.Says faL exL fnL K) : (tupA K (He.dflAt ("View", some "__init__") 1 K)) = true := (He.ba (He.ba (He.ba (He.ba c.all.2.1).2).2).2).1
theorem ex_1 (c : Hd.Says faL exL fnL K) : (biB K (He.ga K "View")) = true := (He.ba (He.ba (He.ba (He.ba (He.ba c.all.2.1).2).2).2).2).1
theorem ex_2 (c : Hd.Says faL exL fnL K) : (ownB K (He.ga K "View")) = true := (He.ba (He.ba (He.ba (He.ba (He.ba (He.ba c.all.2.1).2).2).2).2).2).1
theorem ex_3 (c : Hd.Says faL exL fnL K) : (spcB K (He.ga K "View") "__len__") = true := (He.ba (He.ba (He.ba (He.ba (He.ba (He.ba (He.ba c.all.2.1).2).2).2).2).2).2).1
theorem ex_4 (c : Hd.Says faL exL fnL K) : (spcB K (He.ga K "View") "__contains__") = true := (He.ba (He.ba (He.ba (He.ba (He.ba (He.ba (He.ba (He.ba c.all.2.1).2).2).2).2).2).2).2).1
theorem ex_5 (c : Hd.Says faL exL fnL K) : (spcB K (He.ga K "View") "__getitem__") = true := (He.ba (He.ba (He.ba (He.ba (He.ba (He.ba (He.ba (He.ba (He.ba c.all.2.1).2).2).2).2).2).2).2).2).1
theorem ex_6 (c : Hd.Says faL exL fnL K) : (spcB K (He.ga K "View") "__setitem__") = true := (He.ba (He.ba (He.ba (He.ba (He.ba (He.ba (He.ba (He.ba (He.ba (He.ba c.all.2.1).2).2).2).2).2).2).2).2).2).1
theorem ex_7 (c : Hd.Says faL exL fnL K) : (ixB K (He.ga K "View") (He.ma K (He.ga K "View") "__ior__") "or") = true := (He.ba (He.ba (He.ba (He.ba (He.ba (He.ba (He.ba (He.ba (He.ba (He.ba (He.ba c.all.2.1).2).2).2).2).2).2).2).2).2).2).1
theorem ex_8 (c : Hd.Says faL exL fnL K) : (ixB K (He.ga K "View") (He.ma K (He.ga K "View") "__isub__") "sub") = true := (He.ba (He.ba (He.ba (He.ba (He.ba (He.ba (He.ba (He.ba (He.ba (He.ba (He.ba (He.ba c.all.2.1).2).2).2).2).2).2).2).2).2).2).2).1
theorem def_View___init__ (c : Hd.Says faL exL fnL K) : ∃ fd, FunD K "__init__" "View.__init__" (defArgs s_View___init__) (defBody s_View___init__) (defScope s_View___init__) [He.Dv.v K (.non), He.Dv.v K (.adr (He.dflAt ("View", some "__init__") 1))] [] (He.ma K (He.ga K "View") "__init__") fd := c.def_ 13 (d := dp_View___init__) rfl
theorem def_View___eq__ (c : Hd.Says faL exL fnL K) : ∃ fd, FunD K "__eq__" "View.__eq__" (defArgs s_View___eq__) (defBody s_View___eq__) (defScope s_View___eq__) [] [] (He.ma K (He.ga K "View") "__eq__") fd := c.def_ 14 (d := dp_View___eq__) rfl
theorem def_View___len__ (c : Hd.Says faL exL fnL K) : ∃ fd, FunD K "__len__" "View.__len__" (defArgs s_View___len__) (defBody s_View___len__) (defScope s_View___len__) [] [] (He.ma K (He.ga K "View") "__len__") fd := c.def_ 15 (d := dp_View___len__) rfl
theorem def_View___contains__ (c : Hd.Says faL exL fnL K) : ∃ fd, FunD K "__contains__" "View.__contains__" (defArgs s_View___contains__) (defBody s_View___contains__) (defScope s_View___contains__) [] [] (He.ma K (He.ga K "View") "__contains__") fd := c.def_ 16 (d := dp_View___contains__) rfl
theorem def_View___getitem__ (c : Hd.Says faL exL fnL K) : ∃ fd, FunD K "__getitem__" "View.__getitem__" (defArgs s_View___getitem__) (defBody s_View___getitem__) (defScope s_View___getitem__) [] [] (He.ma K (He.ga K "View") "__getitem__") fd := c.def_ 17 (d := dp_View___getitem__) rfl
theorem def_View___setitem__ (c : Hd.Says faL exL fnL K) : ∃ fd, FunD K "__setitem__" "View.__setitem__" (defArgs s_View___setitem__) (defBody s_View___setitem__) (defScope s_View___setitem__) [] [] (He.ma K (He.ga K "View") "__setitem__") fd := c.def_ 18 (d := dp_View___setitem__) rfl
theorem def_View___ior__ (c : Hd.Says faL exL fnL K) : ∃ fd, FunD K "__ior__" "View.__ior__" (defArgs s_View___ior__) (defBody s_View___ior__) (defScope s_View___ior__) [] [] (He.ma K (He.ga K "View") "__ior__") fd := c.def_ 19 (d := dp_View___ior__) rfl
theorem def_View___isub__ (c : Hd.Says faL exL fnL K) : ∃ fd, FunD K "__isub__" "View.__isub__" (defArgs s_View___isub__) (defBody s_View___isub__) (defScope s_View___isub__) [] [] (He.ma K (He.ga K "View") "__isub__") fd := c.def_ 20 (d := dp_View___isub__) rfl
theorem def_View_words (c : Hd.Says faL exL fnL K) : ∃ fd, FunD K "words" "View.words" (defArgs s_View_words) (defBody s_View_words) (defScope s_View_words) [] [] (Hd.gAt K (He.ga K "View") "words") fd := c.def_ 21 (d := dp_View_words) rfl
theorem prop_View_words {P : Program} {w : World} {base : Heap} {sp : Sp} (c : Hd.Says faL exL fnL K) (ok : ∀ {f : Addr} {fd : FuncData}, FunD K "words" "View.words" (defArgs s_View_words) (defBody s_View_words) (defScope s_View_words) [] [] f fd → FnOk P w K mg base CX0 1 f fd ["self"] sp) : Pr P w K mg base 1 (He.ga K "View") "words" sp := let ⟨fd, F⟩ := def_View_words c; ⟨⟨_, _, fd, _, pr_View_words c, cls_View c, ok F, FunD.bindsN (ps := ["self"]) F (fun _ _ _ _ _ _ us hl => match us, hl with | [_], _ => rfl)⟩⟩
theorem def_View_sights (c : Hd.Says faL exL fnL K) : ∃ fd, FunD K "sights" "View.sights" (defArgs s_View_sights) (defBody s_View_sights) (defScope s_View_sights) [] [] (Hd.gAt K (He.ga K "View") "sights") fd := c.def_ 22 (d := dp_View_sights) rfl
theorem prop_View_sights {P : Program} {w : World} {base : Heap} {sp : Sp} (c : Hd.Says faL exL fnL K) (ok : ∀ {f : Addr} {fd : FuncData}, FunD K "sights" "View.sights" (defArgs s_View_sights) (defBody s_View_sights) (defScope s_View_sights) [] [] f fd → FnOk P w K mg base CX0 1 f fd ["self"] sp) : Pr P w K mg base 1 (He.ga K "View") "sights" sp := let ⟨fd, F⟩ := def_View_sights c; ⟨⟨_, _, fd, _, pr_View_sights c, cls_View c, ok F, FunD.bindsN (ps := ["self"]) F (fun _ _ _ _ _ _ us hl => match us, hl with | [_], _ => rfl)⟩⟩
theorem def_View_holds (c : Hd.Says faL exL fnL K) : ∃ fd, FunD K "holds" "View.holds" (defArgs s_View_holds) (defBody s_View_holds) (defScope s_View_holds) [] [] (Hd.gAt K (He.ga K "View") "holds") fd := c.def_ 23 (d := dp_View_holds) rfl
theorem prop_View_holds {P : Program} {w : World} {base : Heap} {sp : Sp} (c : Hd.Says faL exL fnL K) (ok : ∀ {f : Addr} {fd : FuncData}, FunD K "holds" "View.holds" (defArgs s_View_holds) (defBody s_View_holds) (defScope s_View_holds) [] [] f fd → FnOk P w K mg base CX0 1 f fd ["self"] sp) : Pr P w K mg base 1 (He.ga K "View") "holds" sp := let ⟨fd, F⟩ := def_View_holds c; ⟨⟨_, _, fd, _, pr_View_holds c, cls_View c, ok F, FunD.bindsN (ps := ["self"]) F (fun _ _ _ _ _ _ us hl => match us, hl with | [_], _ => rfl)⟩⟩
theorem def_View_hold_just (c : Hd.Says faL exL fnL K) : ∃ fd, FunD K "hold_just" "View.hold_just" (defArgs s_View_hold_just) (defBody s_View_hold_just) (defScope s_View_hold_just) [] [] (He.ma K (He.ga K "View") "hold_just") fd := c.def_ 24 (d := dp_View_hold_just) rfl
theorem def_View_copy (c : Hd.Says faL exL fnL K) : ∃ fd, FunD K "copy" "View.copy" (defArgs s_View_copy) (defBody s_View_copy) (defScope s_View_copy) [] [] (He.ma K (He.ga K "View") "copy") fd := c.def_ 25 (d := dp_View_copy) rfl
end

section
variable {P : Program} {w : World} {K : PySem.W.Frag} {h base : Heap} {mg : PySem.Str → Option Value}
theorem vwc (c : Hd.Says faL exL fnL K) : VwC K (He.ga K "View") := ⟨cls_View c, no_View_sight_table c, no_View_hold_list c⟩
theorem facts {f : Addr} (X : K.In h) (G : h.Ns mainGlobals mg) (hfa : mg ("law" : PySem.Str) = some (.ref f)) (c : Hd.Says faL exL fnL K) :
    ∃ fd : FuncData, (∀ (s : Shared) (v : Value), BindsTo s fd ⟨[v], []⟩ [("_law_script", v)]) ∧ ∀ base : Heap, K.In base → base.Ns mainGlobals mg → FnOk P w K mg base CX0 8 f fd ["_law_script"] (spLaw K) := by
  have T := bt_of X G c
  have vc := vwc c
  have bi : Bi K (He.ga K "View") := bi_ok (ex_1 c)
  obtain ⟨⟨f', fd, F, g⟩⟩ := at_law X G c
  have e := hfa.symm.trans g
  cases e
  have b := FunD.bindsA (ps := ["_law_script"]) F (fun _ _ _ _ _ _ us hl => match us, hl with | [_], _ => rfl)
  refine ⟨fd, fun s v => b s [v] rfl, fun base _ _ => ?_⟩
  have c_is_name : Cl P w K mg base 1 "is_name" (spIsName K) [] := cl_is_name T (at_is_name X G c)
  have c_is_row : Cl P w K mg base 1 "is_row" (spIsRow K) [] := cl_is_row T (at_is_row X G c)
  have c_check_sights : Cl P w K mg base 2 "check_sights" (spCheckSights K) [] := cl_check_sights T c_is_name (at_check_sights X G c)
  have c_check_words : Cl P w K mg base 2 "check_words" (spCheckWords K) [] := cl_check_words T c_is_row c_is_name (at_check_words X G c)
  have c_law_stream : Cl P w K mg base 1 "_law_stream" (spStream K) [] := cl_stream T (at_law_stream X G c)
  have c_law_draw : Cl P w K mg base 1 "_law_draw" spDraw [] := cl_draw T (at_law_draw X G c)
  have c_law_flag : Cl P w K mg base 1 "_law_flag" spFlag [] := cl_flag T (at_law_flag X G c)
  have c_law_names := cl_names T c_law_draw (at_law_names X G c)
  have p_words : Pr P w K mg base 1 (He.ga K "View") "words" (spVwWords (He.ga K "View")) := prop_View_words c (fun F => ok_vw_words T vc F)
  have p_sights : Pr P w K mg base 1 (He.ga K "View") "sights" (spVwSights (He.ga K "View")) := prop_View_sights c (fun F => ok_vw_sights T vc F)
  have p_holds : Pr P w K mg base 1 (He.ga K "View") "holds" (spVwHolds (He.ga K "View")) := prop_View_holds c (fun F => ok_vw_holds T vc F)
  obtain ⟨f1, F1⟩ := def_View___len__ c
  have y1 : Ow P w K mg base 1 (He.ga K "View") "__len__" (spVwLen (He.ga K "View")) := ⟨⟨_, f1, _, ok_vw_len T vc F1, FunD.bindsN (ps := ["self"]) F1 (fun _ _ _ _ _ _ us hl => match us, hl with | [_], _ => rfl), spc_ok (ex_3 c)⟩⟩
  obtain ⟨f2, F2⟩ := def_View___contains__ c
  have y2 : Ow P w K mg base 2 (He.ga K "View") "__contains__" (spVwIn K (He.ga K "View")) := ⟨⟨_, f2, _, ok_vw_in T vc c_is_name F2, FunD.bindsN (ps := ["self", "x"]) F2 (fun _ _ _ _ _ _ us hl => match us, hl with | [_, _], _ => rfl), spc_ok (ex_4 c)⟩⟩
  obtain ⟨f3, F3⟩ := def_View___getitem__ c
  have y3 : Ow P w K mg base 2 (He.ga K "View") "__getitem__" (spVwItem (He.ga K "View")) := ⟨⟨_, f3, _, ok_vw_item T vc c_is_name F3, FunD.bindsN (ps := ["self", "at"]) F3 (fun _ _ _ _ _ _ us hl => match us, hl with | [_, _], _ => rfl), spc_ok (ex_5 c)⟩⟩
  obtain ⟨f4, F4⟩ := def_View___setitem__ c
  have y4 : Ow P w K mg base 2 (He.ga K "View") "__setitem__" (spVwSet (He.ga K "View")) := ⟨⟨_, f4, _, ok_vw_set T vc c_is_name F4, FunD.bindsN (ps := ["self", "at", "worth"]) F4 (fun _ _ _ _ _ _ us hl => match us, hl with | [_, _, _], _ => rfl), spc_ok (ex_6 c)⟩⟩
  obtain ⟨f5, F5⟩ := def_View___eq__ c
  have o1 : Oq P w K mg base 1 (He.ga K "View") (spVwEq8 K (He.ga K "View")) := ⟨⟨_, f5, _, ok_vw_eq8 T vc (gl_View X G c) F5, FunD.bindsN (ps := ["self", "other"]) F5 (fun _ _ _ _ _ _ us hl => match us, hl with | [_, _], _ => rfl), own_ok (ex_2 c)⟩⟩
  obtain ⟨vi, Vi⟩ := def_View___init__ c
  have ov := ok_view (P := P) (w := w) (mg := mg) (base := base) T vc c_check_sights c_check_words Vi
  obtain ⟨d0, v0, b0⟩ := Vi.binds1 (ps := ["self", "sights", "holds"]) 1 0 (fun z => nomatch z) rfl fun _ _ _ _ _ _ _ us its hl hi => match us, its, hl, hi with | [_], [_, _], _, _ => ⟨_, rfl, rfl⟩
  have k0 : Mr P w K mg base 3 "View" (He.ga K "View") (spView K (He.ga K "View")) [.non, .ref (He.dflAt ("View", some "__init__") 1 K)] := ⟨⟨_, vi, _, d0, mkr_View c, ov, gl_View X G c, b0, v0⟩⟩
  obtain ⟨d1, v1, b1⟩ := Vi.binds1 (ps := ["self", "sights", "holds"]) 2 1 (fun z => nomatch z) rfl fun _ _ _ _ _ _ _ us its hl hi => match us, its, hl, hi with | [_, _], [_, _], _, _ => ⟨_, rfl, rfl⟩
  have k1 : Mr P w K mg base 3 "View" (He.ga K "View") (spView K (He.ga K "View")) [.ref (He.dflAt ("View", some "__init__") 1 K)] := ⟨⟨_, vi, _, d1, mkr_View c, ov, gl_View X G c, b1, v1⟩⟩
  obtain ⟨d2, v2, b2⟩ := Vi.binds1 (ps := ["self", "sights", "holds"]) 3 2 (fun z => nomatch z) rfl fun _ _ _ _ _ _ _ us its hl hi => match us, its, hl, hi with | [_, _, _], [_, _], _, _ => ⟨_, rfl, rfl⟩
  have k2 : Mr P w K mg base 3 "View" (He.ga K "View") (spView K (He.ga K "View")) [] := ⟨⟨_, vi, _, d2, mkr_View c, ov, gl_View X G c, b2, v2⟩⟩
  obtain ⟨f6, F6⟩ := def_View_copy c
  have mc : Me P w K mg base 5 (He.ga K "View") "copy" (spVwCopy (He.ga K "View")) := ⟨⟨_, f6, _, meth_View_copy c, vc.cl, ok_vw_copy T vc k2 F6, FunD.bindsN (ps := ["self"]) F6 (fun _ _ _ _ _ _ us hl => match us, hl with | [_], _ => rfl)⟩⟩
  obtain ⟨f7, F7⟩ := def_View_hold_just c
  have mh : Me P w K mg base 3 (He.ga K "View") "hold_just" (spVwHold K (He.ga K "View")) := ⟨⟨_, f7, _, meth_View_hold_just c, vc.cl, ok_vw_hold T vc c_check_words F7, FunD.bindsN (ps := ["self", "words"]) F7 (fun _ _ _ _ _ _ us hl => match us, hl with | [_, _], _ => rfl)⟩⟩
  have hcd := tupA_ok (ex_0 c)
  have c_without : Cl P w K mg base 1 "sights_without" (spWithout K) [] := (at_sights_without X G c).cal (ps := ["sights", "words"]) (fun _ _ F => ok_without T F) (fun _ _ _ _ _ _ us hl => match us, hl with | [_, _], _ => rfl)
  obtain ⟨f11, F11⟩ := def_View___ior__ c
  have ior : OpO.Ix P w K mg base 3 (He.ga K "View") "or" (spIor8 (He.ga K "View")) := by
    obtain ⟨r1, r2, r3⟩ := ixB_ok (ex_7 c)
    exact ⟨⟨_, f11, _, r1, r2, r3, ok_vw_ior8 T vc c_check_sights F11, FunD.bindsN (ps := ["self", "other"]) F11 (fun _ _ _ _ _ _ us hl => match us, hl with | [_, _], _ => rfl)⟩⟩
  obtain ⟨f12, F12⟩ := def_View___isub__ c
  have isub : OpO.Ix P w K mg base 3 (He.ga K "View") "sub" (spIsub8 K (He.ga K "View")) := by
    obtain ⟨r1, r2, r3⟩ := ixB_ok (ex_8 c)
    exact ⟨⟨_, f12, _, r1, r2, r3, ok_vw_isub8 T vc c_check_words c_without F12, FunD.bindsN (ps := ["self", "other"]) F12 (fun _ _ _ _ _ _ us hl => match us, hl with | [_, _], _ => rfl)⟩⟩
  obtain ⟨fs, Fs⟩ := def_seeing c
  obtain ⟨dt, vt, bt⟩ := Fs.binds1 (ps := ["words", "holds"]) 2 1 (fun z => nomatch z) rfl fun _ _ _ _ _ _ _ us its hl hi => match us, its, hl, hi with | [_, _], [_], _, _ => ⟨_, rfl, rfl⟩
  have cs : Cl P w K mg base 5 "seeing" (spSeeing8 K (He.ga K "View")) [] := ⟨⟨_, fs, _, dt, ok_seeing8 T c_check_words k2 Fs, gl_seeing X G c, Fs.kp, bt, vt⟩⟩
  have c_law_right := cl_right8 T c_law_flag p_words p_sights p_holds y1 y2 y3 (at_law_right X G c)
  have c_law_do := cl_do8 T c_law_draw cs y4 mh mc ior isub (at_law_do X G c)
  exact ok_law T vc bi hcd c_law_stream c_law_names c_law_flag c_law_do c_law_right k2 k0 mc o1 F
end
end Lw

namespace Lw
open PySem PySem.Spec PyProof.Rows L2
abbrev RW_ : PySem.W.OpenRow := PySem.W.OpenLaw.row PySem.Challenge.rw_leastguards_k08_whole_view_history
def loose : List PySem.Str := (["GuardError", "BadWord", "BadView", "LETTERS", "LONGEST_NAME", "is_name", "is_row", "check_sights", "check_words", "sights_without", "View", "seeing", "_law_flag", "_law_stream", "_law_draw", "_law_names", "_law_do", "_law_right"] : List PySem.Str)
abbrev hk : PySem.W.Hook := Hd.hook 8 faL exL fnL
def ob (s : PySem.W.SharedT) : Hd.Obs := Hd.obsG 8 faL exL fnL (HandSHeadRun.getT s)
theorem ob_eq (s : PySem.W.SharedT) : ob s = hk.obs s.abs := Hd.obsG_eq (HandSHeadRun.getT_eq s)
theorem run (w : World) : HandSHeadRun.RunEq RW_ (PySem.W.view RW_.prog [22]) hk ob 20000 loose w := by
  intro os
  kernel_rfl
end Lw

open PySem PySem.W PySem.Calls PyProof.Rows
theorem PySem.Challenge.cw_leastguards_k08_whole_view_history_holds : PySem.Challenge.rw_leastguards_k08_whole_view_history.Holds := by
  w_on; o_law
  refine HandSHeadRun.head_any (r := OpenLaw.row PySem.Challenge.rw_leastguards_k08_whole_view_history) (q := view (OpenLaw.row PySem.Challenge.rw_leastguards_k08_whole_view_history).prog [22]) (H := Lw.hk) (ob := Lw.ob) (M := 20000) (loose := Lw.loose) (d := HandSHeadRun.topDef (OpenLaw.row PySem.Challenge.rw_leastguards_k08_whole_view_history).prog 22) (kwd := []) Lw.ob_eq
    (by kernel_rfl) (fun s => by kernel_rfl) Lw.run (by kernel_rfl) (by kernel_rfl) (by kernel_rfl) (by rfl) (by first | assumption | decide +kernel) (by decide +kernel) ⟨rfl, rfl, rfl, rfl, rfl, by decide +kernel⟩ ?hw ?hc
  case hw => w_witness2
  case hc =>
    refine L2.walk_ofE (l := PySem.Challenge.rw_leastguards_k08_whole_view_history) (n := 63) (k := 8) (x := "_law_script") (CX := L2.CX0) rfl (by decide) (by kernel_rfl) ⟨rfl, by decide, by decide⟩ ?F (fun _ _ _ _ z => z)
    intro w mg fa h Y G hmg0
    obtain ⟨K, KX, c⟩ := Y
    have hmg : mg ("law" : PySem.Str) = some (.ref fa) := by
      have e : (HandSHeadRun.topDef (OpenLaw.row PySem.Challenge.rw_leastguards_k08_whole_view_history).prog 22).name = ("law" : PySem.Str) := by kernel_rfl
      rw [← e]
      exact hmg0
    obtain ⟨fd, hb, hF⟩ := Lw.facts (P := (PySem.Challenge.rw_leastguards_k08_whole_view_history).prog) (w := w) KX G hmg c
    exact ⟨K, fd, Lw.spLaw K, KX, hb, fun H a ns hl _ hS => ⟨a, ns, rfl, hS, fun _ => rfl⟩, hF⟩

